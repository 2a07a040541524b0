/-
  slices.Concat of texts.
-/
import Derived.Test.YtoikgkjkcampkaaE2
import Derived.Test.YtoikgkjkcampkaaKN
namespace Go.Proofs.Ytoikgkjkcampkaa
open Go.RowKit

/-- How many bytes the first texts have. -/
def lenTo (l : List (List Nat)) (i : Nat) : Nat := (l.take i).flatten.length
theorem flat_step (l : List (List Nat)) {i : Nat} (hi : i < l.length) : (l.take (i + 1)).flatten = (l.take i).flatten ++ l.getD i [] := by
  rw [List.take_succ_eq_append_getElem hi, List.flatten_append]
  simp [List.getD_eq_getElem?_getD, hi]
theorem lenTo_step (l : List (List Nat)) {i : Nat} (hi : i < l.length) : lenTo l (i + 1) = lenTo l i + (l.getD i []).length := by
  unfold lenTo
  rw [flat_step l hi, List.length_append]
theorem lenTo_all (l : List (List Nat)) {i : Nat} (hi : i = l.length) : lenTo l i = l.flatten.length := by
  subst hi
  unfold lenTo
  rw [List.take_length]
theorem lenTo_le (l : List (List Nat)) : ∀ d i, i + d = l.length → lenTo l i ≤ l.flatten.length
  | 0, i, h => by rw [lenTo_all l (by omega)]; exact Nat.le_refl _
  | d + 1, i, h => by
    have h1 := lenTo_le l d (i + 1) (by omega)
    rw [lenTo_step l (by omega)] at h1
    omega
theorem OwnB.fresh {w w0 : World} {v : Value} {bs : List Nat} (o : OwnB w w0.heap.size v bs) : ∃ A c, v = .slice A bs.length c ∧ bs.length ≤ c ∧ Bs w A bs ∧ Fresh w0 A bs := by
  by_cases h : bs.length = 0
  · obtain ⟨A, c, e, h1, h2⟩ := o.bs
    exact ⟨A, c, e, h1, h2, .inl h⟩
  · obtain ⟨hB, o⟩ := o
    obtain ⟨g, cap, rfl, hnc, hg, hp⟩ := o.pre (by omega)
    refine ⟨_, cap, rfl, hnc, ⟨hB, .inr ⟨g, 0, rfl, hp.lt, fun j hj => by rw [Nat.zero_add]; exact hp.cell hj⟩⟩, .inr fun b o e => ?_⟩
    injection e with e
    injection e with e
    omega

set_option maxRecDepth 100000 in
set_option maxHeartbeats 4000000 in
theorem concatB_calls (v : Value) (l : List (List Nat)) (hn : l.length ≤ 64) (h0 : 0 < l.flatten.length) (h1 : l.flatten.length ≤ 1048576) (w : World) (hV : Vs w v l) :
    Calls Try.prog 24 #[v] w fun e w' => ∃ A c, e = .returned (.slice A l.flatten.length c) ∧ l.flatten.length ≤ c ∧ Bs w' A l.flatten ∧ Fresh w A l.flatten ∧ Ext w w' := by
  obtain ⟨i8, hi8, hz0, hz1, hz2⟩ := info_parts infoByte
  have HI := veil (And.intro hi8 (And.intro hz0 (And.intro hz1 hz2)))
  clear hi8 hz0 hz1 hz2
  obtain ⟨hB, AL, c, rfl, hc, hx⟩ := hV
  obtain ⟨n, hn'⟩ : ∃ n, n = l.length := ⟨_, rfl⟩
  obtain ⟨T, hT⟩ : ∃ T, T = l.flatten.length := ⟨_, rfl⟩
  rw [← hn'] at hx hc hn ⊢
  rw [← hT] at h0 h1 ⊢
  have HX := veil (And.intro hx (And.intro hn' (And.intro hB hT)))
  clear hx hn' hB hT
  go_enter Try.func24, Try.ntmps24
  go_wp2
  go_loop [3, 11] (fun v3 v11 => ∃ i : Nat, i ≤ n ∧ v11 = .int .i64 (i : Int) ∧ v3 = .int .i64 ((lenTo l i : Nat) : Int)) (fun _ v11 => n - (intOf v11).toNat)
  case atStart => exact ⟨0, by omega, rfl, rfl⟩
  case round =>
    obtain ⟨i, hi, rfl, rfl⟩ := hrel
    by_cases hlt : i < n
    · have hd1 : decide ((i : Int) < (n : Int)) = true := by simp; omega
      have hii : (i : Int) < (n : Int) := by omega
      have hil : i < l.length := by have := HX.out.2.1; omega
      obtain ⟨b, o, hA, hb, hcl⟩ := HX.out.1.resolve_left (by omega)
      obtain ⟨A, c', c0, _, _⟩ := hcl i hlt
      have hst := lenTo_step l hil
      have hle := lenTo_le l (l.length - (i + 1)) (i + 1) (by omega)
      rw [← HX.out.2.2.2, hst] at hle
      have HS := veil hst
      obtain ⟨S, hS⟩ : ∃ S, S = lenTo l i := ⟨_, rfl⟩
      obtain ⟨L, hL⟩ : ∃ L, L = (l.getD i []).length := ⟨_, rfl⟩
      rw [← hS, ← hL] at hle HS
      rw [← hS]
      rw [← hL] at c0
      subst hA
      clear hcl hst hS hL hil
      go_wp2
      go_round
      case rel => exact ⟨i + 1, by omega, by go_num, by rw [HS.out]; go_num⟩
      case measure => simp [intOf]; omega
    · obtain rfl : i = n := by omega
      have hd1 : decide ((i : Int) < (i : Int)) = false := by simp
      rw [lenTo_all l HX.out.2.1, ← HX.out.2.2.2]
      have HGR := veil (fun W => grow_calls T h0 h1 W)
      go_wp2_with fail
      refine (HGR.out _).mono ?_
      rintro e w1 ⟨⟨v, rfl, hown⟩, hE⟩
      have hO : OwnB w1 w.heap.size v [] := ⟨(fun _ h => by cases h), hown _⟩
      clear hown HGR
      go_wp2
      go_loopw [6, 27] (fun v6 v27 wr => ∃ k : Nat, k ≤ i ∧ v27 = .int .i64 (k : Int) ∧ OwnB wr w.heap.size v6 (l.take k).flatten ∧ Ext w wr) (fun _ v27 _ => i - (intOf v27).toNat)
      case atStart => exact ⟨0, by omega, rfl, hO, hE⟩
      case round =>
        clear hO hE
        obtain ⟨k, hk, rfl, hO, hE⟩ := hrel
        by_cases hlt : k < i
        · have hd2 : decide ((k : Int) < (i : Int)) = true := by simp; omega
          have hki : (k : Int) < (i : Int) := by omega
          have hil : k < l.length := by have := HX.out.2.1; omega
          obtain ⟨b, o, hA, hb, hcl⟩ := HX.out.1.resolve_left (by omega)
          obtain ⟨A, c', h2, h3, h4⟩ := hcl k hlt
          have c0 := (hE.cell hb).trans h2
          have hst := lenTo_step l hil
          have hle := lenTo_le l (l.length - (k + 1)) (k + 1) (by omega)
          rw [← HX.out.2.2.2, hst] at hle
          unfold lenTo at hle
          have hfl := flat_step l hil
          obtain ⟨D1, hD1⟩ : ∃ D, D = (l.take k).flatten := ⟨_, rfl⟩
          rw [← hD1] at hfl hle hO
          generalize l.getD k [] = D0 at *
          obtain ⟨L, hL⟩ : ∃ L, L = D0.length := ⟨_, rfl⟩
          rw [← hL] at c0 h3 hle
          have hfr := (h4.ext hE).from
          rw [← hL] at hfr
          have HFR := veil hfr
          have HS := veil (And.intro hfl (And.intro hle (And.intro hO (And.intro h4 (And.intro hE hL)))))
          subst hA
          clear hcl hst hle hfl hO h2 h4 hE hL hfr hil hD1
          go_wp2_with (at_builtin; refine wpList_append_from _ rfl _ _ _ rfl w.heap.size 5 i8 (.int .u8 0) 1 Try.underlying23 HI.out.1 HI.out.2.1 HI.out.2.2.1 HI.out.2.2.2 rfl _ _ _ rfl HS.out.2.2.1.2 A L c' rfl _ HFR.out (fun _ => rfl) (by unfold maxLen; have := HS.out.2.1; omega) (by have := HS.out.2.1; omega) (Below.size HS.out.2.2.2.2.1) ?_)
          intro v' w' hO' hG' _
          have hE' : Ext w w' := HS.out.2.2.2.2.1.grown hG' (Below.size HS.out.2.2.2.2.1) fun k hk => (HS.out.2.2.1.2.lt hk).1
          have hO9 : OwnB w' w.heap.size v' (D1 ++ D0) := OwnB.append hO' HS.out.2.2.1.1 HS.out.2.2.2.1.1 rfl HS.out.2.2.2.2.2
          rw [← HS.out.1] at hO9
          clear hO' hG'
          go_wp2
          go_roundw
          case rel => exact ⟨k + 1, by omega, by go_num, hO9, hE'⟩
          case measure => simp [intOf]; omega
        · obtain rfl : k = i := by omega
          have hd2 : decide ((k : Int) < (k : Int)) = false := by simp
          have e : (l.take k).flatten = l.flatten := by rw [HX.out.2.1, List.take_length]
          rw [e] at hO
          obtain ⟨A, c2, rfl, hc2, hB2, hF2⟩ := hO.fresh
          rw [← HX.out.2.2.2] at hc2 ⊢
          clear hO
          go_wp2
          go_ret
          exact ⟨A, c2, rfl, hc2, hB2, hF2, hE⟩
end Go.Proofs.Ytoikgkjkcampkaa
