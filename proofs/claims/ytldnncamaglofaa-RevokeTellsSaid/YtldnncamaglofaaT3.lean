/-
  clapperref08.Put: the bytes of fields.
-/
import Derived.Test.YtldnncamaglofaaT2
import Derived.Test.YtldnncamaglofaaSch
import Derived.Laws.Concat
namespace Go.Proofs.Ytldnncamaglofaa
open Go.RowKit

theorem strL_size (bs : List Nat) : (strL bs).size = bs.length := by simp [strL, ByteArray.size]
theorem mayFs_ok {fs : List Fd} (h : mayFs fs = true) {i : Nat} (hi : i < fs.length) : okF fs i := (of_decide_eq_true h).2 i hi
theorem mayFs_64 {fs : List Fd} (h : mayFs fs = true) : fs.length ≤ 64 := (of_decide_eq_true h).1
theorem encF_take_le {fs : List Fd} (h : mayFs fs = true) (i : Nat) : (encF (fs.take i)).length ≤ 4194432 := by
  have h1 := encF_length_le (fs.take i) 65535 fun f hf => (mayFs_each h f (List.mem_of_mem_take hf)).2.2
  have h2 := mayFs_64 h
  have h3 : (fs.take i).length ≤ 64 := by rw [List.length_take]; omega
  omega
theorem bsF_byt {fs : List Fd} (h : BytF fs) (i : Nat) : Byt (bsF fs i) := by
  unfold bsF
  rw [List.getD_eq_getElem?_getD]
  by_cases hi : i < fs.length
  · rw [List.getElem?_eq_getElem hi]; exact h _ (List.getElem_mem hi)
  · rw [List.getElem?_eq_none (by omega)]; intro x hx; cases hx

/-- The three bytes ahead of a field's, laid. -/
theorem hdr3 {w : World} {g : Nat} {T : Int} {D0 : List Nat} {L : Nat} (h : w.heap[g]? = some (.cells #[.int .u8 T, .int .u8 ((L : Int) / 256), .int .u8 ((L : Int) % 256)] 5 (0, 0))) (h1 : 1 ≤ T) (h2 : T ≤ 255) (h3 : L ≤ 65535) (hL : L = D0.length) : Bs w (some ⟨g, 0, none⟩) (hdr (T, D0)) := by
  refine ⟨hdr_byt _, .inr ⟨g, 0, rfl, (Array.getElem?_eq_some_iff.1 h).1, fun j hj => ?_⟩⟩
  rw [Nat.zero_add, cell_of_row w g j _ _ _ h]
  subst hL
  have e0 : (((T % 256).toNat : Nat) : Int) = T := by omega
  have e1 : (((D0.length / 256 % 256 : Nat) : Nat) : Int) = (D0.length : Int) / 256 := by omega
  have e2 : (((D0.length % 256 : Nat) : Nat) : Int) = (D0.length : Int) % 256 := by omega
  match j, hj with
  | 0, _ => show some (Value.int .u8 T) = some (.int .u8 (((T % 256).toNat : Nat) : Int)); rw [e0]
  | 1, _ => show some (Value.int .u8 _) = some (.int .u8 ((D0.length / 256 % 256 : Nat) : Int)); rw [e1]
  | 2, _ => show some (Value.int .u8 _) = some (.int .u8 ((D0.length % 256 : Nat) : Int)); rw [e2]

set_option maxRecDepth 100000 in
set_option maxHeartbeats 4000000 in
theorem rput8_calls (v : Value) (fs : List Fd) (w : World) (hF : Fl w v fs) (hM : mayFs fs = true) :
    Calls Try.prog 24 #[v] w fun e w' => e = .returned (.string (strL (encF fs))) ∧ Ext w w' := by
  obtain ⟨hB, AL, c, rfl, hc, hx⟩ := hF
  obtain ⟨n, hn⟩ : ∃ n, n = fs.length := ⟨_, rfl⟩
  rw [← hn] at hx hc ⊢
  have HR := veil (And.intro hn (And.intro hM hB))
  have HX := veil hx
  have hnL : n ≤ 64 := by rw [hn]; exact mayFs_64 hM
  clear hx hB hn hM
  go_enter Try.func24, Try.ntmps24
  go_wp2
  go_loopw [3, 4, 5] (fun s v _ wr => ∃ i : Nat, i ≤ n ∧ s = .string (strL (encF (fs.take i))) ∧ v = .int .i64 (i : Int) ∧ Ext w wr)
    (fun _ v _ _ => n - (intOf v).toNat)
  case atStart => exact ⟨0, by omega, rfl, rfl, Ext.refl _⟩
  case round =>
    obtain ⟨i, hi, rfl, rfl, hE⟩ := hrel
    by_cases hlt : i < n
    · have hd1 : decide ((i : Int) < (n : Int)) = true := by simp; omega
      have hii : (i : Int) < (n : Int) := by omega
      have hok := mayFs_ok HR.out.2.1 (by have := HR.out.1; omega : i < fs.length)
      have hst := encF_take fs (by have := HR.out.1; omega : i < fs.length)
      have hle := encF_take_le HR.out.2.1 i
      obtain ⟨b, o, hAL, hb, hcl⟩ := HX.out.resolve_left (by omega)
      obtain ⟨h1, A, c', h2, h3, h4⟩ := hcl i hlt
      have c0 := (hE.cell hb).trans h1
      have c1 := (hE.cell hb).trans h2
      have hS := h4.ext hE
      obtain ⟨S, hSS⟩ : ∃ S, S = strL (encF (fs.take i)) := ⟨_, rfl⟩
      rw [← hSS]
      have hs : (S.size : Int) ≤ 4194432 := by rw [hSS, strL_size]; omega
      have HS := veil (And.intro hSS hst)
      have hT1 := hok.1
      have hT2 := hok.2.1
      have hL1 := hok.2.2.1
      clear hcl h1 h2 hok hst hle hSS h4
      generalize tgF fs i = T at *
      generalize bsF fs i = D0 at *
      obtain ⟨L, hL⟩ : ∃ L, L = D0.length := ⟨_, rfl⟩
      rw [← hL] at c1 hL1 h3
      have HD := veil (And.intro hL hS)
      clear hL hS
      subst hAL
      go_upto_region 6 with (fail)
      have hz := HD.out.2
      refine wp_sched 24 [(true, [0, 1, 2, 3, 4, 5, 6, 7, 8, 9, 10, 11, 12, 16, 17, 18, 19, 20, 21]), (false, [13]), (true, [14, 15, 22, 23])] (by kernel_rfl) (by kernel_rfl) fun Q' hQ' => ?_
      refine' sched_row (A := _) _ rfl (by kernel_rfl) ?h1 ?h2
      case h1 =>
        intro D hD hN
        have d0 := hD.cell c0
        have d1 := hD.cell c1
        have d2 : ∀ x : Gw D, (convert 23 9 (.slice A L c')).run Try.prog x.val = .ok (.string (strL D0)) x.val := fun x => by
          exact str_of (hz.ext (hD.grown _ x.property)) HD.out.1
        simp only [pickI, consO, List.getElem?_cons_zero, List.getElem?_cons_succ]
        repeat (go_big_quiet_step (fail))
        exact wpq_end
      refine sched_build (vs := [(0, .int .u8 T), (1, .int .u8 ((L : Int) / 256)), (2, .int .u8 ((L : Int) % 256))]) (C := #[.int .u8 T, .int .u8 ((L : Int) / 256), .int .u8 ((L : Int) % 256)]) (e := 5) _ rfl rfl rfl rfl rfl (fun W => by simp [Instr.buildSlice, go_sem]) ?_
      intro g W hg hgb hEW
      simp only [Act.put, List.setIfInBounds_toArray, List.set_cons_zero, List.set_cons_succ]
      have hh := hdr3 hgb hT1 hT2 hL1 HD.out.1
      refine' sched_row (A := _) _ rfl (by kernel_rfl) ?k1 ?k2
      case k1 =>
        intro D hD hN
        have d2 : ∀ x : Gw D, (convert 23 9 (.slice (some ⟨g, 0, none⟩) 3 3)).run Try.prog x.val = .ok (.string (strL (hdr (T, D0)))) x.val := fun x => by
          exact str_of (hh.ext (hD.grown _ x.property)) rfl
        have s1 : ((strL (hdr (T, D0))).size : Int) ≤ 3 := by rw [strL_size]; exact Int.le_refl _
        have s2 : ((strL D0).size : Int) ≤ 65535 := by rw [strL_size, ← HD.out.1]; omega
        have s3 : ((S ++ strL (hdr (T, D0))).size : Int) ≤ 4194435 := by rw [ByteArray.size_append]; omega
        simp only [pickI, consO, List.getElem?_cons_zero, List.getElem?_cons_succ]
        repeat (go_big_quiet_step (fail))
        exact wpq_end
      refine sched_end hQ' fun W2 hE2 => ?_
      refine NoPanic.normal ?_
      go_wp2
      go_roundw
      case rel => exact ⟨i + 1, by omega, by rw [HS.out.2, strL_append, HS.out.1]; unfold enc1; rw [strL_append, ByteArray.append_assoc], by go_num, hE.trans (hEW.trans hE2)⟩
      case measure => simp [intOf]; omega
    · obtain rfl : i = n := by omega
      have e : encF (fs.take i) = encF fs := by rw [HR.out.1, List.take_length]
      rw [e]
      go_wp2
      go_ret
      exact ⟨rfl, hE⟩
end Go.Proofs.Ytldnncamaglofaa
