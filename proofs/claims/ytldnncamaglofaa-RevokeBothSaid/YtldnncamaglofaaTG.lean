/-
  tlv.Put: the landed package's own.
-/
import Derived.Test.YtldnncamaglofaaTF
import Derived.Test.YtldnncamaglofaaTA
namespace Go.Proofs.Ytldnncamaglofaa
open Go.RowKit

theorem infoTG : (Try.prog.info? 5).map (fun i => (i.zero, i.size, i.bytes)) = some (some (.int .u8 0), 1, 1) := by kernel_rfl
theorem put_no (v : Value) (fs : List Fd) (w : World) (hF : Fl w v fs) (hL : fs.length ≤ 1000000000) (hM : mayFs fs = false) :
    Calls Try.prog 20 #[v] w fun e w' => e = .returned (.tuple #[.slice none 0 0, .iface 32 (.int .i64 1)]) ∧ Ext w w' := by
  have KM := veil (may8_calls v fs w hF hL)
  rw [hM] at KM
  clear hF hL hM
  go_enter Try.func20, Try.ntmps20
  go_wp2_with (go_at_call 34; refine KM.out.mono ?_; rintro e w1 ⟨rfl, hE1⟩)
  go_ret2
  exact ⟨rfl, hE1⟩

set_option maxRecDepth 100000 in
set_option maxHeartbeats 4000000 in
theorem put_yes (v : Value) (fs : List Fd) (w : World) (hF : Fl w v fs) (hM : mayFs fs = true) :
    Calls Try.prog 20 #[v] w fun e w' => ∃ A c, e = .returned (.tuple #[.slice A (encF fs).length c, .nilIface]) ∧ (encF fs).length ≤ c ∧ Bs w' A (encF fs) ∧ Ext w w' := by
  have h64 := mayFs_64 hM
  have KM := veil (may8_calls v fs w hF (by omega))
  rw [hM] at KM
  have HF := veil hF
  obtain ⟨hB, AL, c, rfl, hc, hx⟩ := hF
  obtain ⟨n, hn⟩ : ∃ n, n = fs.length := ⟨_, rfl⟩
  rw [← hn] at hx hc KM HF ⊢
  have HR := veil (And.intro hn (And.intro hM hB))
  have HX := veil hx
  have hnL : n ≤ 64 := by omega
  clear hx hB hn hM h64
  go_enter Try.func20, Try.ntmps20
  go_upto_region 3 with (go_at_call 34; refine KM.out.mono ?_; rintro e w1 ⟨rfl, hE1⟩)
  have KS := veil (sizeOf_calls _ fs w1 (HF.out.ext hE1) HR.out.2.1)
  have HE1 := veil hE1
  have hle := encF_take_le HR.out.2.1 fs.length
  rw [List.take_length] at hle
  obtain ⟨S, hS⟩ : ∃ S, S = (encF fs).length := ⟨_, rfl⟩
  rw [← hS] at KS hle
  obtain ⟨i8, hi8, hz0, hz1, hz2⟩ := info_parts infoTG
  have HI := veil (And.intro hi8 (And.intro hz0 (And.intro hz1 hz2)))
  clear hE1 KM hi8 hz0 hz1 hz2 hS
  go_upto_region 4 with (first
    | (go_at_call 35; refine KS.out.mono ?_; rintro e w2 ⟨rfl, hE2⟩)
    | ((with_reducible refine at_slot 14 ?_); refine wpList_make_own _ rfl _ _ 23 rfl w.heap.size 5 i8 (.int .u8 0) 1 Try.underlying23 HI.out.1 HI.out.2.1 HI.out.2.2.1 .i64 .i64 _ S rfl rfl rfl (by rw [HI.out.2.2.2]; omega) (by unfold maxLen; omega) (Below.size (HE1.out.trans hE2)) ?_; intro w3 hO3 hG3))
  have hE3 : Ext w w3 := (HE1.out.trans hE2).grown hG3 (Below.size (HE1.out.trans hE2)) fun k hk => by cases hk
  have hO : OwnB w3 w.heap.size (.slice (some ⟨w2.heap.size, 0, none⟩) 0 S) [] := ⟨(fun _ h => by cases h), hO3⟩
  clear hO3 hG3 hE2
  go_wp2
  go_loopw [4, 17] (fun s v wr => ∃ i : Nat, i ≤ n ∧ OwnB wr w.heap.size s (encF (fs.take i)) ∧ v = .int .i64 (i : Int) ∧ Ext w wr)
    (fun _ v _ => n - (intOf v).toNat)
  case atStart => exact ⟨0, by omega, hO, rfl, hE3⟩
  case round =>
    obtain ⟨i, hi, hO, rfl, hE⟩ := hrel
    by_cases hlt : i < n
    · have hd1 : decide ((i : Int) < (n : Int)) = true := by simp; omega
      have hii : (i : Int) < (n : Int) := by omega
      have hok := mayFs_ok HR.out.2.1 (by have := HR.out.1; omega : i < fs.length)
      have hst := encF_take fs (by have := HR.out.1; omega : i < fs.length)
      have hle := encF_take_le HR.out.2.1 i
      obtain ⟨b, o, hAL, hb, hcl⟩ := HX.out.resolve_left (by omega)
      obtain ⟨h1, A, c', h2, h3, h4⟩ := hcl i hlt
      have c0 := (hE.cell hb).trans h1
      have c1 := (hE.cell hb).trans h2
      have hBS := h4
      have hT1 := hok.1
      have hT2 := hok.2.1
      have hL1 := hok.2.2.1
      have HS := veil (And.intro hst (And.intro hle hO))
      clear hcl h1 h2 hok hst hle h4 hO
      generalize tgF fs i = T at *
      generalize bsF fs i = D0 at *
      obtain ⟨L, hL⟩ : ∃ L, L = D0.length := ⟨_, rfl⟩
      rw [← hL] at c1 hL1 h3
      have HD := veil (And.intro hL hBS)
      have HRG := veil (rng_fd c0 c1)
      clear c0 c1 hL hBS
      have hL2 : (L : Int) ≤ 65535 := by omega
      subst hAL
      go_upto_region 7 with (first
        | ((with_reducible refine at_slot 20 ?_); refine wpList_load_mid rfl 48 _ rfl b _ rfl _ _ HRG.out Try.underlying48 rfl infoF2 ?_)
        | ((with_reducible refine at_slot 6 ?_); refine wpl_var _ _ rfl rfl rfl rfl rfl rfl hzF (fun _ => rfl) (fun _ => rfl) infoF2 rfl one_fd ?_; intro g W hg hW hEW))
      have hEE := hE.trans hEW
      have HW := veil (And.intro hW (And.intro hEE hEW))
      obtain ⟨d0, d1⟩ := cells_fd hW
      clear hW hEW hE hEE
      go_upto_region 9 with ((with_reducible refine at_slot 34 ?_); refine wpList_append_from _ rfl _ _ 23 rfl w.heap.size 5 i8 (.int .u8 0) 1 Try.underlying23 HI.out.1 HI.out.2.1 HI.out.2.2.1 HI.out.2.2.2 rfl _ _ _ rfl (HS.out.2.2.ext (HW.out.2.2.trans (Ext.alloc W _))).2 (some ⟨W.heap.size, 0, none⟩) 3 3 rfl _ (hdr3 (heap_new W _) hT1 hT2 hL1 HD.out.1).from (fun _ => rfl) (by unfold maxLen; have := HS.out.2.1; omega) (by have := HS.out.2.1; omega) (Nat.le_trans (Below.size HW.out.2.1) (Below.size (Ext.alloc W _))) ?_; intro v6 w6 hO6 hG6 _)
      have hEa := HW.out.2.1.trans (Ext.alloc W (.cells #[.int .u8 T, .int .u8 ((L : Int) / 256), .int .u8 ((L : Int) % 256)] 5))
      have hE6 : Ext w w6 := hEa.grown hG6 (Below.size hEa) fun k hk => (HS.out.2.2.2.lt hk).1
      have hgl : g < (W.alloc (.cells #[.int .u8 T, .int .u8 ((L : Int) / 256), .int .u8 ((L : Int) % 256)] 5)).heap.size := Nat.lt_of_lt_of_le (Array.getElem?_eq_some_iff.1 HW.out.1).1 (Below.size (Ext.alloc W _))
      have hg6 : w6.heap[g]? = some (.cells #[.int .i64 T, .slice A L c'] 48 (0, 0)) := (hG6.block g hgl fun hk => by have := (HS.out.2.2.2.lt hk.symm).2; omega).trans ((Ext.alloc W _).block HW.out.1)
      have hO7 : OwnB w6 w.heap.size v6 (encF (fs.take i) ++ hdr (T, D0)) := OwnB.append hO6 HS.out.2.2.1 (hdr_byt _) rfl rfl
      obtain ⟨e0, e1⟩ := cells_fd hg6
      have hl3 : (encF (fs.take i) ++ hdr (T, D0)).length ≤ 4194435 := by rw [List.length_append]; have := HS.out.2.1; show _ + 3 ≤ _; omega
      have H7 := veil (And.intro hO7 (And.intro hE6 (And.intro hg6 hl3)))
      have hfr := (HD.out.2.ext hE6).from
      rw [← HD.out.1] at hfr
      have HFR := veil hfr
      clear hO6 hG6 hEa hgl hg6 hO7 d0 d1 hl3 hfr hE6
      go_wp2_with ((with_reducible refine at_slot 38 ?_); refine wpList_append_from _ rfl _ _ 23 rfl w.heap.size 5 i8 (.int .u8 0) 1 Try.underlying23 HI.out.1 HI.out.2.1 HI.out.2.2.1 HI.out.2.2.2 rfl _ _ _ rfl H7.out.1.2 A L c' rfl _ HFR.out (fun _ => rfl) (by unfold maxLen; have := H7.out.2.2.2; omega) (by have := H7.out.2.2.2; omega) (Below.size H7.out.2.1) ?_; intro v8 w8 hO8 hG8 _)
      have hE8 : Ext w w8 := H7.out.2.1.grown hG8 (Below.size H7.out.2.1) fun k hk => (H7.out.1.2.lt hk).1
      have hO9 : OwnB w8 w.heap.size v8 (encF (fs.take i) ++ hdr (T, D0) ++ D0) := OwnB.append hO8 H7.out.1.1 HD.out.2.1 rfl HD.out.1
      rw [List.append_assoc] at hO9
      clear hO8 hG8
      go_roundw
      case rel => exact ⟨i + 1, by omega, by rw [HS.out.1]; exact hO9, by go_num, hE8⟩
      case measure => simp [intOf]; omega
    · obtain rfl : i = n := by omega
      have e : encF (fs.take i) = encF fs := by rw [HR.out.1, List.take_length]
      rw [e] at hO
      obtain ⟨A, c2, rfl, hc2, hB2⟩ := hO.bs
      clear hO
      go_wp2
      go_ret2
      exact ⟨A, c2, rfl, hc2, hB2, hE⟩
end Go.Proofs.Ytldnncamaglofaa
