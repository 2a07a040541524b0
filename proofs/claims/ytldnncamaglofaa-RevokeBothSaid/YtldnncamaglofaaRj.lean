/-
  revoke.Bytes, Parse: the landed package's own.
-/
import Derived.Test.YtldnncamaglofaaRe
import Derived.Test.YtldnncamaglofaaRp
namespace Go.Proofs.Ytldnncamaglofaa
open Go.RowKit

/-- What Bytes answers. -/
def BytesA (w' : World) (l : List Rv) (x ev : Value) : Prop :=
  (mayRs l = false ∧ x = .slice none 0 0 ∧ ev = .iface 32 (.int .i64 1)) ∨ (mayRs l = true ∧ ev = .nilIface ∧ ∃ A c, x = .slice A (revB l).length c ∧ (revB l).length ≤ c ∧ Bs w' A (revB l))

set_option maxRecDepth 100000 in
set_option maxHeartbeats 8000000 in
theorem bytes11_calls (v : Value) (l : List Rv) (w : World) (hF : Rs w v l) (hL : l.length ≤ 1000000) :
    Calls Try.prog 9 #[v] w fun e w' => ∃ x ev, e = .returned (.tuple #[x, ev]) ∧ Ext w w' ∧ BytesA w' l x ev := by
  have KM := veil (may11_calls v l w hF (by omega))
  obtain ⟨AL, c, rfl, hc, hx⟩ := hF
  obtain ⟨n, hn⟩ : ∃ n, n = l.length := ⟨_, rfl⟩
  rw [← hn] at hx hc KM ⊢
  have HX := veil (And.intro hx (And.intro hn hL))
  clear hx hn hL
  cases hm : mayRs l with
  | false =>
    rw [hm] at KM
    have HM := veil hm
    clear hm
    go_enter Try.func9, Try.ntmps9
    go_wp2_with (go_at_call 10; refine KM.out.mono ?_; rintro e w1 ⟨rfl, hE1⟩)
    go_ret2
    exact ⟨_, _, rfl, hE1, .inl ⟨HM.out, rfl, rfl⟩⟩
  | true =>
    rw [hm] at KM
    have HM := veil hm
    have hn2 : n ≤ 200 := by have := mayRs_200 hm; rw [← HX.out.2.1] at this; exact this
    clear hm
    obtain ⟨i8, hi8, hz0, hz1, hz2⟩ := info_parts infoTG
    have HI := veil (And.intro hi8 (And.intro hz0 (And.intro hz1 hz2)))
    clear hi8 hz0 hz1 hz2
    have hmul : (n : Int) * 16 = ((n * 16 : Nat) : Int) := by omega
    obtain ⟨S, hS⟩ : ∃ S, S = n * 16 := ⟨_, rfl⟩
    rw [← hS] at hmul
    have hSb : S ≤ 3200 := by omega
    clear hS
    go_enter Try.func9, Try.ntmps9
    go_upto_region 4 with (first
      | (go_at_call 10; refine KM.out.mono ?_; rintro e w1 ⟨rfl, hE1⟩; have HE1 := veil hE1; clear hE1)
      | ((with_reducible refine at_slot 14 ?_); refine wpList_make_own _ rfl _ _ 23 rfl w.heap.size 5 i8 (.int .u8 0) 1 Try.underlying23 HI.out.1 HI.out.2.1 HI.out.2.2.1 .i64 .i64 _ S rfl rfl rfl (by rw [HI.out.2.2.2]; omega) (by unfold maxLen; omega) (Below.size HE1.out) ?_; intro w3 hO3 hG3))
    have hE3 : Ext w w3 := HE1.out.grown hG3 (Below.size HE1.out) fun k hk => by cases hk
    have hO : OwnB w3 w.heap.size (.slice (some ⟨w1.heap.size, 0, none⟩) 0 S) [] := ⟨(fun _ h => by cases h), hO3⟩
    have HO := veil (And.intro hO hE3)
    clear hO3 hG3 hO hE3 hmul KM
    go_wp2
    go_loopw [4, 17] (fun s v wr => ∃ i : Nat, i ≤ n ∧ OwnB wr w.heap.size s (rvsB (l.take i)) ∧ v = .int .i64 (i : Int) ∧ Ext w wr)
      (fun _ v _ => n - (intOf v).toNat)
    case atStart => exact ⟨0, by omega, HO.out.1, rfl, HO.out.2⟩
    case round =>
      obtain ⟨i, hi, hO, rfl, hE⟩ := hrel
      by_cases hlt : i < n
      · have hd1 : decide ((i : Int) < (n : Int)) = true := by simp; omega
        have hii : (i : Int) < (n : Int) := by omega
        obtain ⟨b, o, hAL, hb, hcl⟩ := HX.out.1.resolve_left (by omega)
        have hil : i < l.length := by have := HX.out.2.1; omega
        have HRG := veil (range_ext hE hb (hcl i _ (rv_get hil)))
        obtain ⟨h1, h2, h3, h4, _⟩ := mayRs_ok HM.out hil
        have hst := rvs_step l hil
        have hsl : (rvsB (l.take i)).length ≤ 3200 := by rw [rvsB_length, List.length_take]; omega
        have hs : (l.getD i (0, 0)).1 = rvS l i := rfl
        have hf : (l.getD i (0, 0)).2 = rvF l i := rfl
        generalize l.getD i (0, 0) = k at *
        generalize rvS l i = s at *
        generalize rvF l i = f at *
        generalize rvsB (l.take i) = D at *
        have K1 := veil (fun W => code8.number s W (by omega) (by omega))
        have K2 := veil (fun W => code8.number f W (by omega) (by omega))
        have HS := veil (And.intro hst (And.intro hsl (And.intro hO hE)))
        subst hAL
        clear hst hsl hO hb hcl hil h1 h2 h3 h4 hE
        go_upto_region 7 with (first
          | ((with_reducible refine at_slot 20 ?_); refine wpList_load_mid rfl 43 _ rfl b _ rfl (rvC k) _ HRG.out Try.underlying43 rfl (iRv k) ?_)
          | ((with_reducible refine at_slot 6 ?_); refine wpl_var _ _ rfl rfl rfl rfl rfl rfl hzRv (fun _ => rfl) (fun _ => rfl) (iRvA k) (rvA_size k) (rvA_one k) ?_; intro gk W hg hW hEW))
        have hEE := HS.out.2.2.2.trans hEW
        have d0 := rv_s (rv_blk hW)
        have d1 := rv_f (rv_blk hW)
        simp only [Nat.zero_add] at d1
        rw [hs] at d0
        rw [hf] at d1
        have HW := veil (And.intro (And.intro d0 d1) (And.intro hEE (And.intro hEW (World.block_lt_of_cell? _ _ d0))))
        clear hW hEW hEE hs hf HRG d1
        go_upto_region 8 with (first
          | (go_at_call 19; refine (K1.out _).mono ?_; clear K1; rintro e w4 ⟨A4, c4, rfl, hc4, hB4, hE4⟩; have H4 := veil (And.intro hc4 (And.intro hB4 hE4)); have hfr := hB4.from; rw [numB_length] at hfr; have HFR := veil hfr; clear hc4 hB4 hE4 hfr)
          | ((with_reducible refine at_slot 25 ?_); refine wpList_append_from _ rfl _ _ 23 rfl w.heap.size 5 i8 (.int .u8 0) 1 Try.underlying23 HI.out.1 HI.out.2.1 HI.out.2.2.1 HI.out.2.2.2 rfl _ _ _ rfl (HS.out.2.2.1.ext (HW.out.2.2.1.trans H4.out.2.2)).2 A4 8 c4 rfl _ HFR.out (fun _ => rfl) (by unfold maxLen; have := HS.out.2.1; omega) (by have := HS.out.2.1; omega) (Below.size (HW.out.2.1.trans H4.out.2.2)) ?_; intro v6 w6 hO6 hG6 _))
        have hEa := HW.out.2.1.trans H4.out.2.2
        have hE6 : Ext w w6 := hEa.grown hG6 (Below.size hEa) fun k hk => (HS.out.2.2.1.2.lt hk).1
        have hO7 : OwnB w6 w.heap.size v6 (D ++ numB s) := OwnB.append hO6 HS.out.2.2.1.1 (numB_byt _) rfl (numB_length _).symm
        have d1 : w6.cell? ⟨gk, 1, none⟩ = some (.int .i64 f) := by
          have h1 := (H4.out.2.2.cell HW.out.2.2.2).trans HW.out.1.2
          exact (World.cell?_of_block (a := ⟨gk, 1, none⟩) (hG6.block gk (Nat.lt_of_lt_of_le HW.out.2.2.2 (Below.size H4.out.2.2)) fun hk => by have h5 := (HS.out.2.2.1.2.lt hk.symm).2; omega)).trans h1
        have hl7 : (D ++ numB s).length ≤ 3208 := by rw [List.length_append, numB_length]; have := HS.out.2.1; omega
        have H7 := veil (And.intro hO7 (And.intro hE6 (And.intro (World.block_lt_of_cell? _ _ d1) hl7)))
        clear hEa hE6 hO6 hG6 hO7 hl7 d0 H4 HFR
        go_wp2_with (first
          | (go_at_call 19; refine (K2.out _).mono ?_; clear K2; rintro e w7 ⟨A7, c7, rfl, hc7, hB7, hE7⟩; have H8 := veil (And.intro hc7 (And.intro hB7 hE7)); have hfr := hB7.from; rw [numB_length] at hfr; have HFR := veil hfr; clear hc7 hB7 hE7 hfr)
          | ((with_reducible refine at_slot 30 ?_); refine wpList_append_from _ rfl _ _ 23 rfl w.heap.size 5 i8 (.int .u8 0) 1 Try.underlying23 HI.out.1 HI.out.2.1 HI.out.2.2.1 HI.out.2.2.2 rfl _ _ _ rfl (H7.out.1.ext H8.out.2.2).2 A7 8 c7 rfl _ HFR.out (fun _ => rfl) (by unfold maxLen; have := H7.out.2.2.2; omega) (by have := H7.out.2.2.2; omega) (Below.size (H7.out.2.1.trans H8.out.2.2)) ?_; intro v9 w9 hO9 hG9 _))
        have hEb := H7.out.2.1.trans H8.out.2.2
        have hE9 : Ext w w9 := hEb.grown hG9 (Below.size hEb) fun k hk => (H7.out.1.2.lt hk).1
        have hO10 : OwnB w9 w.heap.size v9 (D ++ numB s ++ numB f) := OwnB.append hO9 H7.out.1.1 (numB_byt _) rfl (numB_length _).symm
        rw [List.append_assoc, ← HS.out.1] at hO10
        have HZ := veil (And.intro hO10 hE9)
        clear hO9 hG9 hEb hE9 hO10
        go_roundw
        case rel => exact ⟨i + 1, by omega, HZ.out.1, by go_num, HZ.out.2⟩
        case measure => simp [intOf]; omega
      · obtain rfl : i = n := by omega
        have hd1 : decide ((i : Int) < (i : Int)) = false := by simp
        have e : l.take i = l := by rw [HX.out.2.1, List.take_length]
        rw [e] at hO
        obtain ⟨A, c2, rfl, hc2, hB2⟩ := hO.bs
        have hmf : mayFs [((1 : Int), rvsB l)] = true := rev_may (by rw [← HX.out.2.1]; omega)
        have hR : revB l = encF [((1 : Int), rvsB l)] := rfl
        generalize rvsB l = D at *
        have KP := veil (code8.put (.slice (some ⟨wr.heap.size, 0, none⟩) 1 1) [((1 : Int), D)] (wr.alloc (.cells #[.int .i64 1, .slice A D.length c2] 48)) (fl_one (heap_new wr _) hc2 (hB2.ext (Ext.alloc wr _))) (by simp))
        have HE := veil (And.intro (hE.trans (Ext.alloc wr (.cells #[.int .i64 1, .slice A D.length c2] 48))) (And.intro hmf hR))
        clear hO hE e hc2 hB2 hmf hR
        go_wp2_with (go_at_call 20; refine KP.out.mono ?_; rintro e w5 ⟨x, ev, rfl, hE5, hA⟩)
        go_ret2
        refine ⟨x, ev, rfl, HE.out.1.trans hE5, ?_⟩
        rcases hA with ⟨h, _⟩ | ⟨_, rfl, h⟩
        · rw [HE.out.2.1] at h; cases h
        · exact .inr ⟨HM.out, rfl, by rw [HE.out.2.2]; exact h⟩

theorem bad_may {D : List Nat} (h : badR D) (h16 : D.length % 16 = 0) : mayRs (rvsOf D) = false := by
  rcases h with h | ⟨k, hk, h⟩
  · exact absurd h16 h
  · have hl : k < (rvsOf D).length := by unfold rvsOf; rw [rvsTo_length]; exact hk
    refine mayRs_false hl fun ho => ?_
    have e : (rvsOf D).getD k (0, 0) = rvAt D k := by
      rw [List.getD_eq_getElem?_getD, List.getElem?_eq_getElem hl]
      simp [rvsOf, rvsTo]
    have h1 := ho.1
    have h2 := ho.2.2.1
    unfold rvS at h1
    unfold rvF at h2
    rw [e] at h1 h2
    omega
/-- What Parse answers. -/
def ParseA (w' : World) (bs : List Nat) (x ev : Value) : Prop :=
  (revOf bs = none ∧ x = .slice none 0 0 ∧ ev = .iface 32 (.int .i64 2)) ∨ (∃ l, revOf bs = some l ∧ ev = .nilIface ∧ Rs w' x l)

set_option maxRecDepth 100000 in
set_option maxHeartbeats 8000000 in
theorem parse11_calls (A : Option Addr) (m c : Nat) (bs : List Nat) (hm : m = bs.length) (hmc : m ≤ c) (hle : m ≤ 100000000) (w : World) (hS : Bs w A bs) :
    Calls Try.prog 13 #[.slice A m c] w fun e w' => ∃ x ev, e = .returned (.tuple #[x, ev]) ∧ Ext w w' ∧ ParseA w' bs x ev := by
  have KG := veil (code8.get A m c bs w hm hmc hle hS)
  clear hm hS
  go_enter Try.func13, Try.ntmps13
  go_upto_region 2 with (go_at_call 25; refine KG.out.mono ?_; rintro e w1 ⟨x, ev, rfl, hE1, hA⟩)
  rcases hA with ⟨hg, ⟨A2, c2, rfl⟩, rfl⟩ | ⟨fs, hg, rfl, hF⟩
  · have HG := veil hg
    clear hg
    go_wp2
    go_ret2
    exact ⟨_, _, rfl, hE1, .inl ⟨revOf_no HG.out, rfl, rfl⟩⟩
  · have hlf := (of_decide_eq_true (get_some hg).2).1
    obtain ⟨hbf, AL, cf, rfl, hcf, hx⟩ := hF
    by_cases h1 : fs.length = 1
    · obtain ⟨b, o, rfl, hb, hcl⟩ := hx.resolve_left (by omega)
      obtain ⟨q0, A', c', q1, hc', hB⟩ := hcl 0 (by omega)
      have c0 : w1.cell? ⟨b, o, none⟩ = some (.int .i64 (tgF fs 0)) := by simpa using q0
      have c1 : w1.cell? ⟨b, o + 1, none⟩ = some (.slice A' (bsF fs 0).length c') := by simpa using q1
      have HG := veil (And.intro hg (And.intro hE1 h1))
      have hno : ∀ h : ¬ (fs.length = 1 ∧ tgF fs 0 = 1 ∧ (bsF fs 0).length % 16 = 0 ∧ mayRs (rvsOf (bsF fs 0)) = true), revOf bs = none := fun h => revOf_none hg h
      have hyes : ∀ h : (fs.length = 1 ∧ tgF fs 0 = 1 ∧ (bsF fs 0).length % 16 = 0 ∧ mayRs (rvsOf (bsF fs 0)) = true), revOf bs = some (rvsOf (bsF fs 0)) := fun h => revOf_some hg h
      have hok := (of_decide_eq_true (get_some hg).2).2 0 (by omega)
      have hDl : (bsF fs 0).length ≤ 65535 := hok.2.2.1
      rw [h1] at hcf ⊢
      clear q0 q1 hcl hx hb hlf hok hbf
      obtain ⟨T, hT⟩ : ∃ T, T = tgF fs 0 := ⟨_, rfl⟩
      obtain ⟨D, hD⟩ : ∃ D, D = bsF fs 0 := ⟨_, rfl⟩
      rw [← hT] at c0 hno hyes
      rw [← hD] at c1 hno hyes hB hDl hc'
      have KP := veil (parseAll_calls A' D.length c' D rfl hc' (by omega) w1 hB)
      have HN := veil (And.intro hno hyes)
      clear hno hyes hT hD hg hE1 hB
      by_cases h2 : T = 1
      · have f2 : (T != 1) = false := by simp [h2]
        have HT := veil h2
        obtain ⟨L, hL⟩ : ∃ L, L = D.length := ⟨_, rfl⟩
        rw [← hL] at c1 KP hDl hc'
        have HL := veil hL
        clear h1 h2 hL
        go_upto_region 7 with (go_at_call 26; refine KP.out.mono ?_; rintro e w2 ⟨x, ev, rfl, hE2, hA2⟩)
        rcases hA2 with ⟨hbad, rfl, rfl⟩ | ⟨hgood, rfl, hR2⟩
        · have HR := veil (HN.out.1 fun h => by have := bad_may hbad h.2.2.1; rw [h.2.2.2] at this; cases this)
          clear hbad KP
          go_wp2
          go_ret2
          exact ⟨_, _, rfl, HG.out.2.1.trans hE2, .inl ⟨HR.out, rfl, rfl⟩⟩
        · have h16 : D.length % 16 = 0 := by
            by_cases h : D.length % 16 = 0
            · exact h
            · exact absurd (.inl h) hgood
          have hlen : (rvsOf D).length ≤ 65535 := by unfold rvsOf; rw [rvsTo_length, ← HL.out]; omega
          have KM := veil (may11_calls x (rvsOf D) w2 hR2 (by omega))
          have hR2' := hR2
          obtain ⟨Ax, cx, hxe, _, _⟩ := hR2'
          generalize hLr : (rvsOf D).length = Lr at *
          subst hxe
          have HR2 := veil (And.intro hR2 (HG.out.2.1.trans hE2))
          have H16 := veil h16
          clear hR2 hE2 hgood h16 hlen hLr KP
          cases hmy : mayRs (rvsOf D) with
          | true =>
            rw [hmy] at KM
            have HR := veil (HN.out.2 ⟨HG.out.2.2, HT.out, H16.out, hmy⟩)
            clear hmy
            go_wp2_with (go_at_call 10; refine KM.out.mono ?_; rintro e w3 ⟨rfl, hE3⟩)
            go_ret2
            exact ⟨_, _, rfl, HR2.out.2.trans hE3, .inr ⟨_, HR.out, rfl, HR2.out.1.ext hE3⟩⟩
          | false =>
            rw [hmy] at KM
            have HR := veil (HN.out.1 fun h => by have := h.2.2.2; rw [hmy] at this; cases this)
            clear hmy
            go_wp2_with (go_at_call 10; refine KM.out.mono ?_; rintro e w3 ⟨rfl, hE3⟩)
            go_ret2
            exact ⟨_, _, rfl, HR2.out.2.trans hE3, .inl ⟨HR.out, rfl, rfl⟩⟩
      · have f2 : (T != 1) = true := by simp [h2]
        have HR := veil (HN.out.1 fun h => h2 h.2.1)
        clear h1 h2 KP
        go_wp2
        go_ret2
        exact ⟨_, _, rfl, HG.out.2.1, .inl ⟨HR.out, rfl, rfl⟩⟩
    · have HR := veil (revOf_none hg fun h => h1 h.1)
      have HE := veil hE1
      have f1 : ((fs.length : Int) != 1) = true := by simp; omega
      generalize fs.length = L at *
      clear h1 hg hx hbf hE1
      go_wp2
      go_ret2
      exact ⟨_, _, rfl, HE.out, .inl ⟨HR.out, rfl, rfl⟩⟩
end Go.Proofs.Ytldnncamaglofaa
