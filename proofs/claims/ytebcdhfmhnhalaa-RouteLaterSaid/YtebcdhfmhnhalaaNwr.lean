/-
  route.ridesTill: the landed package's own.
-/
import Derived.Test.YtebcdhfmhnhalaaNwp
import Derived.Test.YtebcdhfmhnhalaaNwq
namespace Go.Proofs.Ytebcdhfmhnhalaa
open Go.RowKit

abbrev inT (till : Int) (r : Rd) : Bool := decide (r.en ≤ till)
theorem inT_yes {till : Int} {L : List Rd} {i : Nat} (hi : i < L.length) (h : (L.getD i noRd).en ≤ till) : (L.take (i + 1)).filter (inT till) = (L.take i).filter (inT till) ++ [L.getD i noRd] := by
  rw [List.take_add_one, rd_get hi, List.filter_append]
  generalize L.getD i noRd = c at *
  simp [inT, h]
theorem inT_no {till : Int} {L : List Rd} {i : Nat} (hi : i < L.length) (h : ¬ (L.getD i noRd).en ≤ till) : (L.take (i + 1)).filter (inT till) = (L.take i).filter (inT till) := by
  rw [List.take_add_one, rd_get hi, List.filter_append]
  generalize L.getD i noRd = c at *
  have h' : till < c.en := by omega
  simp [inT, h']
theorem tillR_take (ss : List Sv) (cs : List Cn) (till D : Int) (K i : Nat) {L : List Rd} (hL : L.length ≤ cs.length) : (tillR ss cs till D K ++ (L.take i).filter (inT till)).length ≤ (K + 1) * cs.length := by
  have h1 := tillR_len ss cs till D K
  have h2 := List.length_filter_le (inT till) (L.take i)
  rw [List.length_take] at h2
  rw [List.length_append, Nat.add_mul]
  omega
section
variable {α : Type} {sz : Nat} {cs : α → List Value} {w w' : World} {v : Value} {l : List α} {P : Program} {base ty : Nat}
/-- In a plain region; where what grew lies now. -/
theorem wpl_append_lsO {i : TypeInfo} {z : Value} {bytes t : Nat} (ht : P.underlying t = some (.slice ty)) (hi : P.info? ty = some i) (hz : i.zero = some z) (hsize : i.size = sz) (hby : i.bytes = bytes) (hzs : z.cells.size = sz) (hsz : 0 < sz)
    (hcs : ∀ x, (cs x).length = sz) (h1 : ∀ x, ∀ u ∈ cs x, u.oneCell' = true) {ops : Array Oper} {Q : Exit → Act → World → Prop} {rest : List Oper} {op : Oper} {a : Act} {s x : Operand} (hgd : op.guard = none) (hop : op.op = .call { callee := .builtin .append, args := #[s, x], argTypes := #[t, t] })
    (hs : a.eval s = v) {ys : List α} {A : Option Addr} {m c : Nat} (hx : a.eval x = .slice A m c) (o : OwnL sz cs w base ty v l) (hm : m = ys.length) (hy : Ls sz cs w (.slice A m c) ys)
    (h63 : l.length + m ≤ maxLen) (hbytes : (l.length + m) * bytes ≤ 140737488355328) (hbase : base ≤ w.heap.size)
    (h : ∀ v' w', OwnL sz cs w' base ty v' (l ++ ys) → w.grownBy w' v.ownBlock → (v'.ownBlock = v.ownBlock ∨ v'.ownBlock = some w.heap.size) → wpList P ops Q rest (a.put op.dst v') w') : wpList P ops Q (op :: rest) a w := by
  refine wpList_plain hgd fun K hK => ?_
  obtain ⟨v', w', hr, h2, h3, h4⟩ := run_append_ls (P := P) ht hi hz hsize hby hzs hsz hcs h1 op.type o hm hy h63 hbytes hbase
  unfold Oper.wp execOp
  simp only [hop, resolve, invoke, builtin, Sem.run_bind, Sem.run_pure, Result.andThen_ok, List.map_toArray, List.map_cons, List.map_nil, hs, hx, hr]
  exact hK _ _ (h v' w' h2 h3 h4)
/-- At A lie the ones of l, apart from v's own block. -/
def LAp (sz : Nat) (cs : α → List Value) (w : World) (A : Option Addr) (l : List α) (v : Value) : Prop :=
  l.length = 0 ∨ ∃ b o, A = some ⟨b, o, none⟩ ∧ b < w.heap.size ∧ (∀ k, v.ownBlock = some k → k ≠ b) ∧ ∀ i x, l[i]? = some x → w.rangeAt b (o + i * sz) (cs x)
theorem LAp.of {x : Value} (o : OwnL sz cs w base ty x l) (hcs : ∀ x, (cs x).length = sz) (h : ∀ k, v.ownBlock = some k → k < base) : ∃ A c, x = .slice A l.length c ∧ l.length ≤ c ∧ LAp sz cs w A l v := by
  obtain ⟨A, c, e, hc, hx⟩ := OwnL.ls hcs o
  refine ⟨A, c, e, hc, hx.imp id ?_⟩
  rintro ⟨b, o', hA, hb, hr⟩
  refine ⟨b, o', hA, hb, fun k hk => ?_, hr⟩
  subst hA
  rcases o.2 with ⟨h1, _⟩ | ⟨g, cap, cur, h1, hg, _⟩
  · rw [e] at h1; cases h1
  · rw [e] at h1
    injection h1 with h1 _ _
    injection h1 with h1
    injection h1 with h1 _ _
    have := h k hk
    omega
theorem LAp.ext {A : Option Addr} (h : LAp sz cs w A l v) (k : Ext w w') : LAp sz cs w' A l v :=
  h.imp id fun ⟨b, o, hA, hb, hne, hr⟩ => ⟨b, o, hA, Nat.lt_of_lt_of_le hb (Below.size k), hne, fun i x hi => range_ext k hb (hr i x hi)⟩
theorem LAp.grown {A : Option Addr} {v' : Value} (h : LAp sz cs w A l v) (k : w.grownBy w' v.ownBlock) (hv : v'.ownBlock = v.ownBlock ∨ v'.ownBlock = some w.heap.size) : LAp sz cs w' A l v' :=
  h.imp id fun ⟨b, o, hA, hb, hne, hr⟩ => ⟨b, o, hA, Nat.lt_of_lt_of_le hb k.size, fun q hq => by
    rcases hv with e | e
    · exact hne q (by rw [← e]; exact hq)
    · rw [e] at hq
      injection hq with hq
      omega, fun i x hi j u hu => by
    have e : w'.heap[b]? = w.heap[b]? := k.block b hb fun e => hne b e.symm rfl
    exact (World.cell?_of_block (a := ⟨b, o + i * sz + j, none⟩) e).trans (hr i x hi j u hu)⟩
end

set_option maxRecDepth 100000 in
set_option maxHeartbeats 16000000 in
theorem ridesTill_calls (v : Value) (n : Nw) (D : Nat) (till : Int) (w : World) (hF : Nv13 w v n) (hM : mayN n = true) (hD8 : D ≤ 750000) (ht : till ≤ 1440 * (D : Int) + 5760) :
    Calls Try.prog 18 #[v, .int .i64 (D : Int), .int .i64 till] w fun e w' => ∃ (x : Value) (d : List Rd) (K : Nat), e = .returned x ∧ Ls 4 rdC w' x d ∧ (d.Pairwise fun a b => a.bg ≤ b.bg) ∧ d.Perm (tillR n.ss n.cs till (D : Int) K) ∧ till ≤ 1440 * ((D : Int) + (K : Int)) ∧ K ≤ 4 ∧ Ext w w' := by
  have hm100 := (mayN_is hM).2.1
  have KR := veil (fun (E : Nat) W (h : Ext w W) (hE : E ≤ 800000) => ridesOf_calls v n E W (hF.ext h) hM hE)
  obtain ⟨vS, vC, ws, rfl, ⟨hS, -⟩, -, hC⟩ := hF
  obtain ⟨AS, cS, rfl, -, -⟩ := hS
  obtain ⟨AC, cC, rfl, -, -⟩ := hC
  generalize ws.length = k at *
  obtain ⟨m, hm⟩ : ∃ m, m = n.cs.length := ⟨_, rfl⟩
  rw [← hm] at hm100 KR ⊢
  have HM := veil hm
  have hE0 := Ext.alloc w (.cells #[.slice AS k cS, .slice AC m cC] 25)
  have hS0 := NwAt.new w (.slice AS k cS) (.slice AC m cC)
  obtain ⟨i32, hi, hz, hsz, hby⟩ := info_partsR infoRdS
  have HI := veil (And.intro hi (And.intro hz (And.intro hsz hby)))
  have KS := veil (fun v l base W h hl => sortRd_calls v l base W h hl)
  clear hM hm hi hz hsz hby
  go_enter Try.func18, Try.ntmps18
  go_upto_region 1 with (fail)
  unfold NwAt at hS0
  obtain ⟨g, hg⟩ : ∃ g, g = w.heap.size := ⟨_, rfl⟩
  rw [← hg] at hS0 ⊢
  generalize w.alloc (.cells #[.slice AS k cS, .slice AC m cC] 25) = w0 at *
  have HS := veil (show NwAt w0 g (.slice AS k cS) (.slice AC m cC) from hS0)
  have HE := veil hE0
  clear hE0 hS0 hg
  go_wp2
  go_loopw [1, 7] (fun u v wr => ∃ K : Nat, K ≤ 4 ∧ u = .int .i64 ((D + K : Nat) : Int) ∧ OwnL 4 rdC wr w0.heap.size 56 v (tillR n.ss n.cs till (D : Int) K) ∧ Ext w0 wr)
    (fun u _ _ => D + 4 - (intOf u).toNat)
  case atStart => exact ⟨0, by omega, rfl, OwnL.nil _ _ _, Ext.refl _⟩
  case round =>
    obtain ⟨K, hK, rfl, hO, hE⟩ := hrel
    obtain ⟨E, hEK⟩ : ∃ E, E = D + K := ⟨_, rfl⟩
    rw [← hEK]
    have hE8 : E ≤ 800000 := by omega
    have kM : IntKind.i64.wrap (1440 * (E : Int)) = 1440 * (E : Int) := by rw [IntKind.wrap_i64]; omega
    have kM' : IntKind.i64.wrap ((E : Int) * 1440) = 1440 * (E : Int) := by rw [IntKind.wrap_i64]; omega
    by_cases hlt : 1440 * (E : Int) < till
    · have hd1 : decide (1440 * (E : Int) < till) = true := decide_eq_true hlt
      have hK3 : K < 4 := by omega
      have HO := veil (And.intro hO (And.intro hE (And.intro hEK hK3)))
      clear hO hE hEK hlt hK hK3
      go_upto_region 5 with (first
        | ((with_reducible refine at_slot 16 ?_); refine wpList_load_row rfl 25 _ rfl g rfl 25 #[.slice AS k cS, .slice AC m cC] (0, 0) _ (HS.out.ext HO.out.2.1) Try.underlying25 rfl iNw ?_)
        | (go_at_call 24; refine (KR.out E _ (HE.out.trans HO.out.2.1) hE8).mono ?_; rintro e w1 ⟨x, rfl, hL, hE1⟩; obtain ⟨A, c, rfl, hc, hx⟩ := LAp.of (v := u7) hL rdC_length (fun k hk => (HO.out.1.lt hk).2); have HX := veil (And.intro hx hE1); clear hx hE1 hL))
      obtain ⟨L, hL⟩ : ∃ L, L = dayR n.ss n.cs (E : Int) := ⟨_, rfl⟩
      rw [← hL] at HX hc ⊢
      obtain ⟨q, hq⟩ : ∃ q, q = L.length := ⟨_, rfl⟩
      rw [← hq] at hc ⊢
      have hqm : q ≤ m := by rw [hq, hL, HM.out]; exact dayR_len _ _ _
      have HL := veil (And.intro hL hq)
      have hO1 := HO.out.1.keep HX.out.2
      have hE1 := HO.out.2.1.trans HX.out.2
      clear hL hq
      go_loopw [7, 20] (fun v u wq => ∃ i : Nat, i ≤ q ∧ u = .int .i64 (i : Int) ∧ OwnL 4 rdC wq w0.heap.size 56 v (tillR n.ss n.cs till (D : Int) K ++ (L.take i).filter (inT till)) ∧ LAp 4 rdC wq A L v ∧ Ext w0 wq)
        (fun _ u _ => q - (intOf u).toNat)
      case atStart => exact ⟨0, by omega, rfl, by simpa using hO1, HX.out.1, hE1⟩
      case round =>
        clear hO1 hE1 HX
        obtain ⟨i, hi, rfl, hO2, hLA, hE2⟩ := hrel
        by_cases hlt : i < q
        · have hd2 : decide ((i : Int) < (q : Int)) = true := by simp; omega
          have hii : (i : Int) < (q : Int) := by omega
          have hil : i < L.length := by have := HL.out.2; omega
          have hLA2 := hLA
          obtain ⟨b, o, hA, hb, -, hcl⟩ := hLA2.resolve_left (by omega)
          have hrg := hcl i _ (rd_get hil)
          have hyes := inT_yes (till := till) hil
          have hno := inT_no (till := till) hil
          have hlen := tillR_take n.ss n.cs till (D : Int) K i (L := L) (by have := HL.out.2; have := HM.out; omega)
          rw [← HM.out] at hlen
          have hlen2 : (tillR n.ss n.cs till (D : Int) K ++ (L.take i).filter (inT till)).length ≤ 1000 := by
            have h1 := HO.out.2.2.2
            have h2 : (K + 1) * m ≤ 4 * 100 := Nat.mul_le_mul (by omega) hm100
            omega
          obtain ⟨r, hr⟩ : ∃ r, r = L.getD i noRd := ⟨_, rfl⟩
          rw [← hr] at hrg hyes hno
          clear hr hil hcl hb hlen
          obtain ⟨P, hP⟩ : ∃ P, P = tillR n.ss n.cs till (D : Int) K ++ (L.take i).filter (inT till) := ⟨_, rfl⟩
          rw [← hP] at hO2 hlen2
          have hv2 := hO2.ls rdC_length
          have hAA := hA
          subst hAA
          have HGr := veil hrg
          have HQ := veil (And.intro hO2 (And.intro hE2 (And.intro hLA (And.intro hlen2 (And.intro hP (And.intro hyes hno))))))
          clear hrg hO2 hE2 hlen2 hP hyes hno hv2 hLA
          go_upto_region 7 with (first
            | ((with_reducible refine at_slot 23 ?_); refine wpList_load_mid rfl 56 _ rfl b _ rfl (rdC r) _ HGr.out Try.underlying56 rfl (iRd _) ?_)
            | ((with_reducible refine at_slot 9 ?_); refine wpl_var _ _ rfl rfl rfl rfl rfl rfl hzRd (fun _ => rfl) (fun _ => rfl) (iRdA r) rfl (rdA_one r) ?_; intro gf W hgf hW hEW))
          have hgb : RdAt W gf r := hW
          have e3 := hgb.at3
          have HB := veil (And.intro hW (And.intro (HQ.out.1.keep hEW) (And.intro (HQ.out.2.1.trans hEW) (HQ.out.2.2.1.ext hEW))))
          obtain ⟨en, hen⟩ : ∃ z, z = r.en := ⟨_, rfl⟩
          rw [← hen] at e3
          have HN := veil hen
          clear hgb hW hgf hEW hen
          by_cases g3 : en ≤ till
          · have d3 : decide (en ≤ till) = true := decide_eq_true g3
            have HY := veil (HQ.out.2.2.2.2.2.1 (by rw [← HN.out]; exact g3))
            clear g3
            obtain ⟨fr, bg, tu, en2⟩ := r
            have hgb : W.heap[gf]? = some (.cells #[.int .i64 fr, .int .i64 bg, .int .i64 tu, .int .i64 en2] 56 (0, 0)) := HB.out.1
            have HG2 := veil hgb
            clear hgb
            go_upto_region 8 with (fail)
            have hEE := HB.out.2.2.1.trans (Ext.alloc W (.cells (rdC ⟨fr, bg, tu, en2⟩).toArray 56))
            have hLA1 := HB.out.2.2.2.ext (Ext.alloc W (.cells (rdC ⟨fr, bg, tu, en2⟩).toArray 56))
            have x1 := HB.out.2.1.keep (Ext.alloc W (.cells (rdC ⟨fr, bg, tu, en2⟩).toArray 56))
            have x2 : Ls 4 rdC (W.alloc (.cells (rdC ⟨fr, bg, tu, en2⟩).toArray 56)) (.slice (some ⟨W.heap.size, 0, none⟩) 1 1) [⟨fr, bg, tu, en2⟩] := ls_one (x := (⟨fr, bg, tu, en2⟩ : Rd)) (heap_new W (.cells (rdC ⟨fr, bg, tu, en2⟩).toArray 56))
            have x3 : P.length + 1 ≤ maxLen := by have := HQ.out.2.2.2.1; unfold maxLen; omega
            have x4 : (P.length + 1) * 32 ≤ 140737488355328 := by have := HQ.out.2.2.2.1; omega
            have HEE := veil (And.intro hEE (And.intro hLA1 (And.intro x1 (And.intro x2 (And.intro x3 x4)))))
            clear hLA1 x1 x2 x3 x4
            go_wp2_with (first
              | ((with_reducible refine at_slot 29 ?_); refine wpList_load_row rfl 56 _ rfl gf rfl 56 #[.int .i64 fr, .int .i64 bg, .int .i64 tu, .int .i64 en2] (0, 0) _ HG2.out Try.underlying56 rfl (iRdA ⟨fr, bg, tu, en2⟩) ?_)
              | ((with_reducible refine at_slot 31 ?_); refine wpl_append_lsO (sz := 4) (cs := rdC) (l := P) (ys := [(⟨fr, bg, tu, en2⟩ : Rd)]) Try.underlying49 HI.out.1 HI.out.2.1 HI.out.2.2.1 HI.out.2.2.2 rfl (by decide) rdC_length rdC_one rfl rfl rfl rfl HEE.out.2.2.1 rfl HEE.out.2.2.2.1 HEE.out.2.2.2.2.1 HEE.out.2.2.2.2.2 (Below.size HEE.out.1) ?_; intro v2 w2 hO2 hG2 hV2))
            have hE2 := HEE.out.1.grown hG2 (Below.size HEE.out.1) fun q hq => (HB.out.2.1.lt hq).1
            go_roundw
            case rel => exact ⟨i + 1, by omega, by go_num, by rw [HY.out, ← List.append_assoc, ← HQ.out.2.2.2.2.1]; exact hO2, HEE.out.2.1.grown hG2 hV2, hE2⟩
            case measure => simp [intOf]; omega
          · have d3 : decide (en ≤ till) = false := decide_eq_false g3
            have HY := veil (HQ.out.2.2.2.2.2.2 (by rw [← HN.out]; exact g3))
            clear g3
            go_wp2
            go_roundw
            case rel => exact ⟨i + 1, by omega, by go_num, by rw [HY.out, ← HQ.out.2.2.2.2.1]; exact HB.out.2.1, HB.out.2.2.2, HB.out.2.2.1⟩
            case measure => simp [intOf]; omega
        · obtain rfl : i = q := by omega
          have hd2 : decide ((i : Int) < (i : Int)) = false := by simp
          have ht : L.take i = L := by rw [HL.out.2, List.take_length]
          rw [ht] at hO2
          have HT := veil (And.intro hO2 hE2)
          clear hO2 hE2 ht hLA
          go_wp2
          go_roundw
          case rel =>
            refine ⟨K + 1, HO.out.2.2.2, by have := HO.out.2.2.1; go_num, ?_, HT.out.2⟩
            show OwnL 4 rdC _ _ _ _ (tillR n.ss n.cs till (D : Int) K ++ (dayR n.ss n.cs ((D : Int) + (K : Int))).filter (inT till))
            rw [show (D : Int) + (K : Int) = (E : Int) by have := HO.out.2.2.1; omega, ← HL.out.1]
            exact HT.out.1
          case measure => have := HO.out.2.2.1; have := HO.out.2.2.2; simp [intOf]; omega
    · have hd1 : decide (1440 * (E : Int) < till) = false := decide_eq_false hlt
      have hlen := tillR_len n.ss n.cs till (D : Int) K
      have h4 : K * n.cs.length ≤ 4 * 100 := Nat.mul_le_mul hK (by rw [← HM.out]; exact hm100)
      have KS2 := veil (KS.out u7 _ _ wr hO (by omega))
      have HO := veil (And.intro (HE.out.trans hE) (And.intro (show ∀ k, u7.ownBlock = some k → w.heap.size ≤ k from fun k hk => Nat.le_trans (Below.size HE.out) (hO.lt hk).1) (And.intro hEK (And.intro hlt hK))))
      clear hO hE hlt hEK hK hlen h4
      go_upto_region 11 with (go_at_call 25; refine KS2.out.mono ?_; rintro e w5 ⟨rfl, d, hsrt, hperm, hO5, hG5⟩)
      have hE5 := HO.out.1.grown hG5 (Below.size HO.out.1) HO.out.2.1
      have hLs := hO5.ls rdC_length
      have HZ := veil (And.intro hsrt (And.intro hperm (And.intro hLs hE5)))
      clear hsrt hperm hLs hE5 hG5 hO5
      go_wp2
      go_ret
      exact ⟨_, d, K, rfl, HZ.out.2.2.1, HZ.out.1, HZ.out.2.1, by have := HO.out.2.2; omega, HO.out.2.2.2.2, HZ.out.2.2.2⟩
end Go.Proofs.Ytebcdhfmhnhalaa
