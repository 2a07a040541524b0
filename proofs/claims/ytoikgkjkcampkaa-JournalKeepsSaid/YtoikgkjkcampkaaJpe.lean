/-
  The landed journal: split, the records that stand one behind the other in bytes.
-/
import Derived.Test.YtoikgkjkcampkaaJpd
import Derived.Test.YtoikgkjkcampkaaSch
namespace Go.Proofs.Ytoikgkjkcampkaa
open Go.RowKit

/-! ### records, whatever the fuel -/
theorem recsF_fuel : ∀ (f g : Nat) (s : List Nat), s.length ≤ f → s.length ≤ g → recsF f s = recsF g s
  | 0, g, s, h, _ => by
    obtain rfl : s = [] := List.length_eq_zero_iff.1 (by omega)
    cases g <;> rfl
  | f + 1, g, [], _, _ => by cases g <;> rfl
  | f + 1, g, [_], _, _ => by cases g <;> rfl
  | f + 1, 0, _ :: _ :: _, _, h => by simp at h
  | f + 1, g + 1, a :: b :: s, h, k => by
    simp only [List.length_cons] at h k
    unfold recsF
    rw [recsF_fuel f g (s.drop (256 * a + b)) (by rw [List.length_drop]; omega) (by rw [List.length_drop]; omega)]
def recsA (s : List Nat) : List (List Nat) := recsF s.length s
theorem recsA_short {s : List Nat} (h : s.length < 2) : recsA s = [] := by
  match s, h with
  | [], _ => rfl
  | [_], _ => rfl
theorem drop_two {bs : List Nat} {e : Nat} (h : e + 2 ≤ bs.length) : bs.drop e = bs.getD e 0 :: bs.getD (e + 1) 0 :: bs.drop (e + 2) := by
  rw [List.drop_eq_getElem_cons (by omega), List.drop_eq_getElem_cons (i := e + 1) (by omega), List.getD_eq_getElem?_getD, List.getD_eq_getElem?_getD, List.getElem?_eq_getElem (by omega), List.getElem?_eq_getElem (by omega)]
  rfl
/-- How many bytes the record at e has. -/
def lenR (bs : List Nat) (e : Nat) : Nat := 256 * bs.getD e 0 + bs.getD (e + 1) 0
theorem recsA_at {bs : List Nat} {e : Nat} (h : e + 2 ≤ bs.length) : recsA (bs.drop e) = if 1 ≤ lenR bs e ∧ lenR bs e ≤ 2000 ∧ lenR bs e ≤ bs.length - (e + 2) then seg bs (e + 2) (lenR bs e) :: recsA (bs.drop (e + 2 + lenR bs e)) else [] := by
  show recsF (bs.drop e).length (bs.drop e) = _
  rw [drop_two h]
  show (if 1 ≤ lenR bs e ∧ lenR bs e ≤ 2000 ∧ lenR bs e ≤ (bs.drop (e + 2)).length then (bs.drop (e + 2)).take (lenR bs e) :: recsF ((bs.drop (e + 2)).length + 1) ((bs.drop (e + 2)).drop (lenR bs e)) else []) = _
  rw [List.drop_drop, recsF_fuel _ (bs.drop (e + 2 + lenR bs e)).length _ (by rw [List.length_drop, List.length_drop]; omega) (Nat.le_refl _), List.length_drop]
  rfl
theorem or_i64 {a b : Nat} (ha : a < 256) (hb : b < 256) : bits .or .i64 ((a : Int) * 256) (b : Int) = ((256 * a + b : Nat) : Int) := by
  have h := (bits_nat .i64 62 (by decide) (fun n h0 h1 => by rw [IntKind.wrap_i64]; omega) (a * 256) b (by omega) (by omega)).2
  rw [show ((a * 256 : Nat) : Int) = (a : Int) * 256 by omega] at h
  rw [h, nat_join 8 _ _ (by omega) (by omega), Nat.mul_comm]

theorem Chg.of_grownJ {w w' : World} {row : Option Nat} (h : w.grownBy w' row) : Chg (fun k => row = some k) w w' := ⟨h.os, h.tape, h.output, h.size, fun k hk hn => h.block k hk fun e => hn e.symm⟩
/-- A text and where it lies. -/
structure Tq where
  b : Nat
  o : Nat
  c : Nat
  bs : List Nat
def tqV (x : Tq) : Value := .slice (some ⟨x.b, x.o, none⟩) x.bs.length x.c
def tqC (x : Tq) : List Value := [tqV x]
def tqT (x : Tq) : Tv := (tqV x, x.bs)
theorem tqC_len (x : Tq) : (tqC x).length = 1 := rfl
theorem tqC_one (x : Tq) : ∀ u ∈ tqC x, u.oneCell' = true := fun u hu => by
  obtain rfl : u = tqV x := by simpa [tqC] using hu
  rfl
def tqs (l : List Tq) : List (List Nat) := l.map (·.bs)
theorem tqs_txs (l : List Tq) : txs (l.map tqT) = tqs l := by
  unfold txs tqs
  rw [List.map_map]
  rfl
/-- It holds its bytes, and lies not in v's own block. -/
def TqN (w : World) (v : Value) (x : Tq) : Prop := x.bs.length ≤ x.c ∧ Bs w (some ⟨x.b, x.o, none⟩) x.bs ∧ x.b < w.heap.size ∧ v.ownBlock ≠ some x.b
theorem Bs.chg {w w' : World} {F : Nat → Prop} {b o : Nat} {bs : List Nat} (h : Bs w (some ⟨b, o, none⟩) bs) (k : Chg F w w') (hn : ¬ F b) : Bs w' (some ⟨b, o, none⟩) bs :=
  ⟨h.1, h.2.imp id fun ⟨b', o', e, hb, hc⟩ => by
    obtain ⟨rfl, rfl⟩ : b = b' ∧ o = o' := by simpa using e
    exact ⟨b, o, rfl, Nat.lt_of_lt_of_le hb k.size, fun j hj => (k.cell (p := ⟨b, o + j, none⟩) hb hn).trans (hc j hj)⟩⟩
theorem TqN.ext {w w' : World} {v : Value} {x : Tq} (h : TqN w v x) (k : Ext w w') : TqN w' v x := ⟨h.1, h.2.1.ext k, Nat.lt_of_lt_of_le h.2.2.1 (Below.size k), h.2.2.2⟩
theorem TqN.step {w w' : World} {v v' : Value} {x : Tq} (h : TqN w v x) (k : Chg (fun k => v.ownBlock = some k) w w') (hb : v'.ownBlock = v.ownBlock ∨ v'.ownBlock = some w.heap.size) : TqN w' v' x :=
  ⟨h.1, h.2.1.chg k h.2.2.2, Nat.lt_of_lt_of_le h.2.2.1 k.size, fun e => by
    rcases hb with hb | hb
    · exact h.2.2.2 (hb.symm.trans e)
    · have := Option.some.inj (hb.symm.trans e)
      have := h.2.2.1
      omega⟩
theorem tx_of_tq {w : World} {v : Value} {l : List Tq} (h : Ls 1 tqC w v l) (hT : ∀ x ∈ l, TqN w v x) : Tx w v (l.map tqT) := by
  refine ⟨?_, fun x hx => ?_⟩
  · obtain ⟨A, c, rfl, hc, hx⟩ := h
    refine ⟨A, c, by rw [List.length_map], by rw [List.length_map]; exact hc, ?_⟩
    rw [List.length_map]
    refine hx.imp id ?_
    rintro ⟨b, o, e, hb, hr⟩
    refine ⟨b, o, e, hb, fun i y hy => ?_⟩
    rw [List.getElem?_map] at hy
    cases hl : l[i]? with
    | none => rw [hl] at hy; cases hy
    | some z =>
      rw [hl] at hy
      obtain rfl := Option.some.inj hy
      exact hr i z hl
  · obtain ⟨z, hz, rfl⟩ := List.mem_map.1 hx
    exact ⟨_, z.c, rfl, (hT z hz).1, (hT z hz).2.1⟩
theorem infoB16 : ∃ i z, Try.prog.info? 23 = some i ∧ i.zero = some z ∧ i.size = 1 ∧ i.bytes = 24 ∧ z.cells.size = 1 := by
  have h : (Try.prog.info? 23).map (fun i => (i.zero.map fun z => z.cells.size, i.size, i.bytes)) = some (some 1, 1, 24) := by kernel_rfl
  cases hi : Try.prog.info? 23 with
  | none => rw [hi] at h; cases h
  | some i =>
    rw [hi] at h
    simp only [Option.map_some, Option.some.injEq, Prod.mk.injEq] at h
    cases hz : i.zero with
    | none => rw [hz] at h; cases h.1
    | some z =>
      rw [hz] at h
      exact ⟨i, z, rfl, hz, h.2.1, h.2.2, by simpa using h.1⟩
/-- One text more, appended to what the walk owns. -/
theorem wpl_app_t {base : Nat} {ops : Array Oper} {Q : Exit → Act → World → Prop} {rest : List Oper} {op : Oper} {a : Act} {s x : Operand} {w : World} {v : Value} {l : List Tq} {y : Tq} {g : Nat}
    (hgd : op.guard = none) (hop : op.op = .call { callee := .builtin .append, args := #[s, x], argTypes := #[22, 22] })
    (hs : a.eval s = v) (hx : a.eval x = .slice (some ⟨g, 0, none⟩) 1 1) (o : OwnL 1 tqC w base 23 v l) (hg : w.heap[g]? = some (.cells #[tqV y] 23 (0, 0))) (hl : l.length ≤ 1048576) (hbase : base ≤ w.heap.size)
    (h : ∀ v' w', OwnL 1 tqC w' base 23 v' (l ++ [y]) → Chg (fun k => v.ownBlock = some k) w w' → (v'.ownBlock = v.ownBlock ∨ v'.ownBlock = some w.heap.size) → wpList Try.prog ops Q rest (a.put op.dst v') w') : wpList Try.prog ops Q (op :: rest) a w := by
  obtain ⟨i, z, hi, hz, h1, h24, hzs⟩ := infoB16
  refine wpList_plain hgd fun K hK => ?_
  obtain ⟨v', w', hr, h2, h3, h4⟩ := run_append_ls (P := Try.prog) (sz := 1) (cs := tqC) Try.underlying22 hi hz h1 h24 hzs (by decide) (fun _ => rfl) tqC_one op.type o (ys := [y]) (m := 1) rfl (ls_one (x := y) (c := 1) hg) (by unfold maxLen; omega) (by omega) hbase
  unfold Oper.wp execOp
  simp only [hop, resolve, invoke, builtin, Sem.run_bind, Sem.run_pure, Result.andThen_ok, List.map_toArray, List.map_cons, List.map_nil, hs, hx, hr]
  exact hK _ _ (h v' w' h2 (Chg.of_grownJ h3) h4)

set_option maxRecDepth 100000 in
set_option maxHeartbeats 4000000 in
theorem split_calls (A : Option Addr) (m c : Nat) (bs : List Nat) (hm : m = bs.length) (hmc : m ≤ c) (hle : m ≤ 1048576) (w : World) (hS : Bs w A bs) :
    Calls Try.prog 20 #[.slice A m c] w fun e w' => ∃ v l, e = .returned (.tuple #[v, .int .i64 (((encRs (recsA bs)).length : Nat) : Int)]) ∧ Ext w w' ∧ Tx w' v l ∧ txs l = recsA bs := by
  have HS := veil (And.intro hm hS)
  clear hm hS
  go_enter Try.func20, Try.ntmps20
  go_wp2
  go_loopw [2, 3] (fun v u wr => ∃ (e : Nat) (l : List Tq), u = .int .i64 (e : Int) ∧ e ≤ m ∧ e = (encRs (tqs l)).length ∧ recsA bs = tqs l ++ recsA (bs.drop e) ∧ OwnL 1 tqC wr w.heap.size 23 v l ∧ (∀ x ∈ l, TqN wr v x) ∧ l.length ≤ e ∧ Ext w wr)
    (fun _ u _ => m - (intOf u).toNat)
  case atStart => exact ⟨0, [], rfl, by omega, rfl, rfl, OwnL.nil _ _ _, (fun x hx => by cases hx), Nat.le_refl _, Ext.refl _⟩
  case round =>
    obtain ⟨e, l, rfl, hem, hel, hR, hO, hT, hle2, hE⟩ := hrel
    have HL := veil (And.intro hel (And.intro hR (And.intro hO (And.intro hT (And.intro hle2 hE)))))
    clear hel hR hO hT hle2 hE
    by_cases hlt : e + 2 ≤ m
    · have d1 : decide ((2 : Int) ≤ (m : Int) - (e : Int)) = true := decide_eq_true (by omega)
      obtain ⟨b, o, hA, hb, c1⟩ := (HS.out.2.ext HL.out.2.2.2.2.2).cell (j := e) (by have := HS.out.1; omega)
      obtain ⟨b', o', hA', _, c2⟩ := (HS.out.2.ext HL.out.2.2.2.2.2).cell (j := e + 1) (by have := HS.out.1; omega)
      subst hA
      obtain ⟨rfl, rfl⟩ : b' = b ∧ o' = o := by simpa [eq_comm] using hA'
      obtain ⟨n, hn⟩ : ∃ n, n = lenR bs e := ⟨_, rfl⟩
      have hrec := recsA_at (bs := bs) (e := e) (by have := HS.out.1; omega)
      rw [← hn, ← HS.out.1] at hrec
      have hn1 : n ≤ 65535 := by
        have l1 := HS.out.2.1.getD e
        have l2 := HS.out.2.1.getD (e + 1)
        rw [hn]
        unfold lenR
        omega
      have hor : bits .or .i64 (((bs.getD e 0 : Nat) : Int) * 256) ((bs.getD (e + 1) 0 : Nat) : Int) = (n : Int) := by
        rw [hn]
        exact or_i64 (HS.out.2.1.getD e) (HS.out.2.1.getD (e + 1))
      have lx := HS.out.2.1.getD e
      have ly := HS.out.2.1.getD (e + 1)
      generalize bs.getD e 0 = x at *
      generalize bs.getD (e + 1) 0 = y at *
      have kx : (x : Int) ≤ 255 := by omega
      have ky : (y : Int) ≤ 255 := by omega
      have HX := veil (And.intro hrec hn)
      clear hrec hn lx ly hA'
      have i1 : (e : Int) < (m : Int) := by omega
      have i2 : (e : Int) + 1 < (m : Int) := by omega
      go_upto_region 3 with (fail)
      refine wp_sched 14 [(true, List.range 14)] (by kernel_rfl) (by kernel_rfl) fun Q' hQ' => ?_
      refine' sched_row (A := _) _ rfl (by kernel_rfl) ?_ ?_
      rotate_left
      · intro D hD hN'
        have e0 := hD.cell c1
        have e1 := hD.cell c2
        simp only [List.range, List.range.loop, pickI, consO, List.getElem?_cons_zero, List.getElem?_cons_succ]
        repeat (go_big_quiet_step (fail))
        exact wpq_end
      refine sched_end hQ' fun W4 hE4 => ?_
      have HE4 := veil hE4
      clear hE4 c1 c2 hor
      by_cases g1 : 1 ≤ n ∧ n ≤ 2000 ∧ n ≤ m - (e + 2)
      · obtain ⟨g1, g2, g3⟩ := g1
        have f1 : decide ((n : Int) < 1) = false := decide_eq_false (by omega)
        have f2 : decide ((2000 : Int) < (n : Int)) = false := decide_eq_false (by omega)
        have f3 : decide ((m : Int) - ((e : Int) + 2) < (n : Int)) = false := decide_eq_false (by omega)
        have hrec := HX.out.1
        rw [if_pos ⟨g1, g2, g3⟩] at hrec
        have hsl := seg_len (B := bs) (a := e + 2) (n := n) (by have := HS.out.1; omega)
        have HR := veil (And.intro hrec hsl)
        have hbs : Bs W4 (cutA (some ⟨b', o', none⟩) (e + 2) c) (seg bs (e + 2) n) := ((HS.out.2.ext HL.out.2.2.2.2.2).ext HE4.out).cut (e + 2) (by have := HS.out.1; omega) (by have := HS.out.1; omega)
        have hcut := fun W : World => cut_mid (some ⟨b', o', none⟩) m c (e + 2) n (by omega) W (x := (e : Int) + 2) (y := (e : Int) + 2 + (n : Int)) (by omega) (by omega)
        have KC := veil (fun W (h : Ext W4 W) => jclone_calls (cutA (some ⟨b', o', none⟩) (e + 2) c) n (c - (e + 2)) (seg bs (e + 2) n) hsl.symm (by omega) W (hbs.ext h))
        generalize cutA (some ⟨b', o', none⟩) (e + 2) c = A1 at *
        clear hrec hsl hbs
        go_upto_region 6 with (fail)
        have hl := HL.out.2.2.2.2.1
        go_wp2_with (first
          | ((with_reducible refine at_slot 47 ?_); refine wpl_val _ rfl (run_slice_v rfl rfl rfl rfl (hcut W4)) ?_)
          | (go_at_call 27; refine (KC.out _ (Ext.refl _)).mono ?_; rintro _ w5 ⟨A2, c2, rfl, hE5, hc5, hB5, hF5⟩
             obtain ⟨b2, o2, rfl, hb2, -⟩ := hB5.cell (j := 0) (by rw [HR.out.2]; exact g1)
             have H5 := veil (And.intro (HE4.out.trans hE5) (And.intro hc5 (And.intro hB5 (And.intro hb2 (hF5.resolve_left (by rw [HR.out.2]; omega) b2 o2 rfl)))))
             have hnew := fun W : World => show (W.alloc (.cells #[.slice (some ⟨b2, o2, none⟩) n c2] 23)).heap[W.heap.size]? = some (.cells #[tqV ⟨b2, o2, c2, seg bs (e + 2) n⟩] 23 (0, 0)) by unfold tqV; rw [HR.out.2]; exact heap_new W _
             clear hE5 hc5 hB5 hF5 hb2)
          | ((with_reducible refine at_slot 50 ?_); refine wpl_app_t rfl rfl rfl rfl ((HL.out.2.2.1.keep H5.out.1).keep (Ext.alloc _ _)) (hnew w5) (by omega) (Below.size (HL.out.2.2.2.2.2.trans (H5.out.1.trans (Ext.alloc _ _)))) ?_; intro v6 w6 hO6 hC6 hb6))
        go_roundw
        case rel =>
          have hA := H5.out.1.trans (Ext.alloc w5 (.cells #[.slice (some ⟨b2, o2, none⟩) n c2] 23))
          have hO := HL.out.2.2.1.keep hA
          refine ⟨e + 2 + n, l ++ [⟨b2, o2, c2, seg bs (e + 2) n⟩], by go_num, by omega, ?_, ?_, hO6, fun z hz => ?_, ?_, ?_⟩
          · unfold tqs
            rw [List.map_append, List.map_singleton, encRs_add, List.length_append, encR_len, HR.out.2]
            have := HL.out.1
            unfold tqs at this
            omega
          · unfold tqs
            rw [List.map_append, List.map_singleton, HL.out.2.1, HR.out.1]
            unfold tqs
            simp
          · rcases List.mem_append.1 hz with hz | hz
            · exact ((HL.out.2.2.2.1 z hz).ext hA).step hC6 hb6
            · obtain rfl := List.mem_singleton.1 hz
              refine TqN.step ?_ hC6 hb6
              refine ⟨by rw [HR.out.2]; exact H5.out.2.1, H5.out.2.2.1.ext (Ext.alloc _ _), Nat.lt_of_lt_of_le H5.out.2.2.2.1 (Below.size (Ext.alloc w5 _)), fun he => ?_⟩
              have h1 := (HL.out.2.2.1.lt he).2
              have h2 := H5.out.2.2.2.2
              have h3 := Below.size HE4.out
              simp only at h1
              omega
          · rw [List.length_append, List.length_singleton]
            omega
          · exact hC6.new (HL.out.2.2.2.2.2.trans hA) fun z hz hn => by
              have := (hO.lt hn).1
              omega
        case measure => simp [intOf]; omega
      · have hrec := HX.out.1
        rw [if_neg g1] at hrec
        have hR := HL.out.2.1
        rw [hrec, List.append_nil] at hR
        have HR := veil (And.intro hR (HL.out.2.2.2.2.2.trans HE4.out))
        clear hrec hR
        have hend : ∀ W, Ext w W → Ext wr W → ∃ v l', Ending.returned (.tuple #[u2, .int .i64 (e : Int)]) = .returned (.tuple #[v, .int .i64 (((encRs (recsA bs)).length : Nat) : Int)]) ∧ Ext w W ∧ Tx W v l' ∧ txs l' = recsA bs := fun W h1 h2 =>
          ⟨_, l.map tqT, by rw [HR.out.1, ← HL.out.1], h1, tx_of_tq (OwnL.ls tqC_len (HL.out.2.2.1.keep h2)) fun x hx => (HL.out.2.2.2.1 x hx).ext h2, by rw [tqs_txs, HR.out.1]⟩
        by_cases q1 : n < 1
        · have f1 : decide ((n : Int) < 1) = true := decide_eq_true (by omega)
          go_wp2
          go_ret2
          exact hend _ HR.out.2 HE4.out
        have f1 : decide ((n : Int) < 1) = false := decide_eq_false (by omega)
        by_cases q2 : 2000 < n
        · have f2 : decide ((2000 : Int) < (n : Int)) = true := decide_eq_true (by omega)
          go_wp2
          go_ret2
          exact hend _ HR.out.2 HE4.out
        have f2 : decide ((2000 : Int) < (n : Int)) = false := decide_eq_false (by omega)
        have f3 : decide ((m : Int) - ((e : Int) + 2) < (n : Int)) = true := decide_eq_true (by omega)
        clear g1
        go_wp2
        go_ret2
        exact hend _ HR.out.2 HE4.out
    · have d1 : decide ((2 : Int) ≤ (m : Int) - (e : Int)) = false := decide_eq_false (by omega)
      have hrec : recsA (bs.drop e) = [] := recsA_short (by rw [List.length_drop]; have := HS.out.1; omega)
      have hR := HL.out.2.1
      rw [hrec, List.append_nil] at hR
      have HR := veil hR
      clear hrec hR
      go_wp2
      go_ret2
      refine ⟨_, l.map tqT, ?_, HL.out.2.2.2.2.2, tx_of_tq (OwnL.ls tqC_len HL.out.2.2.1) HL.out.2.2.2.1, by rw [tqs_txs, HR.out]⟩
      rw [HR.out, ← HL.out.1]
      rfl
end Go.Proofs.Ytoikgkjkcampkaa
