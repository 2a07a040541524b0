/-
  revoke.parseAll: revoked serials of bytes, sixteen each.
-/
import Derived.Test.YtldnncamaglofaaRo
namespace Go.Proofs.Ytldnncamaglofaa
open Go.RowKit Go.Shelf

attribute [local go_sem] Oper.semAt_some

/-- So many bytes are no such ones, or a number is none. -/
def badR (b : List Nat) : Prop := b.length % 16 ≠ 0 ∨ ∃ k, k < b.length / 16 ∧ ((rvAt b k).1 < 0 ∨ (rvAt b k).2 < 0)
theorem infoRv16 : (Try.prog.info? 43).map (fun i => (i.zero, i.size, i.bytes)) = some (some (.agg #[.int .i64 0, .int .i64 0]), 2, 16) := by kernel_rfl

theorem res_parse (tmps : Array Value) (w : World) (g0 g1 : Nat) (v1 v2 : Value) (h2 : tmps.getD 2 undef = .pointer (some ⟨g0, 0, none⟩)) (h3 : tmps.getD 3 undef = .pointer (some ⟨g1, 0, none⟩)) (c0 : w.cell? ⟨g0, 0, none⟩ = some v1) (c1 : w.cell? ⟨g1, 0, none⟩ = some v2) :
    (results Try.f26 tmps).run Try.prog w = .ok (.tuple #[v1, v2]) w := by
  have h2' : tmps[2]?.getD undef = .pointer (some ⟨g0, 0, none⟩) := by simpa using h2
  have h3' : tmps[3]?.getD undef = .pointer (some ⟨g1, 0, none⟩) := by simpa using h3
  simp [results, Try.f26, go_sem, h2', h3', c0, c1]

theorem of_yes {bs : List Nat} (h : 0 ≤ ofB bs) (A : Option Addr) (m c : Nat) (hm : m = bs.length) (hmc : m ≤ c) (w : World) (hS : Bs w A bs) : Calls Try.prog 40 #[.slice A m c] w fun e w' => e = .returned (.tuple #[.int .i64 (ofB bs), .nilIface]) ∧ Ext w w' :=
  (code8.of A m c bs w hm hmc hS).mono fun e w' ⟨x, ev, he, hE, hA⟩ => by
    rcases hA with ⟨h1, _⟩ | ⟨_, rfl, rfl⟩
    · omega
    · exact ⟨he, hE⟩
theorem of_no {bs : List Nat} (h : ofB bs < 0) (A : Option Addr) (m c : Nat) (hm : m = bs.length) (hmc : m ≤ c) (w : World) (hS : Bs w A bs) : Calls Try.prog 40 #[.slice A m c] w fun e w' => e = .returned (.tuple #[.int .i64 0, .iface 32 (.int .i64 2)]) ∧ Ext w w' :=
  (code8.of A m c bs w hm hmc hS).mono fun e w' ⟨x, ev, he, hE, hA⟩ => by
    rcases hA with ⟨_, rfl, rfl⟩ | ⟨h1, _⟩
    · exact ⟨he, hE⟩
    · omega
theorem boxed_ext {W W' : World} {B : Nat} {t : TypeId} {v : Value} (h : Boxed W B t v) (k : Ext W W') : Boxed W' B t v := k.block h
theorem boxed_keep {A A' : World} {B : Nat} {t : TypeId} {v : Value} {row : Option Nat} (h : Boxed A B t v) (hg : A.grownBy A' row) (hr : ∀ r, row = some r → ∃ o : Obj, A.heap[r]? = some o ∧ o.isCells = false) : Boxed A' B t v :=
  h.kept hg fun e => by
    obtain ⟨o, ho, hc⟩ := hr B e.symm
    rw [show A.heap[B]? = _ from h] at ho
    cases ho
    cases hc
theorem cell_two_new (w : World) (x y : Value) (t : TypeId) : ∀ j u, [x, y][j]? = some u → (w.alloc (.cells #[x, y] t)).cell? ((⟨w.heap.size, 0, none⟩ : Addr).add j) = some u := by
  intro j u hu
  rw [Addr.add_mid, Nat.zero_add, cell_of_row _ _ j _ _ _ (heap_new w _)]
  simpa using hu

theorem bad_end {W w1 w : World} {B : Nat} {b : List Nat} {v0 v1 : Value} (hE1 : Ext W w1) (hR0 : Boxed W w.heap.size 22 v0) (hR1 : Boxed W (w.heap.size + 1) 28 v1) (hBel : Below w.heap.size w W) (hb : badR b) :
    KeepsFrom B W ((w1.setCell ⟨w.heap.size, 0, none⟩ (.slice none 0 0)).setCell ⟨w.heap.size + 1, 0, none⟩ (.iface 32 (.int .i64 2))) ∧ (Code.ret = Code.ret ∧ Boxed ((w1.setCell ⟨w.heap.size, 0, none⟩ (.slice none 0 0)).setCell ⟨w.heap.size + 1, 0, none⟩ (.iface 32 (.int .i64 2))) w.heap.size 22 (.slice none 0 0) ∧
      Boxed ((w1.setCell ⟨w.heap.size, 0, none⟩ (.slice none 0 0)).setCell ⟨w.heap.size + 1, 0, none⟩ (.iface 32 (.int .i64 2))) (w.heap.size + 1) 28 (.iface 32 (.int .i64 2)) ∧ badR b) ∧ Below w.heap.size w ((w1.setCell ⟨w.heap.size, 0, none⟩ (.slice none 0 0)).setCell ⟨w.heap.size + 1, 0, none⟩ (.iface 32 (.int .i64 2))) :=
  ⟨(((ext_others hE1).trans (KeepsOthers.setCell _ _ _)).trans (KeepsOthers.setCell _ _ _)).from _, ⟨rfl, ((boxed_ext hR0 hE1).set _).other (by omega) _, ((boxed_ext hR1 hE1).other (by omega) _).set _, hb⟩,
    ((hBel.trans (Below.mono hE1 hBel.size)).setCell (p := ⟨w.heap.size, 0, none⟩) (Nat.le_refl _) _).setCell (p := ⟨w.heap.size + 1, 0, none⟩) (by simp) _⟩

set_option maxRecDepth 100000 in
set_option maxHeartbeats 4000000 in
theorem parseAll_calls (A : Option Addr) (m c : Nat) (b : List Nat) (hm : m = b.length) (hmc : m ≤ c) (hle : m ≤ 100000000) (w : World) (hS : Bs w A b) :
    Calls Try.prog 26 #[.slice A m c] w fun e w' => ∃ x ev, e = .returned (.tuple #[x, ev]) ∧ Ext w w' ∧ ((badR b ∧ x = .slice none 0 0 ∧ ev = .iface 32 (.int .i64 2)) ∨ (¬ badR b ∧ ev = .nilIface ∧ Rs w' x (rvsOf b))) := by
  obtain ⟨i16, hi, hz, hsz, hby⟩ := info_parts2 infoRv16
  have HI := veil (And.intro hi (And.intro hz (And.intro hsz hby)))
  clear hi hz hsz hby
  refine (callsIn_wide (n := 5)).1 ?_
  refine callsIn_of_wp_marks Try.func26 rfl trivial ?_ rfl
  simp only [Try.ntmps26, List.size_toArray, List.length_cons, List.length_nil, Nat.reduceAdd, Nat.reduceSub, Array.replicate_succ, Array.replicate_zero, List.push_toArray, List.append_toArray, List.nil_append, List.cons_append]
  by_cases h16 : m % 16 = 0
  · obtain ⟨N, hN⟩ : ∃ N, m = 16 * N := ⟨m / 16, by omega⟩
    subst hN
    have ht : (16 * (N : Int)) % 16 = 0 := by omega
    have hq : (16 * (N : Int)) / 16 = (N : Int) := by omega
    have HM := veil (And.intro hm hS)
    clear hm hS h16
    gi_wp2_with (first
      | (gi_at_make; refine wpListIn_make_own _ rfl _ _ 22 rfl w.heap.size 43 i16 _ 2 Try.underlying22 HI.out.1 HI.out.2.1 HI.out.2.2.1 .i64 .i64 _ N rfl rfl rfl (by rw [HI.out.2.2.2]; omega) (by unfold maxLen; omega) (by simp; omega) ?_; intro w1 hown hgr; simp only [World.size_alloc] at hown)
      | (refine ⟨trivial, ?_⟩; gi_at_call 39; refine (callsIn_wide.2 (chunk_calls A (16 * N) c _)).mono ?_; rintro e w' ⟨rfl, rfl⟩))
    have bR0 : Boxed ((w.alloc (.cells #[.slice none 0 0] 22)).alloc (.cells #[.nilIface] 28)) w.heap.size 22 (.slice none 0 0) := (Boxed.new w _ _).alloc _
    have bR1 : Boxed ((w.alloc (.cells #[.slice none 0 0] 22)).alloc (.cells #[.nilIface] 28)) (w.heap.size + 1) 28 .nilIface := by
      have := Boxed.new (w.alloc (.cells #[.slice none 0 0] 22)) 28 .nilIface
      rwa [World.size_alloc] at this
    have hE0 : Ext w ((w.alloc (.cells #[.slice none 0 0] 22)).alloc (.cells #[.nilIface] 28)) := (Ext.alloc w _).trans (Ext.alloc _ _)
    have hE1 : Ext w w1 := hE0.grown hgr (Below.size hE0) fun k hk => by cases hk
    have bR0 := (bR0.kept hgr (by simp)).alloc (.cells #[.slice (some ⟨w.heap.size + 1 + 1, 0, none⟩) 0 N] 22)
    have bR1 := (bR1.kept hgr (by simp)).alloc (.cells #[.slice (some ⟨w.heap.size + 1 + 1, 0, none⟩) 0 N] 22)
    have hsz1 : w.heap.size + 2 ≤ w1.heap.size := by have := hgr.size; simp at this; omega
    have bO := Boxed.new w1 22 (.slice (some ⟨w.heap.size + 1 + 1, 0, none⟩) 0 N)
    have hrow := hown.alloc (.cells #[.slice (some ⟨w.heap.size + 1 + 1, 0, none⟩) 0 N] 22)
    have hE2 : Ext w (w1.alloc (.cells #[.slice (some ⟨w.heap.size + 1 + 1, 0, none⟩) 0 N] 22)) := hE1.trans (Ext.alloc _ _)
    have hsz2 : (w1.alloc (.cells #[.slice (some ⟨w.heap.size + 1 + 1, 0, none⟩) 0 N] 22)).heap.size = w1.heap.size + 1 := by simp
    generalize w1.alloc (.cells #[.slice (some ⟨w.heap.size + 1 + 1, 0, none⟩) 0 N] 22) = w2 at *
    have bR0 := (bR0.alloc (.cells #[.slice A (16 * N) c] 23)).alloc (.cells #[.int .i64 16] 3)
    have bR1 := (bR1.alloc (.cells #[.slice A (16 * N) c] 23)).alloc (.cells #[.int .i64 16] 3)
    have bO := (bO.alloc (.cells #[.slice A (16 * N) c] 23)).alloc (.cells #[.int .i64 16] 3)
    have hrow := (hrow.alloc (.cells #[.slice A (16 * N) c] 23)).alloc (.cells #[.int .i64 16] 3)
    have bB1 := (Boxed.new w2 23 (.slice A (16 * N) c)).alloc (.cells #[.int .i64 16] 3)
    have bB2 := Boxed.new (w2.alloc (.cells #[.slice A (16 * N) c] 23)) 3 (.int .i64 16)
    rw [World.size_alloc] at bB2
    rw [hsz2] at bB1 bB2
    have hE3 : Ext w ((w2.alloc (.cells #[.slice A (16 * N) c] 23)).alloc (.cells #[.int .i64 16] 3)) := (hE2.trans (Ext.alloc _ _)).trans (Ext.alloc _ _)
    have hsz3 : ((w2.alloc (.cells #[.slice A (16 * N) c] 23)).alloc (.cells #[.int .i64 16] 3)).heap.size = w1.heap.size + 3 := by rw [World.size_alloc, World.size_alloc, hsz2]
    generalize (w2.alloc (.cells #[.slice A (16 * N) c] 23)).alloc (.cells #[.int .i64 16] 3) = W3 at *
    generalize w1.heap.size = g4 at *
    generalize (Value.slice (some ⟨w.heap.size + 1 + 1, 0, none⟩) 0 N) = M0 at *
    clear hown hgr hE0 hE1 hE2 hsz2
    refine wpIn_rangeFunc_ownG rfl (by decide) (gf := 47) (lb := #[.pointer (some ⟨g4 + 1, 0, none⟩), .pointer (some ⟨g4 + 1 + 1, 0, none⟩)]) rfl trivial (enters_of Try.func47 (by kernel_rfl) rfl)
      (chunk_stops 4 (g4 + 1) (g4 + 1 + 1) N A c hmc (by omega) W3 bB1 bB2) kpc_t (fun W l _ o' hl _ _ _ => kpc_b (n₀ := W3.heap.size) (by omega) (by omega) W l o' hl) (Below.refl _ _) (fun _ => rfl)
      (fun pre W => ((∃ v, Boxed W g4 22 v ∧ W.ownsRow w.heap.size 43 2 v (pre.map fun x => rvAt b x.1).length ((pre.map fun x => rvAt b x.1).flatMap rvC) ∧ True) ∧
        (Boxed W w.heap.size 22 (.slice none 0 0) ∧ Boxed W (w.heap.size + 1) 28 .nilIface ∧ Boxed W (g4 + 1) 23 (.slice A (16 * N) c) ∧ Boxed W (g4 + 1 + 1) 3 (.int .i64 16) ∧ ∀ x ∈ pre, 0 ≤ (rvAt b x.1).1 ∧ 0 ≤ (rvAt b x.1).2)) ∧ Below w.heap.size w W)
      (fun cd pre W => (cd = .ret ∧ Boxed W w.heap.size 22 (.slice none 0 0) ∧ Boxed W (w.heap.size + 1) 28 (.iface 32 (.int .i64 2)) ∧ badR b) ∧ Below w.heap.size w W)
      (OwnFrom.and (OwnFrom.and (Own.from (holdsRow_own w.heap.size g4 22 43 2 (fun pre : List {k : Nat // k < N} => (pre.map fun x => rvAt b x.1).length) (fun pre => (pre.map fun x => rvAt b x.1).flatMap rvC) (fun _ _ => True)) _)
        (Own.from (fun s A1 B1 row hs hg hr => ⟨boxed_keep hs.1 hg hr, boxed_keep hs.2.1 hg hr, boxed_keep hs.2.2.1 hg hr, boxed_keep hs.2.2.2.1 hg hr, hs.2.2.2.2⟩) _)) (ownFrom_below (Nat.le_refl _) (by omega)))
      (fun cd => OwnFrom.and (Own.from (fun s A1 B1 row hs hg hr => ⟨hs.1, boxed_keep hs.2.1 hg hr, boxed_keep hs.2.2.1 hg hr, hs.2.2.2⟩) _) (ownFrom_below (Nat.le_refl _) (by omega)))
      ⟨⟨⟨M0, bO, hrow, trivial⟩, bR0, bR1, bB1, bB2, fun x hx => by cases hx⟩, hE3⟩
      (fun x => { tmps := #[.slice A (16 * N) c, undef, .pointer (some ⟨w.heap.size, 0, none⟩), .pointer (some ⟨w.heap.size + 1, 0, none⟩), .pointer (some ⟨g4, 0, none⟩), .slice (chA A x.1) 16 16, undef, undef, undef, .slice A (16 * N) c, .int .i64 (16 * (N : Int)), .int .i64 0, .bool false, undef, .slice A (16 * N) c, .int .i64 (16 * (N : Int)), .int .i64 (N : Int), M0, .slice A (16 * N) c,
        .func (.func 47) #[] #[.pointer (some ⟨g4 + 1, 0, none⟩), .pointer (some ⟨g4 + 1 + 1, 0, none⟩)], .slice (chA A x.1) 16 16, undef, undef, undef, undef, undef, undef, undef, undef, undef, undef, undef, undef, undef, undef, undef, undef, undef, undef, undef, undef, undef, undef, undef, undef, undef], defers := [] }) ?assign ?body ?done ?stop
    case assign =>
      intro l x W K hK
      gi_wp2
      exact hK
    case body =>
      rintro l pre x W ⟨⟨⟨v, hv, hrw, _⟩, hR0, hR1, hB1, hB2, hpos⟩, hBel⟩ hlt
      have hx : 16 * x.1 + 16 ≤ b.length := by have := x.2; have := HM.out.1; omega
      have hD := Bs.chunk (Bs.ext HM.out.2 hBel) hx
      have hDl : ((b.drop (16 * x.1)).take 16).length = 16 := by rw [List.length_take, List.length_drop]; omega
      have hLo : Bs W (cutA (chA A x.1) 0 16) ((b.drop (16 * x.1)).take 8) := by
        have h := Bs.cut hD 0 (n := 8) (c := 16) (by omega) (by omega)
        rwa [List.drop_zero, List.take_take] at h
      have hHi : Bs W (cutA (chA A x.1) 8 16) ((b.drop (16 * x.1 + 8)).take 8) := by
        have h := Bs.cut hD 8 (n := 8) (c := 16) (by omega) (by omega)
        rwa [List.drop_take, List.drop_drop, List.take_take] at h
      have hl1 : 8 = ((b.drop (16 * x.1)).take 8).length := by rw [List.length_take, List.length_drop]; omega
      have hl2 : 8 = ((b.drop (16 * x.1 + 8)).take 8).length := by rw [List.length_take, List.length_drop]; omega
      have s1 : ∀ w, (Instr.sliceAt 23 (.slice (chA A x.1) 16 16) none (some (.int .i64 8)) none).run Try.prog w = .ok (.slice (cutA (chA A x.1) 0 16) 8 16) w := fun w => cut_to (chA A x.1) 16 16 8 (by decide) w
      have s2 : ∀ w, (Instr.sliceAt 23 (.slice (chA A x.1) 16 16) (some (.int .i64 8)) none none).run Try.prog w = .ok (.slice (cutA (chA A x.1) 8 16) 8 8) w := fun w => cut_from (chA A x.1) 16 16 8 (by decide) w
      have e1 : (rvAt b x.1).1 = ofB ((b.drop (16 * x.1)).take 8) := rfl
      have e2 : (rvAt b x.1).2 = ofB ((b.drop (16 * x.1 + 8)).take 8) := rfl
      have hkx : x.1 < b.length / 16 := by omega
      generalize hX : rvAt b x.1 = X at *
      obtain ⟨X1, X2⟩ := X
      replace e1 : X1 = ofB ((b.drop (16 * x.1)).take 8) := e1
      replace e2 : X2 = ofB ((b.drop (16 * x.1 + 8)).take 8) := e2
      have HB := veil (And.intro hX (And.intro hpos (And.intro hBel hkx)))
      have HO := veil (And.intro hv (And.intro hrw (And.intro hR0 (And.intro hR1 (And.intro hB1 hB2)))))
      clear hpos hBel hkx hx hD hDl hv hrw hR0 hR1 hB1 hB2
      by_cases h1 : 0 ≤ X1
      · have KL := of_yes (by rw [← e1]; exact h1) _ 8 16 hl1 (by decide) W hLo
        rw [← e1] at KL
        have KL := veil KL
        by_cases h2 : 0 ≤ X2
        · have KH := fun W2 (h : Ext W W2) => of_yes (by rw [← e2]; exact h2) _ 8 8 hl2 (by decide) W2 (hHi.ext h)
          rw [← e2] at KH
          have KH := veil KH
          have HX := veil (And.intro hX (And.intro h1 h2))
          have hpl : pre.length ≤ N := by omega
          clear hl1 hl2 hLo hHi e1 e2 h1 h2 hX
          gi_wp2_with (first
            | (refine ⟨trivial, ?_⟩; gi_at_call 40; refine (CallsIn.inRound l (callsIn_wide.2 KL.out)).mono ?_; clear KL; rintro e w1 ⟨rfl, hE1⟩; have HE1 := veil hE1; clear hE1)
            | (refine ⟨trivial, ?_⟩; gi_at_call 40; refine (CallsIn.inRound l (callsIn_wide.2 (KH.out _ HE1.out))).mono ?_; clear KH; rintro e w2 ⟨rfl, hE2⟩; have HE2 := veil (HE1.out.trans hE2); clear hE2; have bO2 := boxed_ext HO.out.1 HE2.out; have a4 := bO2.cell; have hrw2 := OwnL.keep (sz := 2) (cs := rvC) HO.out.2.1 HE2.out; have HW := veil (And.intro bO2 hrw2); clear bO2 hrw2)
            | (gi_at_builtin; refine wpListIn_append_own _ rfl _ _ 22 rfl w.heap.size 43 i16 _ 2 16 Try.underlying22 HI.out.1 HI.out.2.1 HI.out.2.2.1 HI.out.2.2.2 rfl (by decide) _ _ _ rfl (HW.out.2.alloc _) ⟨w2.heap.size, 0, none⟩ 1 1 [.int .i64 X1, .int .i64 X2] rfl rfl (cell_two_new _ _ _ _) (by simp [Value.oneCell']) (by rw [List.length_map]; unfold maxLen; omega) (by rw [List.length_map]; omega) (by have := HB.out.2.2.1.size; have := HE2.out.size; simp; omega) ?_; intro v' w3 hown' hgrow _; obtain ⟨g', cap', rfl⟩ := ownsRow_succ hown'; obtain ⟨hv1, hv2, hr2, hk2, hb2⟩ := Boxed.appended HW.out.1 (by decide) HW.out.2 (Nat.le_trans HB.out.2.2.1.size (Below.size HE2.out)) (by omega) hown' hgrow; have hc1 := hv1.cell; have hf1 := hv1.frozen))
          simp only [List.length_map] at hv2 hr2 hk2 hb2
          have hbox : ∀ (B : Nat) (t : TypeId) (u : Value), t ≠ 43 → B ≠ g4 → Boxed w2 B t u → Boxed (w3.setCell ⟨g4, 0, none⟩ (.slice (some ⟨g', 0, none⟩) (pre.length + 1) cap')) B t u := fun B t u ht hB h =>
            ((h.alloc _).kept hgrow (h.not_row ht HW.out.2)).other hB _
          have em : ((pre ++ [x]).map fun x => rvAt b x.1) = (pre.map fun x => rvAt b x.1) ++ [(X1, X2)] := by rw [List.map_append, List.map_singleton, HX.out.1]
          refine ⟨((ext_others HE2.out).trans hk2).from _, ⟨fun h => hbox _ _ _ (by decide) (by omega) (boxed_ext h HE2.out), fun h => hbox _ _ _ (by decide) (by omega) (boxed_ext h HE2.out)⟩, ⟨⟨_, hv2, ?_, trivial⟩,
            hbox _ _ _ (by decide) (by omega) (boxed_ext HO.out.2.2.1 HE2.out), hbox _ _ _ (by decide) (by omega) (boxed_ext HO.out.2.2.2.1 HE2.out), hbox _ _ _ (by decide) (by omega) (boxed_ext HO.out.2.2.2.2.1 HE2.out), hbox _ _ _ (by decide) (by omega) (boxed_ext HO.out.2.2.2.2.2 HE2.out), ?_⟩, HB.out.2.2.1.trans ((Below.mono HE2.out HB.out.2.2.1.size).trans hb2)⟩
          · rw [em, List.length_append, List.flatMap_append, List.length_map]
            exact hr2
          · intro y hy
            rcases List.mem_append.1 hy with h | h
            · exact HB.out.2.1 y h
            · rw [List.mem_singleton.1 h, HX.out.1]
              exact ⟨HX.out.2.1, HX.out.2.2⟩
        · have KH := fun W2 (h : Ext W W2) => of_no (by rw [← e2]; omega) _ 8 8 hl2 (by decide) W2 (hHi.ext h)
          have KH := veil KH
          have HE := veil (show (rvAt b x.1).2 < 0 by rw [hX]; show X2 < 0; omega)
          clear hl1 hl2 hLo hHi e1 e2 h1 h2 hX
          gi_wp2_with (first
            | (refine ⟨trivial, ?_⟩; gi_at_call 40; refine (CallsIn.inRound l (callsIn_wide.2 KL.out)).mono ?_; clear KL; rintro e w1 ⟨rfl, hE1⟩; have HE1 := veil hE1; clear hE1)
            | (refine ⟨trivial, ?_⟩; gi_at_call 40; refine (CallsIn.inRound l (callsIn_wide.2 (KH.out _ HE1.out))).mono ?_; clear KH; rintro e w2 ⟨rfl, hE2⟩; have HE2 := veil (HE1.out.trans hE2); clear hE2; have a0 := (boxed_ext HO.out.2.2.1 HE2.out).cell; have a1 := (boxed_ext HO.out.2.2.2.1 HE2.out).cell; have f0 := (boxed_ext HO.out.2.2.1 HE2.out).frozen; have f1 := (boxed_ext HO.out.2.2.2.1 HE2.out).frozen))
          exact bad_end HE2.out HO.out.2.2.1 HO.out.2.2.2.1 HB.out.2.2.1 (.inr ⟨x.1, HB.out.2.2.2, .inr HE.out⟩)
      · have KL := veil (of_no (by rw [← e1]; omega) _ 8 16 hl1 (by decide) W hLo)
        have HE := veil (show (rvAt b x.1).1 < 0 by rw [hX]; show X1 < 0; omega)
        clear hl1 hl2 hLo hHi e1 e2 h1 hX
        gi_wp2_with (refine ⟨trivial, ?_⟩; gi_at_call 40; refine (CallsIn.inRound l (callsIn_wide.2 KL.out)).mono ?_; clear KL; rintro e w1 ⟨rfl, hE1⟩; have HE1 := veil hE1; have a0 := (boxed_ext HO.out.2.2.1 hE1).cell; have a1 := (boxed_ext HO.out.2.2.2.1 hE1).cell; have f0 := (boxed_ext HO.out.2.2.1 hE1).frozen; have f1 := (boxed_ext HO.out.2.2.2.1 hE1).frozen; clear hE1)
        exact bad_end HE1.out HO.out.2.2.1 HO.out.2.2.2.1 HB.out.2.2.1 (.inr ⟨x.1, HB.out.2.2.2, .inl HE.out⟩)
    case done =>
      rintro D ys W hD hys ⟨⟨⟨v, hv, hrw, _⟩, hR0, hR1, hB1, hB2, hpos⟩, hBel⟩ hK
      have hlen : 16 * N = b.length := HM.out.1
      have hl : (ys.map fun x => rvAt b x.1) = rvsOf b := by
        unfold rvsOf rvsTo
        rw [show b.length / 16 = N by omega, ← hys, List.map_map]
        rfl
      have hgood : ¬ badR b := by
        rintro (h | ⟨k, hk, h⟩)
        · omega
        · have hm : k ∈ ys.map (·.1) := by rw [hys, List.mem_range]; omega
          obtain ⟨y, hy, rfl⟩ := List.mem_map.1 hm
          have := hpos y hy
          omega
      rw [hl] at hrw
      obtain ⟨Av, cv, hve, _, _⟩ := OwnL.ls (sz := 2) (cs := rvC) rvC_length hrw
      have HL := veil hlen
      clear hl hlen hpos hys
      generalize hL : (rvsOf b).length = L at *
      subst hve
      have hc := hv.cell
      have c0 := hR0.cell
      have c1 := hR1.cell
      have f0 := hR0.frozen
      have f1 := hR1.frozen
      have HO := veil (And.intro hL (And.intro hrw (And.intro hR0 (And.intro hR1 (And.intro hgood (And.intro hBel hK))))))
      clear hv hrw hR0 hR1 hB1 hB2 hBel hK hgood hL
      gi_wp2
      have hK' := ((KeepsOthers.setCell W ⟨w.heap.size, 0, none⟩ (.slice Av L cv)).trans (KeepsOthers.setCell _ ⟨w.heap.size + 1, 0, none⟩ .nilIface)).same D _ HO.out.2.2.2.2.2.2 rfl
      refine ⟨by simp, .inl ⟨_, _, rfl, run_takeDeferred hK', ?_⟩⟩
      have b0 := boxed_keep (((HO.out.2.2.1).set (.slice Av L cv)).other (B' := w.heap.size + 1) (by omega) .nilIface) (grownBy_putObj' _ D (.deferred none)) (fun r e => by cases e; exact ⟨_, hK', rfl⟩)
      have b1 := boxed_keep ((HO.out.2.2.2.1.other (B' := w.heap.size) (by omega) (.slice Av L cv)).set .nilIface) (grownBy_putObj' _ D (.deferred none)) (fun r e => by cases e; exact ⟨_, hK', rfl⟩)
      have r1 := HO.out.2.1.kept (grownBy_setCell' W w.heap.size (.slice Av L cv)) (.inr (HO.out.2.2.1.not_row (by decide) HO.out.2.1).symm)
      have r2 := r1.kept (grownBy_setCell' _ (w.heap.size + 1) .nilIface) (.inr ((HO.out.2.2.2.1.other (B' := w.heap.size) (by omega) (.slice Av L cv)).not_row (by decide) r1).symm)
      have r3 := ownsRow_putObj r2 (.deferred none) hK' rfl
      rw [← HO.out.1] at r3
      have hEE := ((HO.out.2.2.2.2.2.1.setCell (p := ⟨w.heap.size, 0, none⟩) (Nat.le_refl _) (.slice Av L cv)).setCell (p := ⟨w.heap.size + 1, 0, none⟩) (by simp) .nilIface).trans (belowK_b (w := w) (Nat.le_refl _) _ D _ (.deferred none) (by omega) hK' rfl rfl)
      have hRs := OwnL.ls (sz := 2) (cs := rvC) (l := rvsOf b) rvC_length r3
      rw [HO.out.1] at hRs
      exact ⟨_, res_parse _ _ w.heap.size (w.heap.size + 1) _ _ rfl rfl b0.cell b1.cell, _, _, rfl, hEE, .inr ⟨HO.out.2.2.2.2.1, rfl, hRs⟩⟩
    case stop =>
      rintro D cd pre W hD _ ⟨⟨rfl, hR0, hR1, hbad⟩, hBel⟩ hK
      have HO := veil (And.intro hR0 (And.intro hR1 (And.intro hbad (And.intro hBel hK))))
      clear hR0 hR1 hbad hBel hK
      gi_wp2
      have hK := HO.out.2.2.2.2
      refine ⟨by simp, .inl ⟨_, _, rfl, run_takeDeferred hK, ?_⟩⟩
      have b0 := boxed_keep HO.out.1 (grownBy_putObj' _ D (.deferred none)) (fun r e => by cases e; exact ⟨_, hK, rfl⟩)
      have b1 := boxed_keep HO.out.2.1 (grownBy_putObj' _ D (.deferred none)) (fun r e => by cases e; exact ⟨_, hK, rfl⟩)
      exact ⟨_, res_parse _ _ w.heap.size (w.heap.size + 1) _ _ rfl rfl b0.cell b1.cell, _, _, rfl, HO.out.2.2.2.1.trans (belowK_b (w := w) (Nat.le_refl _) _ D _ (.deferred none) (by omega) hK rfl rfl), .inl ⟨HO.out.2.2.1, rfl, rfl⟩⟩
  · have ht : ((m : Int) % 16 != 0) = true := by simp; omega
    have HM := veil (And.intro hm h16)
    clear hm h16
    gi_wp2
    refine ⟨_, res_parse _ _ w.heap.size (w.heap.size + 1) (.slice none 0 0) (.iface 32 (.int .i64 2)) rfl rfl (by simp) (by simp), _, _, rfl, (Ext.alloc _ _).trans (Ext.alloc _ _), .inl ⟨.inl (by rw [← HM.out.1]; exact HM.out.2), rfl, rfl⟩⟩
end Go.Proofs.Ytldnncamaglofaa
