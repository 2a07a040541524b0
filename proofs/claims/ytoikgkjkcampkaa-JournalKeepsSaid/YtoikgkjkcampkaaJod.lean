/-
  JournalKeeps, walked under what is asked of the landed packages.
-/
import Derived.Test.YtoikgkjkcampkaaJoc
namespace Go.Proofs.Ytoikgkjkcampkaa
open Go.RowKit

theorem infoS16 : ∃ i z, Try.prog.info? 9 = some i ∧ i.zero = some z ∧ i.size = 1 ∧ i.bytes = 16 ∧ z.cells.size = 1 := by
  have h : (Try.prog.info? 9).map (fun i => (i.zero.map fun z => z.cells.size, i.size, i.bytes)) = some (some 1, 1, 16) := by kernel_rfl
  cases hi : Try.prog.info? 9 with
  | none => rw [hi] at h; cases h
  | some i =>
    rw [hi] at h
    simp only [Option.map_some, Option.some.injEq, Prod.mk.injEq] at h
    cases hz : i.zero with
    | none => rw [hz] at h; cases h.1
    | some z =>
      rw [hz] at h
      exact ⟨i, z, rfl, hz, h.2.1, h.2.2, by simpa using h.1⟩
theorem sC_one (x : List Nat) : ∀ u ∈ sC x, u.oneCell' = true := fun u hu => by
  obtain rfl : u = .string (strL x) := by simpa [sC] using hu
  rfl
theorem sC_len (x : List Nat) : (sC x).length = 1 := rfl
theorem Chg.of_grown {w w' : World} {row : Option Nat} (h : w.grownBy w' row) : Chg (fun k => row = some k) w w' := ⟨h.os, h.tape, h.output, h.size, fun k hk hn => h.block k hk fun e => hn e.symm⟩
/-- One string more, appended to what the walk owns. -/
theorem wpl_app_s {base : Nat} {ops : Array Oper} {Q : Exit → Act → World → Prop} {rest : List Oper} {op : Oper} {a : Act} {s x : Operand} {w : World} {v : Value} {l : List (List Nat)} {y : List Nat} {g : Nat}
    (hgd : op.guard = none) (hop : op.op = .call { callee := .builtin .append, args := #[s, x], argTypes := #[33, 33] })
    (hs : a.eval s = v) (hx : a.eval x = .slice (some ⟨g, 0, none⟩) 1 1) (o : OwnL 1 sC w base 9 v l) (hg : w.heap[g]? = some (.cells #[.string (strL y)] 9 (0, 0))) (hl : l.length ≤ 1000) (hbase : base ≤ w.heap.size)
    (h : ∀ v' w', OwnL 1 sC w' base 9 v' (l ++ [y]) → Chg (fun k => v.ownBlock = some k) w w' → (v'.ownBlock = v.ownBlock ∨ v'.ownBlock = some w.heap.size) → wpList Try.prog ops Q rest (a.put op.dst v') w') : wpList Try.prog ops Q (op :: rest) a w := by
  obtain ⟨i, z, hi, hz, h1, h16, hzs⟩ := infoS16
  refine wpList_plain hgd fun K hK => ?_
  obtain ⟨v', w', hr, h2, h3, h4⟩ := run_append_ls (P := Try.prog) (sz := 1) (cs := sC) Try.underlying33 hi hz h1 h16 hzs (by decide) (fun _ => rfl) sC_one op.type o (ys := [y]) (m := 1) rfl (ls_one (x := y) (c := 1) hg) (by unfold maxLen; omega) (by omega) hbase
  unfold Oper.wp execOp
  simp only [hop, resolve, invoke, builtin, Sem.run_bind, Sem.run_pure, Result.andThen_ok, List.map_toArray, List.map_cons, List.map_nil, hs, hx, hr]
  exact hK _ _ (h v' w' h2 (Chg.of_grown h3) h4)
/-- What the law holds: a flash of B, its journal in state s, and the records that it wants. -/
structure StJ (C : Code16) (w0 w : World) (f j : Value) (B : List Nat) (s : JS) (ws : List (List Nat)) (F G : Nat → Prop) (vw : Value) : Prop where
  fa : C.FA w f B F
  ja : C.JA w j f s G
  dis : ∀ k, F k → ¬ G k
  newF : ∀ k, F k → w0.heap.size ≤ k
  newG : ∀ k, G k → w0.heap.size ≤ k
  own : OwnL 1 sC w w0.heap.size 9 vw ws
  far : ∀ k, vw.ownBlock = some k → ¬ F k ∧ ¬ G k
  ext : Ext w0 w
  byt : ∀ x ∈ ws, Byt x
/-- The same without a journal. -/
structure StF (C : Code16) (w0 w : World) (f : Value) (B : List Nat) (ws : List (List Nat)) (F : Nat → Prop) (vw : Value) : Prop where
  fa : C.FA w f B F
  newF : ∀ k, F k → w0.heap.size ≤ k
  own : OwnL 1 sC w w0.heap.size 9 vw ws
  far : ∀ k, vw.ownBlock = some k → ¬ F k
  ext : Ext w0 w
  byt : ∀ x ∈ ws, Byt x
section
variable {C : Code16} {w0 w w' : World} {f j vw v' : Value} {B B' : List Nat} {s s' : JS} {ws : List (List Nat)} {F G F' G' : Nat → Prop} {x : List Nat}
theorem StJ.small (h : StJ C w0 w f j B s ws F G vw) : ∀ z, z < w0.heap.size → ¬ (F z ∨ G z) := fun z hz k => by
  rcases k with k | k
  · have := h.newF z k; omega
  · have := h.newG z k; omega
theorem StJ.call (h : StJ C w0 w f j B s ws F G vw) (hC : Chg (fun k => F k ∨ G k) w w') (fa : C.FA w' f B' F') (ja : C.JA w' j f s' G') (dis : ∀ k, F' k → ¬ G' k) (hf : ∀ k, F' k → F k ∨ w.heap.size ≤ k) (hg : ∀ k, G' k → G k ∨ w.heap.size ≤ k) : StJ C w0 w' f j B' s' ws F' G' vw := by
  have hs := Below.size h.ext
  refine ⟨fa, ja, dis, fun z hz => ?_, fun z hz => ?_, h.own.chg hC fun k hk hn => hn.elim (h.far k hk).1 (h.far k hk).2, fun z hz => ⟨fun hn => ?_, fun hn => ?_⟩, hC.new h.ext h.small, h.byt⟩
  · rcases hf z hz with k | k
    · exact h.newF z k
    · omega
  · rcases hg z hz with k | k
    · exact h.newG z k
    · omega
  · have := (h.own.lt hz).2
    rcases hf z hn with k | k
    · exact (h.far z hz).1 k
    · omega
  · have := (h.own.lt hz).2
    rcases hg z hn with k | k
    · exact (h.far z hz).2 k
    · omega
theorem StJ.tear (h : StJ C w0 w f j B s ws F G vw) (hC : Chg (fun k => F k ∨ G k) w w') (fa : C.FA w' f B' F') (hf : ∀ k, F' k → F k ∨ w.heap.size ≤ k) : StF C w0 w' f B' ws F' vw := by
  have hs := Below.size h.ext
  refine ⟨fa, fun z hz => ?_, h.own.chg hC fun k hk hn => hn.elim (h.far k hk).1 (h.far k hk).2, fun z hz hn => ?_, hC.new h.ext h.small, h.byt⟩
  · rcases hf z hz with k | k
    · exact h.newF z k
    · omega
  · have := (h.own.lt hz).2
    rcases hf z hn with k | k
    · exact (h.far z hz).1 k
    · omega
theorem StJ.moved (h : StJ C w0 w f j B s ws F G vw) (k : Ext w w') : StJ C w0 w' f j B s ws F G vw :=
  ⟨C.fa_ext _ _ _ _ _ h.fa k, C.ja_ext _ _ _ _ _ _ h.ja k, h.dis, h.newF, h.newG, h.own.keep k, h.far, h.ext.trans k, h.byt⟩
theorem StF.moved (h : StF C w0 w f B ws F vw) (k : Ext w w') : StF C w0 w' f B ws F vw :=
  ⟨C.fa_ext _ _ _ _ _ h.fa k, h.newF, h.own.keep k, h.far, h.ext.trans k, h.byt⟩
theorem StF.opened (h : StF C w0 w f B ws F vw) (k : Ext w w') (ja : C.JA w' j f s G) (hg : ∀ z, G z → w.heap.size ≤ z) : StJ C w0 w' f j B s ws F G vw :=
  ⟨C.fa_ext _ _ _ _ _ h.fa k, ja, fun z h1 h2 => by
    have := C.fa_lt _ _ _ _ h.fa z h1
    have := hg z h2
    omega, h.newF, fun z hz => Nat.le_trans (Below.size h.ext) (hg z hz), h.own.keep k, fun z hz => ⟨h.far z hz, fun h2 => by
    have := (h.own.lt hz).2
    have := hg z h2
    omega⟩, h.ext.trans k, h.byt⟩
theorem StJ.add (h : StJ C w0 w f j B s ws F G vw) (own : OwnL 1 sC w' w0.heap.size 9 v' (ws ++ [x])) (hC : Chg (fun k => vw.ownBlock = some k) w w') (hb : v'.ownBlock = vw.ownBlock ∨ v'.ownBlock = some w.heap.size) (hx : Byt x) : StJ C w0 w' f j B s (ws ++ [x]) F G v' := by
  refine ⟨C.fa_chg _ _ _ _ _ _ h.fa hC fun k hk hn => (h.far k hn).1 hk, C.ja_chg _ _ _ _ _ _ _ h.ja hC fun k hk hn => (h.far k hn).2 hk, h.dis, h.newF, h.newG, own, fun z hz => ?_, hC.new h.ext fun z hz hn => ?_, fun y hy => ?_⟩
  · rcases hb with hb | hb
    · exact h.far z (by rw [← hb]; exact hz)
    · obtain rfl : w.heap.size = z := Option.some.inj (hb.symm.trans hz)
      exact ⟨fun k => by have := C.fa_lt _ _ _ _ h.fa _ k; omega, fun k => by have := C.ja_lt _ _ _ _ _ h.ja _ k; omega⟩
  · have := (h.own.lt hn).1
    omega
  · rcases List.mem_append.1 hy with hy | hy
    · exact h.byt y hy
    · rw [List.mem_singleton.1 hy]; exact hx
theorem StF.add (h : StF C w0 w f B ws F vw) (own : OwnL 1 sC w' w0.heap.size 9 v' (ws ++ [x])) (hC : Chg (fun k => vw.ownBlock = some k) w w') (hb : v'.ownBlock = vw.ownBlock ∨ v'.ownBlock = some w.heap.size) (hx : Byt x) : StF C w0 w' f B (ws ++ [x]) F v' := by
  refine ⟨C.fa_chg _ _ _ _ _ _ h.fa hC fun k hk hn => h.far k hn hk, h.newF, own, fun z hz => ?_, hC.new h.ext fun z hz hn => ?_, fun y hy => ?_⟩
  · rcases hb with hb | hb
    · exact h.far z (by rw [← hb]; exact hz)
    · obtain rfl : w.heap.size = z := Option.some.inj (hb.symm.trans hz)
      exact fun k => by have := C.fa_lt _ _ _ _ h.fa _ k; omega
  · have := (h.own.lt hn).1
    omega
  · rcases List.mem_append.1 hy with hy | hy
    · exact h.byt y hy
    · rw [List.mem_singleton.1 hy]; exact hx
theorem bs_far {A : Option Addr} {m : Nat} {H : Nat → Prop} (h : Bs w A x) (hm : m = x.length) (hn : ∀ k, H k → w.heap.size ≤ k) (h0 : 0 < m) {ad : Addr} (e : A = some ad) : ¬ H ad.block := fun k => by
  rcases h.2 with h | ⟨b, o, e2, hb, _⟩
  · omega
  · rw [e] at e2
    obtain rfl := Option.some.inj e2
    have := hn b k
    omega
end
/-- Journals that only grew. -/
def CleanS (B : List Nat) (ws : List (List Nat)) : Prop := CleanJ B ws.length ws ∧ ∃ t e, seg B (24 * (ws.length % 2)) 24 = slotB t e ∧ t = ws.length ∧ e < 4611686018427387904
theorem CleanS.okJ {B : List Nat} {ws : List (List Nat)} (h : CleanS B ws) (hl : ws.length ≤ 1000) : OkJ B ⟨ws.length, ws, false⟩ := ⟨rfl, h.1.good, rfl, hl⟩
theorem GoodJ.okJ {B : List Nat} {ws : List (List Nat)} (h : GoodJ B ws.length ws) (hl : ws.length ≤ 1000) : OkJ B ⟨ws.length, ws, false⟩ := ⟨rfl, h, rfl, hl⟩
theorem good_open {B : List Nat} {ws : List (List Nat)} (h : GoodJ B ws.length ws) : (endJ B).1 = ws.length ∧ recsJ B = ws := by
  have h0 : ws.length = 0 → ws = [] := List.length_eq_zero_iff.1
  exact ⟨by rw [good_end h h0], good_recs h h0⟩
theorem CleanS.app {B : List Nat} {ws : List (List Nat)} {r : List Nat} (h : CleanS B ws) (hl : ws.length ≤ 1000) (hm : mayR B ws r) : CleanS (putS (putR B (encRs ws).length r) ws.length ((encRs ws).length + 2 + r.length) 24) (ws ++ [r]) := by
  have := clean_app h.1 hm (by omega) h.2
  unfold CleanS
  rw [List.length_append, List.length_singleton]
  exact this
theorem clean_area {B : List Nat} {T : Nat} {l : List (List Nat)} {bs : List Nat} (h : CleanJ B T l) (hb : (encRs l).length + bs.length ≤ B.length - 48) : CleanJ (putAt B (48 + (encRs l).length) bs) T l := by
  have hs := h.good.size
  have hk : (T + 1) % 2 < 2 := Nat.mod_lt _ (by omega)
  obtain ⟨t, e, h1, h2⟩ := h.old
  exact ⟨good_area h.good hb, t, e, by rw [seg_far (by omega) (by omega)]; exact h1, h2⟩
/-- Behind Tear: what is wanted is there. -/
theorem tear_good {B B' : List Nat} {ws : List (List Nat)} {r : List Nat} {step n : Int} {ev : Value} (h : CleanS B ws) (hl : ws.length ≤ 1000) (k : TearJ B ⟨ws.length, ws, false⟩ r step n ev B') :
    (isErr ev ∧ GoodJ B' ws.length ws) ∨ (ev = .nilIface ∧ ((step = 2 ∧ n = 24) ∧ GoodJ B' (ws ++ [r]).length (ws ++ [r]) ∨ ¬ (step = 2 ∧ n = 24) ∧ GoodJ B' ws.length ws)) := by
  rcases k with ⟨h1, rfl⟩ | ⟨h1, -, hm, h2⟩
  · exact .inl ⟨h1, h.1.good⟩
  · have hm : mayR B ws r := hm
    have hs := h.1.good.size
    obtain ⟨m1, m2, m3⟩ := hm
    refine .inr ⟨h1, ?_⟩
    rcases h2 with ⟨s1, n0, n1, rfl⟩ | ⟨s2, n0, n1, rfl⟩
    · refine .inr ⟨by omega, good_area h.1.good ?_⟩
      rw [List.length_take, encR_len]
      show (encRs ws).length + min n.toNat (r.length + 2) ≤ B.length - 48
      omega
    · by_cases c : n = 24
      · refine .inl ⟨⟨s2, c⟩, ?_⟩
        have := good_app h.1.good ⟨m1, m2, m3⟩ (by omega)
        rw [c, List.length_append, List.length_singleton]
        exact this
      · exact .inr ⟨fun k => c k.2, good_cut (clean_area h.1 (by rw [encR_len]; show (encRs ws).length + (r.length + 2) ≤ B.length - 48; omega)) (by omega)⟩

set_option maxRecDepth 100000 in
set_option maxHeartbeats 8000000 in
theorem keeps_walk (C : Code16) (size : Int) (vl : Value) (l : List Tv) (Ar Am : Option Addr) (mr cr mm cm : Nat) (r more : List Nat) (step n : Int) (w : World) (hl : Tx w vl l) (hr : mr = r.length) (hcr : mr ≤ cr) (hR : Bs w Ar r) (hm : mm = more.length) (hcm : mm ≤ cm) (hM : Bs w Am more)
    (b0 : -9223372036854775808 ≤ step) (b1 : step ≤ 9223372036854775807) (b2 : -9223372036854775808 ≤ n) (b3 : n ≤ 9223372036854775807) :
    Calls Try.prog 3 #[.int .i64 size, vl, .slice Ar mr cr, .int .i64 step, .int .i64 n, .slice Am mm cm] w fun e w' => e = .returned (.bool true) ∧ Ext w w' := by
  have KU := veil (fun W => up16_calls C W)
  have hTX := veil hl
  obtain ⟨⟨AL, c, rfl, hc, hx⟩, hT⟩ := hl
  obtain ⟨k, hk⟩ : ∃ k, k = l.length := ⟨_, rfl⟩
  rw [← hk] at hx hc ⊢
  have HX := veil (And.intro hx (And.intro hT hk))
  have HR := veil (And.intro hr (And.intro hcr hR))
  have HM := veil (And.intro hm (And.intro hcm hM))
  have HB := veil (And.intro b0 (And.intro b1 (And.intro b2 b3)))
  clear hx hT hk hr hcr hR hm hcm hM b0 b1 b2 b3 hTX
  have e1 := eqNil16
  have e2 := neNil16
  have e3 := errNil16
  go_enter Try.func3, Try.ntmps3
  go_upto_region 2 with (go_at_call 4; refine (KU.out _).mono ?_; rintro e w1 ⟨rfl, hE1⟩)
  have HE1 := veil hE1
  clear hE1 KU
  by_cases a0 : size < 64
  · have d0 : decide (size < 64) = true := decide_eq_true a0
    go_wp2
    go_ret
    exact ⟨rfl, HE1.out⟩
  have d0 : decide (size < 64) = false := decide_eq_false a0
  by_cases a1 : 4000 < size
  · have d1 : decide (4000 < size) = true := decide_eq_true a1
    go_wp2
    go_ret
    exact ⟨rfl, HE1.out⟩
  have d1 : decide (4000 < size) = false := decide_eq_false a1
  by_cases a2 : (40 : Int) < (k : Int)
  · have d2 : decide ((40 : Int) < (k : Int)) = true := decide_eq_true a2
    go_wp2
    go_ret
    exact ⟨rfl, HE1.out⟩
  have d2 : decide ((40 : Int) < (k : Int)) = false := decide_eq_false a2
  by_cases a3 : (3000 : Int) < (mr : Int)
  · have d3 : decide ((3000 : Int) < (mr : Int)) = true := decide_eq_true a3
    go_wp2
    go_ret
    exact ⟨rfl, HE1.out⟩
  have d3 : decide ((3000 : Int) < (mr : Int)) = false := decide_eq_false a3
  by_cases a4 : (3000 : Int) < (mm : Int)
  · have d4 : decide ((3000 : Int) < (mm : Int)) = true := decide_eq_true a4
    go_wp2
    go_ret
    exact ⟨rfl, HE1.out⟩
  have d4 : decide ((3000 : Int) < (mm : Int)) = false := decide_eq_false a4
  obtain ⟨N, rfl⟩ : ∃ N : Nat, size = (N : Int) := ⟨size.toNat, by omega⟩
  have HN := veil (show 64 ≤ N ∧ N ≤ 4000 ∧ k ≤ 40 ∧ mr ≤ 3000 ∧ mm ≤ 3000 by omega)
  have KN := veil (C.new N w1 HN.out.1 HN.out.2.1)
  clear a0 a1 a2 a3 a4
  go_upto_region 5 with (go_at_call 5; refine KN.out.mono ?_; rintro e w2 ⟨ad, F, rfl, hE2, hF2, hf2⟩)
  clear d0 d1 d2 d3 d4 KN
  have HF2 := veil (And.intro hF2 (And.intro hf2 (HE1.out.trans hE2)))
  have hcl := clean_new (n := N) HN.out.1 HN.out.2.1
  have KO := veil (C.open_ ad (List.replicate N 0) F w2 hF2 (by rw [List.length_replicate]; exact HN.out.1) (by rw [List.length_replicate]; exact HN.out.2.1))
  obtain ⟨o1, o2⟩ := good_open (ws := []) hcl.1.good
  rw [o1, o2] at KO
  have HC := veil (show CleanS (List.replicate N 0) [] from hcl)
  have hw1 := Below.size HE1.out
  have hw2 := Below.size hE2
  clear hF2 hf2 hE2 hcl o1 o2
  go_upto_region 8 with (go_at_call 6; refine KO.out.mono ?_; rintro e w3 ⟨aj, G, rfl, hE3, hJ3, hg3⟩)
  have hd : ∀ z, F z → ¬ G z := fun z h1 h2 => by
    have := C.fa_lt _ _ _ _ HF2.out.1 z h1
    have := hg3 z h2
    omega
  have HS := veil (show StJ C w w3 (.pointer (some ad)) (.pointer (some aj)) (List.replicate N 0) ⟨0, [], false⟩ [] F G (.slice none 0 0) from
    ⟨C.fa_ext _ _ _ _ _ HF2.out.1 hE3, hJ3, hd, fun z hz => Nat.le_trans hw1 (HF2.out.2.1 z hz), fun z hz => Nat.le_trans (Nat.le_trans hw1 hw2) (hg3 z hz), OwnL.nil _ _ _, (fun z hz => by cases hz), HF2.out.2.2.trans hE3, fun x hx => (by simp at hx)⟩)
  clear hE3 hJ3 hg3 hd hw1 hw2 KO HF2 HE1
  go_wp2
  go_loopw [18, 19, 20] (fun u v _ wr => ∃ (i : Nat) (B : List Nat) (ws : List (List Nat)) (F G : Nat → Prop), i ≤ k ∧ v = .int .i64 (i : Int) ∧ ws.length ≤ i ∧ StJ C w wr (.pointer (some ad)) (.pointer (some aj)) B ⟨ws.length, ws, false⟩ ws F G u ∧ CleanS B ws)
    (fun _ v _ _ => k - (intOf v).toNat)
  case atStart => exact ⟨0, _, [], F, G, by omega, rfl, by simp, HS.out, HC.out⟩
  case round =>
    clear HS HC F G
    obtain ⟨i, B, ws, F, G, hi, rfl, hwi, hS, hC⟩ := hrel
    have hk40 := HN.out.2.2.1
    by_cases hlt : i < k
    · have hd1 : decide ((i : Int) < (k : Int)) = true := by simp; omega
      have hii : (i : Int) < (k : Int) := by omega
      obtain ⟨b, o, hAL, hb, hcl⟩ := HX.out.1.resolve_left (by omega)
      have hil : i < l.length := by have := HX.out.2.2; omega
      obtain ⟨A, q, hxA, hq, hbs⟩ := HX.out.2.1 _ (tv_mem hil)
      have hc0 := fun W (h : Ext w W) => txt_cell h hb hcl hil
      obtain ⟨x, hxx⟩ : ∃ x, x = (l.getD i noTv).2 := ⟨_, rfl⟩
      rw [hxA] at hc0
      rw [← hxx] at hc0 hbs hq
      obtain ⟨p, hp⟩ : ∃ p, p = x.length := ⟨_, rfl⟩
      rw [← hp] at hc0 hq
      have HC0 := veil hc0
      have HBx := veil (And.intro hbs hp)
      have hE := hS.ext
      have c0 := HC0.out _ hE
      subst hAL
      clear hxA hxx hbs hp hb hcl hil hc0
      by_cases a5 : (3000 : Int) < (p : Int)
      · have d5 : decide ((3000 : Int) < (p : Int)) = true := decide_eq_true a5
        go_wp2
        go_ret
        exact ⟨rfl, hE⟩
      have d5 : decide ((3000 : Int) < (p : Int)) = false := decide_eq_false a5
      have KA := veil (C.append _ _ _ _ _ _ A p q x wr hS.fa hS.ja hS.dis (hC.okJ (by omega)) HBx.out.2 hq (by omega) (HBx.out.1.ext hE) fun h0 ad he => ⟨bs_far HBx.out.1 HBx.out.2 hS.newF h0 he, bs_far HBx.out.1 HBx.out.2 hS.newG h0 he⟩)
      have HS := veil (And.intro hS (And.intro hC (show ws.length ≤ i from hwi)))
      clear a5 hS hC hE hwi
      go_upto_region 17 with (go_at_call 7; refine KA.out.mono ?_; rintro e w4 ⟨ev, B', s', F', G', rfl, hCh, hfa, hja, hdis, hfn, hgn, hA⟩)
      have HS4 := veil (HS.out.1.call hCh hfa hja hdis hfn hgn)
      clear c0 d5 hCh hfa hja hdis hfn hgn KA
      rcases hA with ⟨⟨xe, rfl⟩, rfl, rfl⟩ | ⟨rfl, -, hmr, rfl, rfl⟩
      · have e4 := errNil16 xe
        go_wp2
        go_roundw
        case rel => exact ⟨i + 1, _, ws, F', G', by omega, by go_num, by have := HS.out.2.2; omega, HS4.out, HS.out.2.1⟩
        case measure => simp [intOf]; omega
      · have HQ := veil (HS.out.2.1.app (by have := HS.out.2.2; omega) hmr)
        have c0 := HC0.out _ HS4.out.ext
        have k1 := str_of (HBx.out.1.ext HS4.out.ext) HBx.out.2 (c := q)
        clear hmr
        go_wp2_with ((with_reducible refine at_slot 100 ?_); refine wpl_app_s rfl rfl rfl rfl (HS4.out.moved (Ext.alloc w4 _)).own (heap_new w4 _) (by have := HS.out.2.2; omega) (Below.size (HS4.out.moved (Ext.alloc w4 _)).ext) ?_; intro v6 w6 hO6 hC6 hb6)
        have HS6 := veil ((HS4.out.moved (Ext.alloc w4 _)).add hO6 hC6 hb6 HBx.out.1.1)
        clear hO6 hC6 hb6 k1 c0
        go_roundw
        case rel => exact ⟨i + 1, _, ws ++ [x], F', G', by omega, by go_num, by have := HS.out.2.2; rw [List.length_append, List.length_singleton]; omega, by rw [List.length_append, List.length_singleton]; exact HS6.out, HQ.out⟩
        case measure => simp [intOf]; omega
    · obtain rfl : i = k := by omega
      have hd1 : decide ((i : Int) < (i : Int)) = false := by simp
      have KT := veil (C.tear _ _ _ _ _ _ Ar mr cr r step n wr hS.fa hS.ja hS.dis (hC.okJ (by omega)) HR.out.1 HR.out.2.1 HN.out.2.2.2.1 (HR.out.2.2.ext hS.ext) (fun h0 ad he => ⟨bs_far HR.out.2.2 HR.out.1 hS.newF h0 he, bs_far HR.out.2.2 HR.out.1 hS.newG h0 he⟩) HB.out.1 HB.out.2.1 HB.out.2.2.1 HB.out.2.2.2)
      have HS := veil (And.intro hS (And.intro hC (show ws.length ≤ 40 by omega)))
      clear hS hC hwi hlt
      go_upto_region 19 with (fail)
      go_cut [21] from 101 to 105 (fun u wx => ∃ B' F', StF C w wx (.pointer (some ad)) B' ws F' u18 ∧ TearJ B ⟨ws.length, ws, false⟩ r step n u B')
      case first =>
        go_wp2_with (go_at_call 8; refine KT.out.mono ?_; rintro e w4 ⟨ev, B', F', rfl, hCh, hfa, hfn, hT⟩)
        go_meet
        case rel => exact ⟨B', F', HS.out.1.tear hCh hfa hfn, hT⟩
      case rest =>
      rename_i ev _ _ _ _ _
      obtain ⟨B', F', hS4, hT⟩ := hcut
      have HS4 := veil hS4
      have HT := veil (tear_good HS.out.2.1 (by have := HS.out.2.2; omega) hT)
      have Hws := veil HS.out.2.2
      clear hd1 hS4 hT KT HS
      obtain ⟨w4, hw4⟩ : ∃ W, W = wc := ⟨_, rfl⟩
      rw [← hw4] at HS4 ⊢
      clear hw4
      go_step
      go_step
      go_cut [18] from 106 to 120 (fun u wx => ∃ ws2 : List (List Nat), StF C w wx (.pointer (some ad)) B' ws2 F' u ∧ GoodJ B' ws2.length ws2 ∧ ws2.length ≤ 41)
      case first =>
        rcases HT.out with ⟨⟨xe, rfl⟩, hG⟩ | ⟨rfl, ⟨⟨rfl, rfl⟩, hG⟩ | ⟨hno, hG⟩⟩
        · have e4 := errNil16 xe
          have HG := veil hG
          clear hG
          go_wp2
          go_meet
          case rel => exact ⟨ws, HS4.out, HG.out, by have := Hws.out; omega⟩
        · have HG := veil hG
          have k1 := str_of (HR.out.2.2.ext HS4.out.ext) HR.out.1 (c := cr)
          clear hG
          go_wp2_with ((with_reducible refine at_slot 120 ?_); refine wpl_app_s rfl rfl rfl rfl (HS4.out.moved (Ext.alloc w4 _)).own (heap_new w4 _) (by have := Hws.out; omega) (Below.size (HS4.out.moved (Ext.alloc w4 _)).ext) ?_; intro v6 w6 hO6 hC6 hb6)
          have HS6 := veil ((HS4.out.moved (Ext.alloc w4 _)).add hO6 hC6 hb6 HR.out.2.2.1)
          clear hO6 hC6 hb6 k1
          go_meet
          case rel => exact ⟨ws ++ [r], HS6.out, HG.out, by rw [List.length_append, List.length_singleton]; have := Hws.out; omega⟩
        · have HG := veil hG
          by_cases g2 : step = 2
          · have f2 : (step == 2) = true := by simp [g2]
            have f3 : (n == 24) = false := by simpa using fun h => hno ⟨g2, h⟩
            clear hG hno g2
            go_wp2
            go_meet
            case rel => exact ⟨ws, HS4.out, HG.out, by have := Hws.out; omega⟩
          · have f2 : (step == 2) = false := by simp [g2]
            clear hG hno g2
            go_wp2
            go_meet
            case rel => exact ⟨ws, HS4.out, HG.out, by have := Hws.out; omega⟩
      case rest =>
      obtain ⟨ws2, hS, hG, h41⟩ := hcut
      obtain ⟨o1, o2⟩ := good_open hG
      have HG := veil (And.intro hG h41)
      have hsame := fun (vw : Value) (hO : Ss wc vw ws2) => hO
      have KO := veil (fun W (h : Ext wc W) => C.open_ ad B' F' W (C.fa_ext _ _ _ _ _ hS.fa h) hG.size.1 hG.size.2)
      rw [o1, o2] at KO
      have HS5 := veil hS
      obtain ⟨Aw, cw, hvw, -, -⟩ := OwnL.ls sC_len hS.own
      subst hvw
      have KS := veil (fun v (lv : List Tv) W (h : Ext wc W) (ht : Tx W v lv) (he : txs lv = ws2) => show Calls Try.prog 9 #[v, .slice Aw ws2.length cw] W fun e w' => e = .returned (.bool true) ∧ Ext W w' from by
        have := same16_calls _ rfl v _ lv ws2 W ht (OwnL.ls sC_len (hS.own.keep h)) hS.byt (by rw [← txs_len, he]; omega)
        rwa [he, decide_eq_true rfl] at this)
      clear hS hG h41 o1 o2 HT HS4 Hws hsame
      go_upto_region 23 with (go_at_call 6; refine (KO.out _ (Ext.refl _)).mono ?_; rintro e w5 ⟨a5, G5, rfl, hE5, hJ5, hg5⟩)
      have HJ5 := veil (And.intro hJ5 hE5)
      have KR := veil (fun W (h : Ext w5 W) => C.records _ _ _ _ _ _ W (C.fa_ext _ _ _ _ _ HS5.out.fa (HJ5.out.2.trans h)) (C.ja_ext _ _ _ _ _ _ HJ5.out.1 h) (HG.out.1.okJ (by have := HG.out.2; omega)))
      clear hJ5 hE5 hg5
      go_upto_region 25 with (first
        | (go_at_call 10; refine (KR.out _ (Ext.refl _)).mono ?_; rintro e w6 ⟨v6, l6, rfl, hE6, hT6, hl6⟩; have HE6 := veil (HJ5.out.2.trans hE6))
        | (go_at_call 9; refine (KS.out _ _ _ HE6.out hT6 hl6).mono ?_; rintro e w7 ⟨rfl, hE7⟩))
      have HE7 := veil (HE6.out.trans hE7)
      clear hE6 hT6 hl6 HE6 hE7 HJ5 KR
      go_upto_region 26 with (go_at_call 6; refine (KO.out _ HE7.out).mono ?_; rintro e w8 ⟨a8, G8, rfl, hE8, hJ8, hg8⟩)
      have HE8 := veil (HE7.out.trans hE8)
      have HS8 := veil ((HS5.out.moved HE7.out).opened hE8 hJ8 hg8)
      have KR := veil (fun W (h : Ext w8 W) => C.records _ _ _ _ _ _ W (C.fa_ext _ _ _ _ _ HS8.out.fa h) (C.ja_ext _ _ _ _ _ _ HS8.out.ja h) (HG.out.1.okJ (by have := HG.out.2; omega)))
      clear hE8 hJ8 hg8 HE7 HS5 KO
      go_upto_region 28 with (first
        | (go_at_call 10; refine (KR.out _ (Ext.refl _)).mono ?_; rintro e w9 ⟨v9, l9, rfl, hE9, hT9, hl9⟩; have HE9 := veil (HE8.out.trans hE9); have HF9 := veil hE9)
        | (go_at_call 9; refine (KS.out _ _ _ HE9.out hT9 hl9).mono ?_; rintro e wa ⟨rfl, hEa⟩))
      have HSa := veil (HS8.out.moved (HF9.out.trans hEa))
      clear hE9 hT9 hl9 HE9 hEa HF9 KR KS HS8 HE8
      have hSa := HSa.out
      have KA := veil (C.append _ _ _ _ _ _ Am mm cm more wa hSa.fa hSa.ja hSa.dis (HG.out.1.okJ (by have := HG.out.2; omega)) HM.out.1 HM.out.2.1 HN.out.2.2.2.2 (HM.out.2.2.ext hSa.ext) fun h0 ad he => ⟨bs_far HM.out.2.2 HM.out.1 hSa.newF h0 he, bs_far HM.out.2.2 HM.out.1 hSa.newG h0 he⟩)
      clear hSa
      go_cut [24] from 157 to 159 (fun u wx => ∃ B3 s3 F3 G3, StJ C w wx (.pointer (some ad)) (.pointer (some a8)) B3 s3 ws2 F3 G3 (.slice Aw ws2.length cw) ∧ AppJ B' ⟨ws2.length, ws2, false⟩ more u B3 s3)
      case first =>
        go_wp2_with (go_at_call 7; refine KA.out.mono ?_; rintro e wb ⟨ev, B3, s3, F3, G3, rfl, hCh, hfa, hja, hdis, hfn, hgn, hA⟩)
        go_meet
        case rel => exact ⟨B3, s3, F3, G3, HSa.out.call hCh hfa hja hdis hfn hgn, hA⟩
      case rest =>
      obtain ⟨B3, s3, F3, G3, hSb, hA⟩ := hcut
      have HSb := veil hSb
      have HA := veil hA
      clear hSb hA KA HSa
      obtain ⟨wb, hwb⟩ : ∃ W, W = wc := ⟨_, rfl⟩
      rw [← hwb] at HSb ⊢
      clear hwb
      go_step
      go_step
      go_cut [18] from 160 to 166 (fun u wx => ∃ (ws3 : List (List Nat)), StJ C w wx (.pointer (some ad)) (.pointer (some a8)) B3 s3 ws3 F3 G3 u ∧ s3 = ⟨ws3.length, ws3, false⟩ ∧ GoodJ B3 ws3.length ws3 ∧ ws3.length ≤ 42)
      case first =>
        rcases HA.out with ⟨⟨xe, rfl⟩, rfl, rfl⟩ | ⟨rfl, -, hmr, rfl, rfl⟩
        · have e4 := errNil16 xe
          go_wp2
          go_meet
          case rel => exact ⟨ws2, HSb.out, rfl, HG.out.1, by have := HG.out.2; omega⟩
        · have HQ := veil (show GoodJ _ (ws2 ++ [more]).length (ws2 ++ [more]) from by
            rw [List.length_append, List.length_singleton]
            exact good_app HG.out.1 hmr (by have := HG.out.2; omega))
          have k1 := str_of (HM.out.2.2.ext HSb.out.ext) HM.out.1 (c := cm)
          clear hmr HA
          go_wp2_with ((with_reducible refine at_slot 166 ?_); refine wpl_app_s rfl rfl rfl rfl (HSb.out.moved (Ext.alloc wb _)).own (heap_new wb _) (by have := HG.out.2; omega) (Below.size (HSb.out.moved (Ext.alloc wb _)).ext) ?_; intro v6 w6 hO6 hC6 hb6)
          have HS6 := veil ((HSb.out.moved (Ext.alloc wb _)).add hO6 hC6 hb6 HM.out.2.2.1)
          clear hO6 hC6 hb6 k1
          go_meet
          case rel => exact ⟨ws2 ++ [more], HS6.out, by rw [List.length_append, List.length_singleton], HQ.out, by rw [List.length_append, List.length_singleton]; have := HG.out.2; omega⟩
      case rest =>
      obtain ⟨ws3, hS, hs3, hG3, h42⟩ := hcut
      clear HSb HA HG
      obtain ⟨o1, o2⟩ := good_open hG3
      have KO := veil (C.open_ ad B3 F3 wc hS.fa hG3.size.1 hG3.size.2)
      rw [o1, o2] at KO
      have HS := veil hS
      obtain ⟨Aw, cw, hvw, -, -⟩ := OwnL.ls sC_len hS.own
      subst hvw
      have KS := veil (fun v (lv : List Tv) W (h : Ext wc W) (ht : Tx W v lv) (he : txs lv = ws3) => show Calls Try.prog 9 #[v, .slice Aw ws3.length cw] W fun e w' => e = .returned (.bool true) ∧ Ext W w' from by
        have := same16_calls _ rfl v _ lv ws3 W ht (OwnL.ls sC_len (hS.own.keep h)) hS.byt (by rw [← txs_len, he]; omega)
        rwa [he, decide_eq_true rfl] at this)
      have KRk := veil (fun W (h : Ext wc W) => C.records _ _ _ _ _ _ W (C.fa_ext _ _ _ _ _ hS.fa h) (C.ja_ext _ _ _ _ _ _ hS.ja h) (by rw [hs3]; exact hG3.okJ (by omega)))
      rw [hs3] at KRk
      have HG3 := veil (And.intro hG3 h42)
      clear hS hs3 hG3 h42 o1 o2
      go_upto_region 32 with (go_at_call 6; refine KO.out.mono ?_; rintro e wd ⟨a9, G9, rfl, hEd, hJd, hgd⟩)
      have HEd := veil hEd
      have KRp := veil (fun W (h : Ext wd W) => C.records _ _ _ _ _ _ W (C.fa_ext _ _ _ _ _ HS.out.fa (hEd.trans h)) (C.ja_ext _ _ _ _ _ _ hJd h) (HG3.out.1.okJ (by have := HG3.out.2; omega)))
      clear hEd hJd hgd KO
      go_wp2_with (first
        | (go_at_call 10; with_reducible refine (KRp.out _ (Ext.refl _)).mono ?_; rintro e we ⟨ve, le, rfl, hEe, hTe, hle⟩; have HEe := veil (HEd.out.trans hEe); clear hEe KRp)
        | (go_at_call 9; with_reducible refine (KS.out _ _ _ HEe.out hTe hle).mono ?_; rintro e wf ⟨rfl, hEf⟩; have HEf := veil (HEe.out.trans hEf); clear hEf hTe hle)
        | (go_at_call 10; with_reducible refine (KRk.out _ HEf.out).mono ?_; rintro e wg ⟨vg, lg, rfl, hEg, hTg, hlg⟩; have HEg := veil (HEf.out.trans hEg); clear hEg)
        | (go_at_call 9; with_reducible refine (KS.out _ _ _ HEg.out hTg hlg).mono ?_; rintro e wh ⟨rfl, hEh⟩))
      go_ret
      exact ⟨rfl, HS.out.ext.trans (HEg.out.trans hEh)⟩
end Go.Proofs.Ytoikgkjkcampkaa
