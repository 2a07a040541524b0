/-
  LimbBytes: the bytes of any number, and the number of any bytes, are the document's, by definition; more than 32 bytes are refused.
  No condition.
-/
import Derived.Test.YtlkpbjfkncmcgaaROf
import Derived.Test.YtlkpbjfkncmcgaaRBytes
import Derived.Test.YtlkpbjfkncmcgaaUp
import Derived.Test.YtlkpbjfkncmcgaaEql
import Derived.Test.YtlkpbjfkncmcgaaFrame
import Derived.Deep.RegionHeld3
import Derived.Laws.BytesString
namespace Go.Proofs.Ytlkpbjfkncmcgaa
open Go.RowKit

/-- The text of X's bytes. -/
def bstr (X : Nat) : ByteArray := ((List.range 32).map fun j => byv X (31 - j)).foldl (fun r n => r.push (UInt8.ofNat n.toNat)) ByteArray.empty
theorem str_at {w : World} {g c X : Nat} (hp : Pre w g 5 32 (bsv X)) : (convert 36 9 (.slice (some ⟨g, 0, none⟩) 32 c)).run Try.prog w = .ok (.string (bstr X)) w := by
  rw [run_convert_bytes_string (P := Try.prog) w 36 9 5 _ _ _ Try.underlying36 Try.underlying5 Try.underlying9]
  refine run_bytesToString (P := Try.prog) w ⟨g, 0, none⟩ 32 c _ ?_
  have h := run_loadCells_list (P := Try.prog) w ⟨g, 0, none⟩ ((List.range 32).map (bsv X)) (fun j v hv => by
    have hadd : (⟨g, 0, none⟩ : Addr).add j = ⟨g, j, none⟩ := by unfold Addr.add; split <;> simp_all
    rw [hadd]
    by_cases hj : j < 32
    · rw [hp.cell hj]
      simp [hj] at hv
      rw [hv]
    · simp [hj] at hv)
  simp only [List.length_map, List.length_range] at h
  rw [h, List.map_map]
  rfl

theorem bytes_str (X : Nat) (w : World) :
    Calls Try.prog 26 #[.agg #[.int .u64 (wd (X) 0), .int .u64 (wd (X) 1), .int .u64 (wd (X) 2), .int .u64 (wd (X) 3)]] w fun e w' => ∃ g, e = .returned (.slice (some ⟨g, 0, none⟩) 32 32) ∧ (∀ W', Below w'.heap.size w' W' → (convert 36 9 (.slice (some ⟨g, 0, none⟩) 32 32)).run Try.prog W' = .ok (.string (bstr X)) W') ∧ Below w.heap.size w w' := by
  refine (bytes_calls X w).mono ?_
  rintro e w' ⟨g, rfl, _, hr, hb⟩
  exact ⟨g, rfl, fun W' h => str_at ((Pre.of_row hr).below h hr.lt), hb⟩
theorem rbytes_str (X : Nat) (w : World) :
    Calls Try.prog 27 #[.agg #[.int .u64 (wd (X) 0), .int .u64 (wd (X) 1), .int .u64 (wd (X) 2), .int .u64 (wd (X) 3)]] w fun e w' => ∃ g cap, e = .returned (.slice (some ⟨g, 0, none⟩) 32 cap) ∧ (∀ W', Below w'.heap.size w' W' → (convert 36 9 (.slice (some ⟨g, 0, none⟩) 32 cap)).run Try.prog W' = .ok (.string (bstr X)) W') ∧ Below w.heap.size w w' := by
  refine (rbytes_calls X w).mono ?_
  rintro e w' ⟨g, cap, rfl, _, _, hr, hb⟩
  exact ⟨g, cap, rfl, fun W' h => str_at (hr.below h hr.lt), hb⟩

/-- A slice that came in, as n bytes y 0, y 1 .. -/
def Src (w : World) (A : Option Addr) (n : Nat) (y : Nat → Nat) : Prop := n = 0 ∨ ∃ b o, A = some ⟨b, o, none⟩ ∧ b < w.heap.size ∧ ∀ j, j < n → w.cell? ⟨b, o + j, none⟩ = some (.int .u8 (y j))
theorem Src.below {w w' : World} {A : Option Addr} {n : Nat} {y : Nat → Nat} (h : Src w A n y) (hb : Below w.heap.size w w') : Src w' A n y := by
  rcases h with h | ⟨b, o, ha, hlt, hc⟩
  · exact .inl h
  · exact .inr ⟨b, o, ha, Nat.lt_of_lt_of_le hlt hb.size, fun j hj => (hb.cell (p := ⟨b, o + j, none⟩) hlt).trans (hc j hj)⟩
theorem src_held {wz W : World} {A : Option Addr} {n : Nat} {y : Nat → Nat} (h : Src wz A n y) (hh : (∀ b o, b < wz.heap.size → W.cell? ⟨b, o, none⟩ = wz.cell? ⟨b, o, none⟩) ∧ Below wz.heap.size wz W) : Src W A n y := h.below hh.2

theorem of_src (A : Option Addr) (n c : Nat) (y : Nat → Nat) (hy : ∀ j, y j < 256) (hn : n ≤ 32) (w : World) (hs : Src w A n y) :
    Calls Try.prog 25 #[.slice A n c] w fun e w' => e = .returned (.tuple #[.agg #[.int .u64 (wd (lev (fun k => y (n - 1 - k)) n) 0), .int .u64 (wd (lev (fun k => y (n - 1 - k)) n) 1), .int .u64 (wd (lev (fun k => y (n - 1 - k)) n) 2), .int .u64 (wd (lev (fun k => y (n - 1 - k)) n) 3)], .nilIface]) ∧ Below w.heap.size w w' := by
  rcases hs with rfl | ⟨b, o, rfl, hlt, hc⟩
  · exact of_none A c w
  · exact of_some b o n c y hy hn w hlt hc
theorem rof_src (A : Option Addr) (n c : Nat) (y : Nat → Nat) (hy : ∀ j, y j < 256) (hn : n ≤ 32) (w : World) (hs : Src w A n y) :
    Calls Try.prog 28 #[.slice A n c] w fun e w' => e = .returned (.agg #[.int .u64 (wd (lev (fun k => y (n - 1 - k)) n) 0), .int .u64 (wd (lev (fun k => y (n - 1 - k)) n) 1), .int .u64 (wd (lev (fun k => y (n - 1 - k)) n) 2), .int .u64 (wd (lev (fun k => y (n - 1 - k)) n) 3)]) ∧ Below w.heap.size w w' := by
  rcases hs with rfl | ⟨b, o, rfl, hlt, hc⟩
  · exact rof_none A c w
  · exact rof_some b o n c y hy hn w hlt hc

theorem eql_err (w : World) : (binOp .eql 38 (.iface 41 (.int .i64 1)) (.iface 41 (.int .i64 1))).run Try.prog w = .ok (.bool true) w := by kernel_rfl

set_option maxHeartbeats 2000000 in
theorem bytes_big (X : Nat) (A : Option Addr) (n c : Nat) (hn : 32 < n) (w : World) :
    Calls Try.prog 6 #[.agg #[.int .u64 (wd (X) 0), .int .u64 (wd (X) 1), .int .u64 (wd (X) 2), .int .u64 (wd (X) 3)], .slice A n c] w fun e w' => e = .returned (.bool true) ∧ Below w.heap.size w w' := by
  have hB0 : Below w.heap.size w (w.alloc (.cells #[.int .u64 (wd (X) 0), .int .u64 (wd (X) 1), .int .u64 (wd (X) 2), .int .u64 (wd (X) 3)] 24)) := (Below.refl _ _).alloc (by simp) _
  have hi : (32 : Int) < (n : Int) := by omega
  have HN := veil hn
  have k1 := fun W => eql_err W
  have k2 := fun W => eql_num_same 0 W
  clear hn
  go_enter Try.func6, Try.ntmps6
  go_wp2_with fail
  refine (up_calls _).mono ?_
  rintro e w1 ⟨rfl, hb1⟩
  have hB1 := hB0.trans (hb1.mono hB0.size)
  clear hB0 hb1
  go_wp2_with fail
  refine (of_big A n c HN.out _).mono ?_
  rintro e w2 ⟨rfl, hb2⟩
  have hB2 := hB1.trans (hb2.mono hB1.size)
  clear hB1 hb2
  simp only [wd_zero] at k2 ⊢
  go_wp2
  go_ret
  exact ⟨rfl, hB2.alloc hB2.size _⟩

set_option maxRecDepth 100000 in
set_option maxHeartbeats 4000000 in
theorem bytes_small (X : Nat) (A : Option Addr) (n c : Nat) (y : Nat → Nat) (hy : ∀ j, y j < 256) (hn : n ≤ 32) (w : World) (hs : Src w A n y) :
    Calls Try.prog 6 #[.agg #[.int .u64 (wd (X) 0), .int .u64 (wd (X) 1), .int .u64 (wd (X) 2), .int .u64 (wd (X) 3)], .slice A n c] w fun e w' => e = .returned (.bool true) ∧ Below w.heap.size w w' := by
  have hRA : (w.alloc (.cells #[.int .u64 (wd (X) 0), .int .u64 (wd (X) 1), .int .u64 (wd (X) 2), .int .u64 (wd (X) 3)] 24)).rowIs w.heap.size 24 4 (fun j => .int .u64 (wd X j)) := row_new (n := 4) (by simp) rfl (arr4 fun j => .int .u64 (wd X j))
  have hB0 : Below w.heap.size w (w.alloc (.cells #[.int .u64 (wd (X) 0), .int .u64 (wd (X) 1), .int .u64 (wd (X) 2), .int .u64 (wd (X) 3)] 24)) := (Below.refl _ _).alloc (by simp) _
  have hi : (n : Int) ≤ 32 := by omega
  have HS0 := veil (hs.below hB0)
  have HY := veil hy
  have HN := veil hn
  clear hs hy hn
  go_enter Try.func6, Try.ntmps6
  go_wp2_with fail
  refine (up_calls _).mono ?_
  rintro e w1 ⟨rfl, hb1⟩
  have hRA1 := row_below hRA hb1 hRA.lt
  have HS1 := veil (HS0.out.below hb1)
  have hB1 := hB0.trans (hb1.mono hB0.size)
  clear hRA hB0 hb1 HS0
  go_wp2_with fail
  refine (of_src A n c y HY.out HN.out _ HS1.out).mono ?_
  rintro e w2 ⟨rfl, hb2⟩
  have hRA2 := row_below hRA1 hb2 hRA1.lt
  have HS2 := veil (HS1.out.below hb2)
  have hB2 := hB1.trans (hb2.mono hB1.size)
  clear hRA1 hB1 hb2 HS1
  obtain ⟨L, hL⟩ : ∃ L, L = lev (fun k => y (n - 1 - k)) n := ⟨_, rfl⟩
  have HL := veil hL
  rw [← hL]
  clear hL
  have hO3 : (w2.alloc (.cells #[.int .u64 (wd (L) 0), .int .u64 (wd (L) 1), .int .u64 (wd (L) 2), .int .u64 (wd (L) 3)] 24)).rowIs w2.heap.size 24 4 (fun j => .int .u64 (wd L j)) := row_new (n := 4) rfl rfl (arr4 fun j => .int .u64 (wd L j))
  have hRA3 := hRA2.alloc (.cells #[.int .u64 (wd (L) 0), .int .u64 (wd (L) 1), .int .u64 (wd (L) 2), .int .u64 (wd (L) 3)] 24)
  have hB3 := hB2.alloc hB2.size (.cells #[.int .u64 (wd (L) 0), .int .u64 (wd (L) 1), .int .u64 (wd (L) 2), .int .u64 (wd (L) 3)] 24)
  have HS3 := veil (HS2.out.below ((Below.refl w2.heap.size w2).alloc (Nat.le_refl _) (.cells #[.int .u64 (wd (L) 0), .int .u64 (wd (L) 1), .int .u64 (wd (L) 2), .int .u64 (wd (L) 3)] 24)))
  clear hRA2 hB2 HS2
  go_wp2
  generalize w2.alloc (.cells #[.int .u64 (wd (L) 0), .int .u64 (wd (L) 1), .int .u64 (wd (L) 2), .int .u64 (wd (L) 3)] 24) = wz at *
  obtain ⟨a0, a1, a2, a3⟩ := row_c4 hRA3
  obtain ⟨o0, o1, o2, o3⟩ := row_c4 hO3
  have z1 := hRA3.lt
  have z2 := hO3.lt
  have k1 := fun W => eql_num_same L W
  have HR : ∀ W, Src W A n y → Hid (Calls Try.prog 28 #[.slice A n c] W fun e w' => e = .returned (.agg #[.int .u64 (wd (L) 0), .int .u64 (wd (L) 1), .int .u64 (wd (L) 2), .int .u64 (wd (L) 3)]) ∧ Below W.heap.size W w') := fun W h => veil (by rw [HL.out]; exact rof_src A n c y HY.out HN.out W h)
  have HRR := veil HR
  clear hRA3 hO3 HR HL
  as_aux_lemma =>
  go_region_held (fun w' => (∀ b o, b < wz.heap.size → w'.cell? ⟨b, o, none⟩ = wz.cell? ⟨b, o, none⟩) ∧ Below wz.heap.size wz w')
    (first
      | assumption
      | exact keep_drew _
      | (refine keep_old (by with_reducible assumption) ?_; assumption))
    (first
      | (go_at_call 26; refine (bytes_str X _).mono ?_; rintro e w' ⟨g, rfl, hstr, hb0⟩; have hrf := Below.refl w'.heap.size w'; have hb' := hb0; clear hb0)
      | (go_at_call 27; refine (rbytes_str X _).mono ?_; rintro e w' ⟨g, cap, rfl, hstr, hb0⟩; have hrf := Below.refl w'.heap.size w'; have hb' := hb0; clear hb0)
      | (go_at_call 28; refine ((HRR.out _ (src_held HS3.out (by assumption))).out).mono ?_; rintro e w' ⟨rfl, hb'⟩))
  all_goals
    go_wp2
    go_ret
    have hh := (by assumption : _ ∧ Below wz.heap.size wz _)
    exact ⟨rfl, hB3.trans (hh.2.mono hB3.size)⟩

theorem bytes_walk (X : Nat) (A : Option Addr) (n c : Nat) (y : Nat → Nat) (hy : ∀ j, y j < 256) (w : World) (hs : Src w A n y) :
    Calls Try.prog 6 #[.agg #[.int .u64 (wd (X) 0), .int .u64 (wd (X) 1), .int .u64 (wd (X) 2), .int .u64 (wd (X) 3)], .slice A n c] w fun e w' => e = .returned (.bool true) ∧ Below w.heap.size w w' := by
  by_cases h : n ≤ 32
  · exact bytes_small X A n c y hy h w hs
  · exact bytes_big X A n c (by omega) w

/-! ### the statement -/
section
open Go.ChangeShapes Go.WideShapes Go.ChangeAt
theorem laidOut : laidOutB Try.prog = true := by kernel_rfl
theorem cellsByte : Try.prog.cellsOf 5 = 1 := by kernel_rfl

theorem src_of {H : Type} {enc : TypeId × Value → H} {W : World} {A : Option Addr} {len cap fuel : Nat} {d : DataW H} {p : List MemPlace}
    (hf : DataW.trod enc Try.prog W 0 (fun _ => true) true fuel 36 [.slice A len cap] = some (d, p)) (hlt : ∀ x ∈ p, x.block < W.heap.size) : ∃ y : Nat → Nat, (∀ j, y j < 256) ∧ Src W A len y := by
  rcases open_ints Try.underlying36 Try.underlying5 cellsByte hf with ⟨hcs, hx⟩ | ⟨a, len', cap', zs, hcs, _, hl, _, hz, hx, hcell, hwz⟩
  · simp only [List.cons.injEq, Value.slice.injEq, and_true] at hcs
    obtain ⟨_, rfl, _⟩ := hcs
    exact ⟨fun _ => 0, fun _ => (by decide : (0 : Nat) < 256), .inl rfl⟩
  · simp only [List.cons.injEq, Value.slice.injEq, and_true] at hcs
    obtain ⟨rfl, rfl, rfl⟩ := hcs
    simp only [Prod.mk.injEq] at hx
    obtain ⟨_, rfl⟩ := hx
    simp only [if_true] at hz
    have hb : ∀ j, 0 ≤ zs.getD j 0 ∧ zs.getD j 0 < 256 := fun j => by
      by_cases hj : j < zs.length
      · have h := hwz (zs.getD j 0) (by rw [List.getD_eq_getElem?_getD, List.getElem?_eq_getElem hj]; exact List.getElem_mem hj)
        simp only [Lit.wf, Bool.and_eq_true, decide_eq_true_eq] at h
        have e1 : IntKind.u8.min = 0 := rfl
        have e2 : IntKind.u8.max = 255 := rfl
        omega
      · rw [List.getD_eq_getElem?_getD, List.getElem?_eq_none (by omega)]; exact ⟨by decide, by decide⟩
    refine ⟨fun j => (zs.getD j 0).toNat, fun j => by have := hb j; show (zs.getD j 0).toNat < 256; omega, ?_⟩
    by_cases h0 : len = 0
    · exact .inl h0
    · obtain ⟨b, off, spot⟩ := a
      have hspot : spot = none := by simpa [Addr.add] using World.cell?_spot (hcell 0 (by omega))
      subst hspot
      refine .inr ⟨b, off, rfl, hlt (.cell b off) (MemPlace.mem_row.2 ⟨0, by omega, by simp⟩), fun j hj => ?_⟩
      rw [← add_plain, hcell j (by omega), Int.toNat_of_nonneg (hb j).1]

set_option maxRecDepth 100000 in
theorem LimbBytes_lifted (os : Os) (started : os.Started) (H : Type) (enc : TypeId × Value → H) :
    ReturnsInHanded {} Try.checked os 6 .any (Rows.limbBytesSpec.pre6 enc Try.prog Try.f6 Rows.limbBytesRow.domain false) (Rows.limbBytesSpec.post enc Try.prog Try.f6 false true false false) := by
  refine returnsInHanded_of_change (C := Try.checked) own started (by kernel_rfl) Try.func6
    (ChangeSpec.witness6 (enc := enc) (C := Try.checked) false ⟨#[], #[.agg #[.int .u64 0, .int .u64 0, .int .u64 0, .int .u64 0], .slice none 0 0], []⟩ 8 (by kernel_rfl) (by kernel_rfl) (by kernel_rfl) (by kernel_rfl)) ?_
  intro W base args ds gs before hval0 hW _ _
  have hval : ∀ (j : Nat) t v, Try.f6.params[j]? = some t → args[j]? = some v → Value.okWide Try.prog W .any base t v := hval0
  have hW' := hW
  obtain ⟨p, q, hA0, hV, rfl, _, _⟩ := hW
  have hA : DataW.TrodAll enc Try.prog W 0 (fun _ => true) true Try.f6.params.toList args.toList ds p := hA0
  rw [Try.params6] at hA hval
  obtain ⟨v0, v1, d0, d1, p0, p1, rfl, rfl, rfl, h0, h1⟩ := trodAll_two hA
  obtain ⟨rfl, rfl⟩ := trodVars_none hV
  obtain ⟨X, hX, rfl, rfl, rfl⟩ := open_num (hval 0 24 v0 rfl rfl) h0
  obtain ⟨a0, len, cap, rfl⟩ := okWide_slice Try.underlying36 (hval 1 36 v1 rfl rfl)
  have h1k := h1
  obtain ⟨fuel, hf⟩ := h1
  clear hA0 hval0
  simp only [List.append_nil, List.nil_append] at hW'
  have hlt : ∀ x ∈ p1, x.block < W.heap.size := fun x hx => by simpa using hW'.lt x hx
  obtain ⟨y, hy, hs⟩ := src_of (by simpa [Value.cells] using hf) hlt
  refine (bytes_walk X a0 len cap y hy W hs).mono fun e W' ⟨he, hb⟩ => ?_
  subst he
  exact ⟨_, rfl, _, _, _, [], p1, [], hW', trodAll_mk1 (shut_bool Try.underlying4 true), trodAll_mk2 (shut_num W' 0 _ true X) (Below.trod laidOut (by kernel_rfl) (of_decide_eq_true (by kernel_rfl)) h1k hb hlt), rfl, hb.frame _, fun h => by cases h⟩

theorem LimbBytes_over : Rows.limbBytesRow.holds Try.pinned (OpenSpec.ofChange Rows.limbBytesSpec) :=
  OpenClaim.holds_of_wide 6 Try.f6 rfl rfl rfl rfl rfl rfl rfl ⟨rfl, rfl, rfl, rfl, rfl⟩ rfl rfl rfl rfl rfl (by kernel_rfl) Try.func6 (by kernel_rfl)
    (of_decide_eq_true (by kernel_rfl)) (by unfold Func.isWrapper; rw [if_neg (of_decide_eq_false (by kernel_rfl))]; exact ⟨rfl, rfl⟩)
    (fun os started H enc _ => LimbBytes_lifted os started H enc)

theorem LimbBytes_holds : Rows.LimbBytesSaid :=
  LimbBytes_over
end

#print axioms LimbBytes_holds
end Go.Proofs.Ytlkpbjfkncmcgaa
