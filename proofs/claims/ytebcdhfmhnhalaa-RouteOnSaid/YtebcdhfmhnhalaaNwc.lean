/-
  Networks in memory; clapperref13.stop, Few.
-/
import Derived.Test.YtebcdhfmhnhalaaSvc
import Derived.Test.YtebcdhfmhnhalaaNwa
namespace Go.Proofs.Ytebcdhfmhnhalaa
open Go.RowKit

def cnC (c : Cn) : List Value := [.int .i64 c.sv, .int .i64 c.fr, .int .i64 c.dp, .int .i64 c.tu, .int .i64 c.ar]
/-- v is a slice of the rides l. -/
abbrev Cs13 (w : World) (v : Value) (l : List Cn) : Prop := Ls 5 cnC w v l
/-- A service with its days, as it lies in memory. -/
abbrev Sw := Sv × Value × Value
def swC (x : Sw) : List Value := [.int .i64 x.1.wk, .int .i64 x.1.fr, .int .i64 x.1.to, x.2.1, x.2.2]
/-- v is a slice of the services l. -/
def Ws13 (w : World) (v : Value) (l : List Sw) : Prop := Ls 5 swC w v l ∧ ∀ x ∈ l, Ds w x.2.1 x.1.ex ∧ Ds w x.2.2 x.1.ec
theorem Ws13.ext {w w' : World} {v : Value} {l : List Sw} (h : Ws13 w v l) (k : Ext w w') : Ws13 w' v l := ⟨h.1.ext k, fun x hx => ⟨(h.2 x hx).1.ext k, (h.2 x hx).2.ext k⟩⟩
theorem swC_arr (x : Sw) : (swC x).toArray = svC x.1 x.2.1 x.2.2 := rfl
theorem iSw (x : Sw) : (Try.prog.info? 43).map (·.size) = some (swC x).length := iSv x.1 x.2.1 x.2.2
theorem iCn (c : Cn) : (Try.prog.info? 39).map (·.size) = some (cnC c).length := by
  show _ = some 5
  kernel_rfl
theorem iCnA (c : Cn) : (Try.prog.info? 39).map (·.size) = some (cnC c).toArray.size := iCn c
theorem cnA_one (c : Cn) : (cnC c).toArray.all (·.oneCell') = true := by simp [cnC, Value.oneCell']
/-- v is the network n, its services as ws. -/
def Nv13 (w : World) (v : Value) (n : Nw) : Prop := ∃ vS vC ws, v = .agg #[vS, vC] ∧ Ws13 w vS ws ∧ n.ss = ws.map (·.1) ∧ Cs13 w vC n.cs
theorem Nv13.ext {w w' : World} {v : Value} {n : Nw} (h : Nv13 w v n) (k : Ext w w') : Nv13 w' v n := by
  obtain ⟨vS, vC, ws, e, h1, h2, h3⟩ := h
  exact ⟨vS, vC, ws, e, h1.ext k, h2, h3.ext k⟩
section
variable {w w' : World} {g : Nat} {vS vC : Value} {c : Cn}
/-- g holds a network. -/
def NwAt (w : World) (g : Nat) (vS vC : Value) : Prop := w.heap[g]? = some (.cells #[vS, vC] 25 (0, 0))
theorem NwAt.ext (h : NwAt w g vS vC) (k : Ext w w') : NwAt w' g vS vC := k.block h
theorem NwAt.at0 (h : NwAt w g vS vC) : w.cell? ⟨g, 0, none⟩ = some vS := cell_of_row w g 0 _ _ _ h
theorem NwAt.at1 (h : NwAt w g vS vC) : w.cell? ⟨g, 1, none⟩ = some vC := cell_of_row w g 1 _ _ _ h
theorem NwAt.new (w : World) (vS vC : Value) : NwAt (w.alloc (.cells #[vS, vC] 25)) w.heap.size vS vC := heap_new w _
theorem iNw : (Try.prog.info? 25).map (·.size) = some (#[vS, vC] : Array Value).size := by
  show _ = some 2
  kernel_rfl
/-- g holds a ride. -/
def CnAt (w : World) (g : Nat) (c : Cn) : Prop := w.heap[g]? = some (.cells (cnC c).toArray 39 (0, 0))
theorem CnAt.ext (h : CnAt w g c) (k : Ext w w') : CnAt w' g c := k.block h
theorem CnAt.at0 (h : CnAt w g c) : w.cell? ⟨g, 0, none⟩ = some (.int .i64 c.sv) := cell_of_row w g 0 _ _ _ h
theorem CnAt.at1 (h : CnAt w g c) : w.cell? ⟨g, 1, none⟩ = some (.int .i64 c.fr) := cell_of_row w g 1 _ _ _ h
theorem CnAt.at2 (h : CnAt w g c) : w.cell? ⟨g, 2, none⟩ = some (.int .i64 c.dp) := cell_of_row w g 2 _ _ _ h
theorem CnAt.at3 (h : CnAt w g c) : w.cell? ⟨g, 3, none⟩ = some (.int .i64 c.tu) := cell_of_row w g 3 _ _ _ h
theorem CnAt.at4 (h : CnAt w g c) : w.cell? ⟨g, 4, none⟩ = some (.int .i64 c.ar) := cell_of_row w g 4 _ _ _ h
end
theorem cn_get {l : List Cn} {i : Nat} (h : i < l.length) : l[i]? = some (l.getD i noCn) := by rw [List.getD_eq_getElem?_getD, List.getElem?_eq_getElem h]; rfl
def noSw : Sw := (noSv, .slice none 0 0, .slice none 0 0)
theorem sw_get {l : List Sw} {i : Nat} (h : i < l.length) : l[i]? = some (l.getD i noSw) := by rw [List.getD_eq_getElem?_getD, List.getElem?_eq_getElem h]; rfl
theorem sw_mem {l : List Sw} {i : Nat} (h : i < l.length) : l.getD i noSw ∈ l := List.mem_of_getElem? (sw_get h)
theorem sw_fst {l : List Sw} (i : Nat) : (l.map (·.1)).getD i noSv = (l.getD i noSw).1 := by
  rw [List.getD_eq_getElem?_getD, List.getD_eq_getElem?_getD, List.getElem?_map]
  cases l[i]? <;> rfl
/-- Few enough to be gone through. -/
def fewN (n : Nw) : Bool := decide (n.ss.length ≤ 40 ∧ n.cs.length ≤ 200 ∧ ∀ i, i < n.ss.length → (n.ss.getD i noSv).ex.length ≤ 300 ∧ (n.ss.getD i noSv).ec.length ≤ 300)
theorem fewN_no {n : Nw} (h : ¬ (n.ss.length ≤ 40 ∧ n.cs.length ≤ 200 ∧ ∀ i, i < n.ss.length → (n.ss.getD i noSv).ex.length ≤ 300 ∧ (n.ss.getD i noSv).ec.length ≤ 300)) : fewN n = false := decide_eq_false h
theorem fewN_is {n : Nw} (h : fewN n = true) : n.ss.length ≤ 40 ∧ n.cs.length ≤ 200 ∧ ∀ i, i < n.ss.length → (n.ss.getD i noSv).ex.length ≤ 300 ∧ (n.ss.getD i noSv).ec.length ≤ 300 := of_decide_eq_true h

set_option maxRecDepth 100000 in
theorem stop13_calls (x : Int) (w : World) : Calls Try.prog 20 #[.int .i64 x] w fun e w' => e = .returned (.bool (stopB x)) ∧ w' = w := by
  unfold stopB
  by_cases g0 : 0 ≤ x
  · have d0 : decide (0 ≤ x) = true := decide_eq_true g0
    rw [d0, Bool.true_and]
    go_enter Try.func20, Try.ntmps20
    go_wp2
    go_ret
    exact ⟨rfl, rfl⟩
  · have d0 : decide (0 ≤ x) = false := decide_eq_false g0
    rw [d0, Bool.false_and]
    go_enter Try.func20, Try.ntmps20
    go_wp2
    go_ret
    exact ⟨rfl, rfl⟩

set_option maxRecDepth 100000 in
set_option maxHeartbeats 8000000 in
theorem few13_calls (v : Value) (n : Nw) (w : World) (hF : Nv13 w v n) : Calls Try.prog 8 #[v] w fun e w' => e = .returned (.bool (fewN n)) ∧ Ext w w' := by
  obtain ⟨vS, vC, ws, rfl, ⟨hS, hD⟩, hss, hC⟩ := hF
  obtain ⟨R, hR⟩ : ∃ R, R = fewN n := ⟨_, rfl⟩
  rw [← hR]
  obtain ⟨AS, cS, rfl, hcS, hxS⟩ := hS
  obtain ⟨AC, cC, rfl, hcC, _⟩ := hC
  obtain ⟨k, hk⟩ : ∃ k, k = ws.length := ⟨_, rfl⟩
  obtain ⟨m, hm⟩ : ∃ m, m = n.cs.length := ⟨_, rfl⟩
  rw [← hk] at hxS hcS ⊢
  rw [← hm] at hcC ⊢
  have hkl : n.ss.length = k := by rw [hss, List.length_map, ← hk]
  have HX := veil (And.intro hxS hD)
  have HR := veil (And.intro hR (And.intro hk (And.intro hm (And.intro hss hkl))))
  have hE0 := Ext.alloc w (.cells #[.slice AS k cS, .slice AC m cC] 25)
  have hS0 := NwAt.new w (.slice AS k cS) (.slice AC m cC)
  clear hR hk hm hxS hD hss hkl
  go_enter Try.func8, Try.ntmps8
  go_upto_region 1 with (fail)
  unfold NwAt at hS0
  obtain ⟨g, hg⟩ : ∃ g, g = w.heap.size := ⟨_, rfl⟩
  rw [← hg] at hS0 ⊢
  generalize w.alloc (.cells #[.slice AS k cS, .slice AC m cC] 25) = w0 at *
  have HS := veil (show NwAt w0 g (.slice AS k cS) (.slice AC m cC) from hS0)
  have HE := veil hE0
  clear hE0 hS0 hg
  have c0 := HS.out.at0
  have c1 := HS.out.at1
  by_cases a1 : (40 : Int) < (k : Int)
  · have d1 : decide ((40 : Int) < (k : Int)) = true := decide_eq_true a1
    have e : R = false := HR.out.1.trans (fewN_no fun h => by have := HR.out.2.2.2.2; omega)
    subst e
    go_wp2
    go_ret
    exact ⟨rfl, HE.out⟩
  have d1 : decide ((40 : Int) < (k : Int)) = false := decide_eq_false a1
  by_cases a2 : (200 : Int) < (m : Int)
  · have d2 : decide ((200 : Int) < (m : Int)) = true := decide_eq_true a2
    have e : R = false := HR.out.1.trans (fewN_no fun h => by have := HR.out.2.2.1; omega)
    subst e
    go_wp2
    go_ret
    exact ⟨rfl, HE.out⟩
  have d2 : decide ((200 : Int) < (m : Int)) = false := decide_eq_false a2
  have HK := veil (show k ≤ 40 ∧ m ≤ 200 by omega)
  go_wp2
  clear c0 c1 d1 d2 a1 a2
  go_loopw [3] (fun v wr => ∃ i : Nat, i ≤ k ∧ v = .int .i64 (i : Int) ∧ (∀ j, j < i → (n.ss.getD j noSv).ex.length ≤ 300 ∧ (n.ss.getD j noSv).ec.length ≤ 300) ∧ Ext w0 wr)
    (fun v _ => k - (intOf v).toNat)
  case atStart => exact ⟨0, by omega, rfl, fun j hj => by omega, Ext.refl _⟩
  case round =>
    obtain ⟨i, hi, rfl, hall, hE⟩ := hrel
    have c0 := (HS.out.ext hE).at0
    have hk40 : k ≤ 40 := HK.out.1
    by_cases hlt : i < k
    · have hd1 : decide ((i : Int) < (k : Int)) = true := by simp; omega
      have hii : (i : Int) < (k : Int) := by omega
      obtain ⟨b, o, hAS, hb, hcl⟩ := HX.out.1.resolve_left (by omega)
      have hil : i < ws.length := by have := HR.out.2.1; omega
      have hrg := range_ext (HE.out.trans hE) hb (hcl i _ (sw_get hil))
      have hdd := HX.out.2 _ (sw_mem hil)
      obtain ⟨x, hx⟩ : ∃ x, x = ws.getD i noSw := ⟨_, rfl⟩
      rw [← hx] at hrg hdd
      obtain ⟨s, vE, vX⟩ := x
      obtain ⟨⟨AE, cE, hvE, _, _⟩, ⟨AX, cX, hvX, _, _⟩⟩ := hdd
      simp only at hvE hvX
      subst hvE hvX
      have hs : n.ss.getD i noSv = s := by rw [HR.out.2.2.2.1, sw_fst, ← hx]
      obtain ⟨p, hp⟩ : ∃ p, p = s.ex.length := ⟨_, rfl⟩
      obtain ⟨q, hq⟩ : ∃ q, q = s.ec.length := ⟨_, rfl⟩
      rw [← hp, ← hq] at hrg
      have c3 : wr.cell? ⟨b, o + i * 5 + 3, none⟩ = some (.slice AE p cE) := hrg 3 _ rfl
      have c4 : wr.cell? ⟨b, o + i * 5 + 4, none⟩ = some (.slice AX q cX) := hrg 4 _ rfl
      have HI := veil (And.intro hall (And.intro hs (And.intro hp (And.intro hq hE))))
      subst hAS
      clear hrg hx hs hp hq hall hE hb hcl hil
      by_cases a1 : (300 : Int) < (p : Int)
      · have d1 : decide ((300 : Int) < (p : Int)) = true := decide_eq_true a1
        have e : R = false := HR.out.1.trans (fewN_no fun h => by
          have h1 := h.2.2 i (by have := HR.out.2.2.2.2; omega)
          rw [HI.out.2.1, ← HI.out.2.2.1] at h1
          omega)
        subst e
        go_wp2
        go_ret
        exact ⟨rfl, HE.out.trans HI.out.2.2.2.2⟩
      have d1 : decide ((300 : Int) < (p : Int)) = false := decide_eq_false a1
      by_cases a2 : (300 : Int) < (q : Int)
      · have d2 : decide ((300 : Int) < (q : Int)) = true := decide_eq_true a2
        have e : R = false := HR.out.1.trans (fewN_no fun h => by
          have h1 := h.2.2 i (by have := HR.out.2.2.2.2; omega)
          rw [HI.out.2.1, ← HI.out.2.2.2.1] at h1
          omega)
        subst e
        go_wp2
        go_ret
        exact ⟨rfl, HE.out.trans HI.out.2.2.2.2⟩
      have d2 : decide ((300 : Int) < (q : Int)) = false := decide_eq_false a2
      go_wp2
      go_roundw
      case rel =>
        refine ⟨i + 1, by omega, by go_num, fun j hj => ?_, HI.out.2.2.2.2⟩
        by_cases e : j = i
        · subst e
          rw [HI.out.2.1, ← HI.out.2.2.1, ← HI.out.2.2.2.1]
          omega
        · exact HI.out.1 j (by omega)
      case measure => simp [intOf]; omega
    · obtain rfl : i = k := by omega
      have hd1 : decide ((i : Int) < (i : Int)) = false := by simp
      have e : R = true := HR.out.1.trans (decide_eq_true ⟨by have := HR.out.2.2.2.2; have := HK.out.1; omega, by have := HR.out.2.2.1; have := HK.out.2; omega, fun j hj => hall j (by have := HR.out.2.2.2.2; omega)⟩)
      subst e
      clear hall
      go_wp2
      go_ret
      exact ⟨rfl, HE.out.trans hE⟩
end Go.Proofs.Ytebcdhfmhnhalaa
