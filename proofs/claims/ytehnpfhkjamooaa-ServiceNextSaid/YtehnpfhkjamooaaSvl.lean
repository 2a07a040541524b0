/-
  service.Next: the landed package's own; all that the laws ask of it.
-/
import Derived.Test.YtehnpfhkjamooaaSvq
namespace Go.Proofs.Ytehnpfhkjamooaa
open Go.RowKit

def NextA (s : Sv) (d : Int) (e : Ending) : Prop := ∃ r is, e = .returned (.tuple #[.int .i64 r, .bool is]) ∧ NextP s d r is
def ExtraA (l : List Int) (d : Int) (y : Int) (f : Bool) : Prop := ∃ i : Nat, AtD l d i ∧ ((i = l.length ∧ y = 0 ∧ f = false) ∨ (i < l.length ∧ y = l.getD i 0 ∧ f = true))
theorem extra_no {l : List Int} {d y : Int} (h : ExtraA l d y false) {x : Int} (hx : d ≤ x) : decide (x ∈ l) = false := by
  obtain ⟨i, hA, ⟨h1, -, -⟩ | ⟨-, -, h⟩⟩ := h
  · exact d_not fun j hj e => by have := hA.2.1 j (by omega); omega
  · cases h
theorem extra_0 {l : List Int} {d y : Int} (h : ExtraA l d y false) : y = 0 := by
  obtain ⟨i, hA, ⟨-, h2, -⟩ | ⟨-, -, h⟩⟩ := h
  · exact h2
  · cases h
theorem extra_yes {l : List Int} {d y : Int} (hr : riseD l) (h : ExtraA l d y true) : decide (y ∈ l) = true ∧ d ≤ y ∧ ∀ x, d ≤ x → x < y → decide (x ∈ l) = false := by
  obtain ⟨i, hA, ⟨-, -, h⟩ | ⟨h1, h2, -⟩⟩ := h
  · cases h
  · subst h2
    refine ⟨d_is h1 rfl, hA.2.2 i (by omega) h1, fun x hx hy => d_not fun j hj e => ?_⟩
    by_cases c : j < i
    · have := hA.2.1 j c
      omega
    · by_cases c2 : j = i
      · subst c2; omega
      · have := hr i j (by omega) hj
        omega
theorem nextP_week {s : Sv} {d t r : Int} (hM : mayV s = true) (hd : 0 ≤ d) (h : WeekP s d t r true) (he : ∀ x, d ≤ x → x < t → decide (x ∈ s.ex) = false) : NextP s d r true := by
  obtain ⟨-, h1, h2, h3, h4⟩ | ⟨h, -⟩ := h
  · exact .inl ⟨rfl, hM, hd, h1, by rw [runsV_w, h3, Bool.or_true], fun x hx hy => by rw [runsV_w, h4 x hx hy, he x hx (by omega)]; rfl⟩
  · cases h
theorem nextP_extra {s : Sv} {d t r y : Int} (hM : mayV s = true) (hd : 0 ≤ d) (h : WeekP s d t r false) (ht : s.to ≤ t ∨ y ≤ t) (he : ExtraA s.ex d y true) : NextP s d y true := by
  obtain ⟨h, -⟩ | ⟨-, -, h4⟩ := h
  · cases h
  · obtain ⟨e1, e2, e3⟩ := extra_yes (rise_of (mayV_parts hM).1) he
    refine .inl ⟨rfl, hM, hd, e2, by rw [runsV_w, e1]; rfl, fun x hx hy => ?_⟩
    rw [runsV_w, e3 x hx hy]
    by_cases c : x < t
    · rw [h4 x hx c]; rfl
    · rw [weekV_to (by omega)]; rfl
theorem nextP_none {s : Sv} {d r y : Int} (h : WeekP s d s.to r false) (he : ExtraA s.ex d y false) : NextP s d y false := by
  obtain ⟨h, -⟩ | ⟨-, -, h4⟩ := h
  · cases h
  · refine .inr ⟨rfl, extra_0 he, .inr (.inr fun x hx => ?_)⟩
    rw [runsV_w, extra_no he hx]
    by_cases c : x < s.to
    · rw [h4 x hx c]; rfl
    · rw [weekV_to (by omega)]; rfl

set_option maxRecDepth 100000 in
set_option maxHeartbeats 8000000 in
theorem next12_calls (v : Value) (s : Sv) (d : Int) (w : World) (hF : Vs12 w v s) (h1 : s.ex.length ≤ 1000000000) (h2 : s.ec.length ≤ 1000000000) :
    Calls Try.prog 12 #[v, .int .i64 d] w fun e w' => NextA s d e ∧ Ext w w' := by
  have KM := veil (fun W (h : Ext w W) => may12_calls v s W (hF.ext h) h1 h2)
  have KW := veil (fun t W (h : Ext w W) (hM : mayV s = true) (hd : 0 ≤ d) (ht : t ≤ 1048576) => (nextByWeek_calls v s d t W (hF.ext h) hM hd ht).mono fun e w' h => show (∃ r is, e = .returned (.tuple #[.int .i64 r, .bool is]) ∧ WeekP s d t r is) ∧ Ext W w' from h)
  obtain ⟨vE, vX, rfl, hE, hX⟩ := hF
  have KA := veil (fun W (h : Ext w W) (hM : mayV s = true) => (nextExtra_calls vE s.ex d W (hE.ext h) h1 (rise_of (mayV_parts hM).1)).mono fun e w' h => show (∃ y f, e = .returned (.tuple #[.int .i64 y, .bool f]) ∧ ExtraA s.ex d y f) ∧ w' = W from by
    obtain ⟨⟨i, hA, ⟨a, b⟩ | ⟨a, b⟩⟩, c⟩ := h
    · exact ⟨⟨0, false, b, i, hA, .inl ⟨a, rfl, rfl⟩⟩, c⟩
    · exact ⟨⟨_, true, b, i, hA, .inr ⟨a, rfl, rfl⟩⟩, c⟩)
  obtain ⟨AE, cE, rfl, -, -⟩ := hE
  obtain ⟨AX, cX, rfl, -, -⟩ := hX
  clear h1 h2
  obtain ⟨n, hn⟩ : ∃ n, n = s.ex.length := ⟨_, rfl⟩
  obtain ⟨m, hm⟩ : ∃ n, n = s.ec.length := ⟨_, rfl⟩
  simp only [← hn, ← hm] at KM KW KA ⊢
  clear hn hm
  have hE0 := Ext.alloc w (.cells (svC s (.slice AE n cE) (.slice AX m cX)) 24)
  have hS0 := SvAt.new w s (.slice AE n cE) (.slice AX m cX)
  obtain ⟨M, hM⟩ : ∃ M, M = mayV s := ⟨_, rfl⟩
  rw [← hM] at KM
  have HM := veil hM
  clear hM
  go_enter Try.func12, Try.ntmps12
  go_upto_region 1 with (fail)
  obtain ⟨g, hg⟩ : ∃ g, g = w.heap.size := ⟨_, rfl⟩
  rw [← hg] at hS0 ⊢
  generalize w.alloc (.cells (svC s (.slice AE n cE) (.slice AX m cX)) 24) = w0 at *
  have HS := veil hS0
  have HE := veil hE0
  clear hE0 hS0 hg
  cases M with
  | false =>
    go_wp2_with (first
      | ((with_reducible refine at_slot 11 ?_); refine wpList_load_row rfl 24 _ rfl g rfl 24 (svC s (.slice AE n cE) (.slice AX m cX)) (0, 0) _ HS.out Try.underlying24 rfl (iSv s _ _) ?_)
      | (go_at_call 10; with_reducible refine (KM.out _ HE.out).mono ?_; rintro e w1 ⟨rfl, hE1⟩))
    go_ret2
    exact ⟨⟨0, false, rfl, .inr ⟨rfl, rfl, .inl HM.out.symm⟩⟩, HE.out.trans hE1⟩
  | true =>
    by_cases g0 : d < 0
    · have f0 : decide (d < 0) = true := decide_eq_true g0
      go_wp2_with (first
        | ((with_reducible refine at_slot 11 ?_); refine wpList_load_row rfl 24 _ rfl g rfl 24 (svC s (.slice AE n cE) (.slice AX m cX)) (0, 0) _ HS.out Try.underlying24 rfl (iSv s _ _) ?_)
        | (go_at_call 10; with_reducible refine (KM.out _ HE.out).mono ?_; rintro e w1 ⟨rfl, hE1⟩))
      go_ret2
      exact ⟨⟨0, false, rfl, .inr ⟨rfl, rfl, .inr (.inl g0)⟩⟩, HE.out.trans hE1⟩
    have f0 : decide (d < 0) = false := decide_eq_false g0
    have HD := veil g0
    clear g0
    go_upto_region 3 with (first
      | ((with_reducible refine at_slot 11 ?_); refine wpList_load_row rfl 24 _ rfl g rfl 24 (svC s (.slice AE n cE) (.slice AX m cX)) (0, 0) _ HS.out Try.underlying24 rfl (iSv s _ _) ?_)
      | (go_at_call 10; with_reducible refine (KM.out _ HE.out).mono ?_; rintro e w1 ⟨rfl, hE1⟩))
    have HE1 := veil (HE.out.trans hE1)
    have HS1 : Hid (SvAt w1 g s (.slice AE n cE) (.slice AX m cX)) := veil (HS.out.ext hE1)
    have c2 := HS1.out.at2
    have c3 := HS1.out.at3
    have HT := veil (mayV_parts HM.out.symm)
    clear hE1 HE HS KM f0
    go_upto_region 5 with (go_at_call 20; with_reducible refine (KA.out _ HE1.out HM.out.symm).mono ?_; rintro e w2 ⟨⟨y, f, rfl, hy⟩, rfl⟩)
    have HY := veil hy
    clear hy KA
    cases f with
    | false =>
      go_upto_region 8 with (first
        | ((with_reducible refine at_slot 32 ?_); refine wpList_load_row rfl 24 _ rfl g rfl 24 (svC s (.slice AE n cE) (.slice AX m cX)) (0, 0) _ HS1.out Try.underlying24 rfl (iSv s _ _) ?_)
        | (go_at_call 21; with_reducible refine (KW.out _ _ HE1.out HM.out.symm (by have := HD.out; omega) (by have := HT.out; omega)).mono ?_; rintro e w3 ⟨⟨r, is, rfl, hr⟩, hE3⟩))
      have HR := veil hr
      have HE3 := veil (HE1.out.trans hE3)
      clear hr hE3 KW
      cases is with
      | true =>
        go_wp2
        go_ret2
        exact ⟨⟨_, true, rfl, nextP_week HM.out.symm (by have := HD.out; omega) HR.out fun x hx _ => extra_no HY.out hx⟩, HE3.out⟩
      | false =>
        go_wp2
        go_ret2
        exact ⟨⟨_, false, rfl, nextP_none HR.out HY.out⟩, HE3.out⟩
    | true =>
      rcases Int.lt_or_le y s.to with g1 | g1
      · go_upto_region 7 with (fail)
        have HG := veil g1
        clear g1
        go_upto_region 8 with (first
          | ((with_reducible refine at_slot 32 ?_); refine wpList_load_row rfl 24 _ rfl g rfl 24 (svC s (.slice AE n cE) (.slice AX m cX)) (0, 0) _ HS1.out Try.underlying24 rfl (iSv s _ _) ?_)
          | (go_at_call 21; with_reducible refine (KW.out _ _ HE1.out HM.out.symm (by have := HD.out; omega) (by have := HT.out; have := HG.out; omega)).mono ?_; rintro e w3 ⟨⟨r, is, rfl, hr⟩, hE3⟩))
        have HR := veil hr
        have HE3 := veil (HE1.out.trans hE3)
        have HX := veil (extra_yes (rise_of HT.out.1) HY.out)
        clear hr hE3 KW
        cases is with
        | true =>
          go_wp2
          go_ret2
          exact ⟨⟨_, true, rfl, nextP_week HM.out.symm (by have := HD.out; omega) HR.out HX.out.2.2⟩, HE3.out⟩
        | false =>
          go_wp2
          go_ret2
          exact ⟨⟨_, true, rfl, nextP_extra HM.out.symm (by have := HD.out; omega) HR.out (.inr (by omega)) HY.out⟩, HE3.out⟩
      · go_upto_region 7 with (fail)
        have HG := veil g1
        clear g1
        go_upto_region 8 with (first
          | ((with_reducible refine at_slot 32 ?_); refine wpList_load_row rfl 24 _ rfl g rfl 24 (svC s (.slice AE n cE) (.slice AX m cX)) (0, 0) _ HS1.out Try.underlying24 rfl (iSv s _ _) ?_)
          | (go_at_call 21; with_reducible refine (KW.out _ _ HE1.out HM.out.symm (by have := HD.out; omega) (by have := HT.out; omega)).mono ?_; rintro e w3 ⟨⟨r, is, rfl, hr⟩, hE3⟩))
        have HR := veil hr
        have HE3 := veil (HE1.out.trans hE3)
        have HX := veil (extra_yes (rise_of HT.out.1) HY.out)
        clear hr hE3 KW
        cases is with
        | true =>
          go_wp2
          go_ret2
          exact ⟨⟨_, true, rfl, nextP_week HM.out.symm (by have := HD.out; omega) HR.out fun x hx hy => HX.out.2.2 x hx (by have := HG.out; omega)⟩, HE3.out⟩
        | false =>
          go_wp2
          go_ret2
          exact ⟨⟨_, true, rfl, nextP_extra HM.out.symm (by have := HD.out; omega) HR.out (.inl (by omega)) HY.out⟩, HE3.out⟩

theorem code12 : Code12 where
  may v s w hF h1 h2 := may12_calls v s w hF (by omega) (by omega)
  runs v s d w hF h1 h2 _ _ := runs12_calls v s d w hF (by omega) (by omega)
  on m w h1 h2 := on12_calls m w h1 h2
  next v s d w hF h1 h2 _ _ := (next12_calls v s d w hF (by omega) (by omega)).mono fun _ _ ⟨⟨r, is, h1, h2⟩, hE⟩ => ⟨r, is, h1, hE, h2⟩
end Go.Proofs.Ytehnpfhkjamooaa
