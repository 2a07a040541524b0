/-
  route.soonest: the landed package's own.
-/
import Derived.Test.YtebcdhfmhnhalaaNwm
import Derived.Test.YtebcdhfmhnhalaaNwc
import Derived.Test.YtebcdhfmhnhalaaMade
import Derived.BigQuiet
import Derived.Lib.MinMax
namespace Go.Proofs.Ytebcdhfmhnhalaa
open Go.RowKit

def rdC (r : Rd) : List Value := [.int .i64 r.fr, .int .i64 r.bg, .int .i64 r.tu, .int .i64 r.en]
theorem rdC_length (r : Rd) : (rdC r).length = 4 := rfl
theorem rdC_one (r : Rd) : ∀ u ∈ rdC r, u.oneCell' = true := by simp [rdC, Value.oneCell']
def noRd : Rd := ⟨0, 0, 0, 0⟩
theorem rd_get {l : List Rd} {i : Nat} (h : i < l.length) : l[i]? = some (l.getD i noRd) := by rw [List.getD_eq_getElem?_getD, List.getElem?_eq_getElem h]; rfl
theorem rd_mem {l : List Rd} {i : Nat} (h : i < l.length) : l.getD i noRd ∈ l := List.mem_of_getElem? (rd_get h)
theorem iRd (r : Rd) : (Try.prog.info? 56).map (·.size) = some (rdC r).length := by
  show _ = some 4
  kernel_rfl
theorem iRdA (r : Rd) : (Try.prog.info? 56).map (·.size) = some (rdC r).toArray.size := iRd r
theorem rdA_one (r : Rd) : (rdC r).toArray.all (·.oneCell') = true := by simp [rdC, Value.oneCell']
theorem hzRd (W : World) : (Instr.alloc 56 true (.tuple #[])).run Try.prog W = .ok (ptrTo W.heap.size) (W.alloc (.cells #[.int .i64 0, .int .i64 0, .int .i64 0, .int .i64 0] 56)) := by simp [Instr.alloc, go_sem]
/-- g holds a ride. -/
def RdAt (w : World) (g : Nat) (r : Rd) : Prop := w.heap[g]? = some (.cells (rdC r).toArray 56 (0, 0))
section
variable {w w' : World} {g : Nat} {r : Rd}
theorem RdAt.ext (h : RdAt w g r) (k : Ext w w') : RdAt w' g r := k.block h
theorem RdAt.at0 (h : RdAt w g r) : w.cell? ⟨g, 0, none⟩ = some (.int .i64 r.fr) := cell_of_row w g 0 _ _ _ h
theorem RdAt.at1 (h : RdAt w g r) : w.cell? ⟨g, 1, none⟩ = some (.int .i64 r.bg) := cell_of_row w g 1 _ _ _ h
theorem RdAt.at2 (h : RdAt w g r) : w.cell? ⟨g, 2, none⟩ = some (.int .i64 r.tu) := cell_of_row w g 2 _ _ _ h
theorem RdAt.at3 (h : RdAt w g r) : w.cell? ⟨g, 3, none⟩ = some (.int .i64 r.en) := cell_of_row w g 3 _ _ _ h
end
theorem zeros32R : (#[.int .i64 0, .int .i64 0, .int .i64 0, .int .i64 0, .int .i64 0, .int .i64 0, .int .i64 0, .int .i64 0, .int .i64 0, .int .i64 0, .int .i64 0, .int .i64 0, .int .i64 0, .int .i64 0, .int .i64 0, .int .i64 0, .int .i64 0, .int .i64 0, .int .i64 0, .int .i64 0, .int .i64 0, .int .i64 0, .int .i64 0, .int .i64 0, .int .i64 0, .int .i64 0, .int .i64 0, .int .i64 0, .int .i64 0, .int .i64 0, .int .i64 0, .int .i64 0] : Array Value) = arrOf 32 (fun _ => .int .i64 0) := rfl
theorem info32R : (Try.prog.info? 47).map (·.size) = some 32 := by kernel_rfl
theorem soon_take {l : List Rd} {fr at_ : Int} {i : Nat} (h : i < l.length) : soonB (l.take (i + 1)) fr at_ = relax (soonB (l.take i) fr at_) (l.getD i noRd) := by
  unfold soonB
  rw [List.take_add_one, List.foldl_append, rd_get h]
  rfl
theorem relax_yes {B : Nat → Int} {fn tn : Nat} {bg en : Int} (h : B fn ≤ bg) {j : Nat} : relax B ⟨(fn : Int), bg, (tn : Int), en⟩ j = if j = tn then min (B tn) en else B j := by
  unfold relax upd
  simp only [Int.toNat_natCast]
  rw [if_pos h]
theorem relax_no {B : Nat → Int} {fn tn : Nat} {bg en : Int} (h : ¬ B fn ≤ bg) : relax B ⟨(fn : Int), bg, (tn : Int), en⟩ = B := by
  unfold relax upd
  simp only [Int.toNat_natCast]
  rw [if_neg h]

set_option maxRecDepth 100000 in
set_option maxHeartbeats 8000000 in
theorem soonest_calls (v : Value) (l : List Rd) (fr at_ : Int) (w : World) (hL : Ls 4 rdC w v l) (hl : ∀ r ∈ l, Okr r) (hf0 : 0 ≤ fr) (hf1 : fr < 32) (hn5 : l.length ≤ 100000) :
    Calls Try.prog 17 #[v, .int .i64 fr, .int .i64 at_] w fun e w' => e = .returned (.agg (arrOf 32 fun j => .int .i64 (soonB l fr at_ j))) ∧ Ext w w' := by
  obtain ⟨A, c, rfl, hc, hx⟩ := hL
  obtain ⟨n, hn⟩ : ∃ n, n = l.length := ⟨_, rfl⟩
  rw [← hn] at hx hc hn5 ⊢
  obtain ⟨T, hT⟩ : ∃ T, T = arrOf 32 (fun j => .int .i64 (soonB l fr at_ j)) := ⟨_, rfl⟩
  rw [← hT]
  obtain ⟨f, rfl⟩ : ∃ f : Nat, fr = (f : Int) := ⟨fr.toNat, by omega⟩
  have hf : (f : Int) < 32 := hf1
  have HX := veil hx
  have HR := veil (And.intro hn hl)
  have HT := veil hT
  clear hx hn hl hf0 hf1 hT
  go_enter Try.func17, Try.ntmps17
  go_upto_region 2 with (fail)
  rw [zeros32R]
  have hN0 : ((w.alloc (.cells (arrOf 32 (fun _ => .int .i64 0)) 47)).alloc (.cells (arrOf 32 (fun _ => .int .i64 0)) 47)).rowIs w.heap.size 47 32 (fun _ => .int .i64 0) := (row_made w 32 47 (fun _ => .int .i64 0) rfl).alloc _
  have hR : ((w.alloc (.cells (arrOf 32 (fun _ => .int .i64 0)) 47)).alloc (.cells (arrOf 32 (fun _ => .int .i64 0)) 47)).rowIs (w.heap.size + 1) 47 32 (fun _ => .int .i64 0) := row_made _ 32 47 (fun _ => .int .i64 0) (by simp)
  have hb := (Ext.alloc w (.cells (arrOf 32 (fun _ => .int .i64 0)) 47)).trans (Ext.alloc _ (.cells (arrOf 32 (fun _ => .int .i64 0)) 47))
  generalize ((w.alloc (.cells (arrOf 32 (fun _ => .int .i64 0)) 47)).alloc (.cells (arrOf 32 (fun _ => .int .i64 0)) 47)) = w1 at *
  obtain ⟨g1, hg1⟩ : ∃ g, g = w.heap.size + 1 := ⟨_, rfl⟩
  obtain ⟨g0, hg0⟩ : ∃ g, g = w.heap.size := ⟨_, rfl⟩
  rw [← hg1] at hR ⊢
  rw [← hg0] at hN0 ⊢
  have HG := veil (show w.heap.size ≤ g0 ∧ w.heap.size ≤ g1 ∧ g0 ≠ g1 by omega)
  clear hg0 hg1
  go_wp2
  go_loopw [11] (fun c wr => ∃ k : Nat, k ≤ 32 ∧ c = .int .i64 (k : Int) ∧ wr.rowIs g1 47 32 (fun j => .int .i64 (if j < k then never else 0)) ∧ wr.rowIs g0 47 32 (fun _ => .int .i64 0) ∧ Ext w wr)
    (fun c _ => 32 - (intOf c).toNat)
  case atStart => exact ⟨0, by omega, rfl, hR.congr fun j _ => by rw [if_neg (by omega)], hN0, hb⟩
  case round =>
    obtain ⟨k, hk, rfl, hR, hN0, hb⟩ := hrel
    by_cases hlt : k < 32
    · have hd1 : decide ((k : Int) < 32) = true := by simp; omega
      have hkk : (k : Int) < 32 := by omega
      have c1 := hR.cell hlt
      have f1 := hR.frozen k
      have HS := veil (And.intro hR (And.intro hN0 hb))
      clear hR hN0 hb
      go_wp2
      go_roundw
      case rel =>
        refine ⟨k + 1, by omega, by go_num, (HS.out.1.set k _).congr fun j _ => ?_, row_far HS.out.2.1 HG.out.2.2 _, below_set HS.out.2.2 HG.out.2.1 _⟩
        by_cases e : j = k
        · rw [if_pos e, if_pos (by omega)]; rfl
        · rw [if_neg e]
          by_cases c : j < k
          · rw [if_pos c, if_pos (by omega)]
          · rw [if_neg c, if_neg (by omega)]
      case measure => simp [intOf]; omega
    · have e32 : k = 32 := by omega
      have hd1 : decide ((k : Int) < 32) = false := by simp; omega
      have c1 := hR.cell (i := f) (by omega)
      have f1 := hR.frozen f
      have hR2 : (wr.setCell ⟨g1, f, none⟩ (.int .i64 at_)).rowIs g1 47 32 (fun j => .int .i64 (soonB (l.take 0) (f : Int) at_ j)) := (hR.set f (.int .i64 at_)).congr fun j hj => by
        show _ = Value.int .i64 (upd (fun _ => never) (f : Int).toNat at_ j)
        rw [show ((f : Int)).toNat = f by omega]
        unfold upd
        by_cases e : j = f
        · rw [if_pos e, if_pos e]
        · rw [if_neg e, if_neg e, if_pos (by omega)]
      have hN2 := row_far hN0 HG.out.2.2 (i := f) (.int .i64 at_)
      have hb2 : Ext w (wr.setCell ⟨g1, f, none⟩ (.int .i64 at_)) := below_set hb HG.out.2.1 _
      have HS := veil (And.intro hR2 (And.intro hN2 hb2))
      clear hR hN0 hb hR2 hN2 hb2
      go_upto_region 8 with (fail)
      clear c1 f1 hd1 hlt hk e32
      generalize wr.setCell ⟨g1, f, none⟩ (.int .i64 at_) = w2 at *
      generalize k = k32 at *
      go_wp2
      go_loopw [22] (fun u wr => ∃ i : Nat, i ≤ n ∧ u = .int .i64 (i : Int) ∧ wr.rowIs g1 47 32 (fun j => .int .i64 (soonB (l.take i) (f : Int) at_ j)) ∧ wr.rowIs g0 47 32 (fun _ => .int .i64 0) ∧ Ext w wr)
        (fun u _ => n - (intOf u).toNat)
      case atStart => exact ⟨0, by omega, rfl, HS.out.1, HS.out.2.1, HS.out.2.2⟩
      case round =>
        clear HS
        obtain ⟨i, hi, rfl, hR, hN, hE⟩ := hrel
        by_cases hlt : i < n
        · have hd1 : decide ((i : Int) < (n : Int)) = true := by simp; omega
          have hii : (i : Int) < (n : Int) := by omega
          obtain ⟨b, o, hA, hbl, hcl⟩ := HX.out.resolve_left (by omega)
          have hil : i < l.length := by have := HR.out.1; omega
          have hrg := range_ext hE hbl (hcl i _ (rd_get hil))
          have hok := HR.out.2 _ (rd_mem hil)
          have hst := soon_take (fr := (f : Int)) (at_ := at_) hil
          obtain ⟨r, hr⟩ : ∃ r, r = l.getD i noRd := ⟨_, rfl⟩
          rw [← hr] at hrg hok hst
          clear hr hil hcl hbl
          obtain ⟨fr, bg, tu, en⟩ := r
          obtain ⟨o1, o2, o3, o4, o5, o6⟩ := hok
          simp only at o1 o2 o3 o4 o5 o6
          obtain ⟨fn, rfl⟩ : ∃ fn : Nat, fr = (fn : Int) := ⟨fr.toNat, by omega⟩
          obtain ⟨tn, rfl⟩ : ∃ tn : Nat, tu = (tn : Int) := ⟨tu.toNat, by omega⟩
          subst hA
          have HGr := veil hrg
          have HS := veil (And.intro hR (And.intro hN (And.intro hE hst)))
          clear hrg hR hN hE hst o1 o3 o5 o6
          go_upto_region 11 with (first
            | ((with_reducible refine at_slot 25 ?_); refine wpList_load_mid rfl 56 _ rfl b _ rfl (rdC ⟨(fn : Int), bg, (tn : Int), en⟩) _ HGr.out Try.underlying56 rfl (iRd _) ?_)
            | ((with_reducible refine at_slot 10 ?_); refine wpl_var _ _ rfl rfl rfl rfl rfl rfl hzRd (fun _ => rfl) (fun _ => rfl) (iRdA _) rfl (rdA_one _) ?_; intro gf W hgf hW hEW))
          have hgb : RdAt W gf ⟨(fn : Int), bg, (tn : Int), en⟩ := hW
          have hR := row_below HS.out.1 hEW HS.out.1.lt
          have hN := row_below HS.out.2.1 hEW HS.out.2.1.lt
          have hE := HS.out.2.2.1.trans hEW
          have hst := HS.out.2.2.2
          have e0 := hgb.at0
          have e1 := hgb.at1
          have e2 := hgb.at2
          have e3 := hgb.at3
          simp only at e0 e1 e2 e3
          have cf := hR.cell (i := fn) (by omega)
          have ct := hR.cell (i := tn) (by omega)
          have ft := hR.frozen tn
          obtain ⟨B, hB⟩ : ∃ B, B = soonB (l.take i) (f : Int) at_ := ⟨_, rfl⟩
          rw [← hB] at hR hst cf ct
          obtain ⟨xf, hxf⟩ : ∃ z, z = B fn := ⟨_, rfl⟩
          obtain ⟨xt, hxt⟩ : ∃ z, z = B tn := ⟨_, rfl⟩
          rw [← hxf] at cf
          rw [← hxt] at ct
          have HQ := veil (And.intro hR (And.intro hN (And.intro hE (And.intro hst (And.intro hxf hxt)))))
          clear hgb hR hN hE hst hB hxf hxt hW hEW hgf HS HGr
          by_cases g0' : xf ≤ bg
          · have d0 : decide (xf ≤ bg) = true := decide_eq_true g0'
            go_quiet (fail)
            go_upto_region 12 with (fail)
            go_region
            go_wp2
            go_roundw
            case rel =>
              refine ⟨i + 1, by omega, by go_num, ((row_drewN HQ.out.1 _).set tn _).congr fun j _ => ?_, row_far (row_drewN HQ.out.2.1 _) HG.out.2.2 _, below_set (HQ.out.2.2.1.trans (Ext.drewK _ _)) HG.out.2.1 _⟩
              rw [HQ.out.2.2.2.1]
              rw [relax_yes (by rw [← HQ.out.2.2.2.2.1]; exact g0'), ← HQ.out.2.2.2.2.2]
              by_cases e : j = tn
              · rw [if_pos e, if_pos e]
              · rw [if_neg e, if_neg e]
            case measure => simp [intOf]; omega
          · have d0 : decide (xf ≤ bg) = false := decide_eq_false g0'
            go_quiet (fail)
            go_wp2
            go_roundw
            case rel =>
              refine ⟨i + 1, by omega, by go_num, ?_, HQ.out.2.1, HQ.out.2.2.1.trans (Ext.drewK _ _)⟩
              rw [HQ.out.2.2.2.1]
              rw [relax_no (by rw [← HQ.out.2.2.2.2.1]; exact g0')]
              exact HQ.out.1
            case measure => simp [intOf]; omega
        · obtain rfl : i = n := by omega
          have hd1 : decide ((i : Int) < (i : Int)) = false := by simp
          have ht : l.take i = l := by rw [HR.out.1, List.take_length]
          rw [ht] at hR
          have hA := veil (blkOf hR)
          have hN' := veil (blkOf hN)
          rw [← HT.out] at hA
          have hs : T.size = 32 := by rw [HT.out, arrOf_size]
          have h1 : T.all (·.oneCell') = true := by rw [HT.out]; exact arrOf_one fun _ _ => rfl
          have h2 : (Try.prog.info? 47).map (·.size) = some T.size := by rw [hs]; exact info32R
          have HZ := veil (And.intro hs (And.intro h1 h2))
          have HE := veil hE
          clear hs h1 h2 hE hR hN ht HT
          go_wp2_with (first
            | ((with_reducible refine at_slot 44 ?_); refine wpList_load_row rfl 47 _ rfl g1 rfl 47 T (0, 0) _ hA.out Try.underlying47 rfl HZ.out.2.2 ?_)
            | ((with_reducible refine at_none ?_); refine wpList_store_row rfl 47 _ _ rfl g0 T rfl rfl 47 _ hN'.out HZ.out.2.2 (by rw [HZ.out.1, arrOf_size]) HZ.out.2.1 ?_))
          exact bodyPost_ret (results_cell_row rfl _ _ g0 47 T (0, 0) _ rfl (setRow_heap wr g0 _ T 47 (0, 0) hN'.out) Try.underlying47 rfl HZ.out.2.2) rfl ⟨rfl, ext_setRow HE.out HG.out.1 _⟩
end Go.Proofs.Ytebcdhfmhnhalaa
