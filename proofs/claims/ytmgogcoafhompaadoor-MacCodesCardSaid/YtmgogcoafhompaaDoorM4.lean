/-
  mac.blockOf: a key's block.
-/
import Derived.Test.YtmgogcoafhompaaDoorM1
import Derived.Test.YtmgogcoafhompaaDoorHLaw
import Derived.Laws.CopyOwn
namespace Go.Proofs.YtmgogcoafhompaaDoor
open Go.RowKit

/-- copy into the beginning of a row that is known whole, out of any slice (the empty one, too). -/
theorem wpList_copy_from {P : Program} {w : World} {ops : Array Oper} {rest : List Oper} {o : Oper} {a : Act} {Q : Exit → Act → World → Prop} (hgd : o.guard = none) (d s : Operand) (dT sT : TypeId)
    (ho : o.op = .call { callee := .builtin .copy, args := #[d, s], argTypes := #[dT, sT] }) (elem : TypeId) (hu : P.underlying dT = some (.slice elem)) (hsz : (P.info? elem).map (·.size) = some 1)
    (g dLen dCap : Nat) (A : Option Addr) (m c : Nat) (hd : a.eval d = .slice (some ⟨g, 0, none⟩) dLen dCap) (hs : a.eval s = .slice A m c)
    (t n : Nat) (f : Nat → Value) (hrow : w.rowIs g t n f) (hm : m ≤ dLen) (hfit : m ≤ n) (v : Nat → Value) (hsrc : From w A m v)
    (h1 : ∀ j, j < m → (v j).oneCell' = true)
    (h : ∀ w', But g w w' → w'.rowIs g t n (fun j => if j < m then v j else f j) → wpList P ops Q rest (a.put o.dst (goInt (m : Nat))) w') : wpList P ops Q (o :: rest) a w := by
  rcases hsrc with h0 | ⟨ad, rfl, hc⟩
  · subst h0
    exact wpList_copy_nothing hgd d s dT sT ho elem hu hsz _ A dLen dCap 0 c hd hs (by simp) (h w (But.refl _ _) (hrow.congr fun j _ => by rw [if_neg (by omega)]))
  · refine wpList_copy_row hgd d s dT sT ho elem hu hsz g 0 dLen dCap ad m c hd hs t n f hrow m (Nat.min_eq_left hm).symm v hc (by omega) h1 fun w' hb hr => h w' hb (hr.congr fun j _ => ?_)
    by_cases e : j < m
    · rw [if_pos ⟨by omega, by omega⟩, if_pos e]; rfl
    · rw [if_neg (by omega), if_neg e]
theorem info64 : (Tryd.prog.info? 32).map (·.size) = some 64 := by kernel_rfl
theorem zB64 : (#[.int .u8 0, .int .u8 0, .int .u8 0, .int .u8 0, .int .u8 0, .int .u8 0, .int .u8 0, .int .u8 0, .int .u8 0, .int .u8 0, .int .u8 0, .int .u8 0, .int .u8 0, .int .u8 0, .int .u8 0, .int .u8 0, .int .u8 0, .int .u8 0, .int .u8 0, .int .u8 0, .int .u8 0, .int .u8 0, .int .u8 0, .int .u8 0, .int .u8 0, .int .u8 0, .int .u8 0, .int .u8 0, .int .u8 0, .int .u8 0, .int .u8 0, .int .u8 0, .int .u8 0, .int .u8 0, .int .u8 0, .int .u8 0, .int .u8 0, .int .u8 0, .int .u8 0, .int .u8 0, .int .u8 0, .int .u8 0, .int .u8 0, .int .u8 0, .int .u8 0, .int .u8 0, .int .u8 0, .int .u8 0, .int .u8 0, .int .u8 0, .int .u8 0, .int .u8 0, .int .u8 0, .int .u8 0, .int .u8 0, .int .u8 0, .int .u8 0, .int .u8 0, .int .u8 0, .int .u8 0, .int .u8 0, .int .u8 0, .int .u8 0, .int .u8 0] : Array Value) = arrOf 64 (fun _ => .int .u8 0) := rfl

set_option maxRecDepth 100000 in
set_option maxHeartbeats 8000000 in
theorem blockOf_calls (A : Option Addr) (n c : Nat) (y : Nat → Nat) (hy : ∀ j, y j < 256) (hnc : n ≤ c) (hn : n ≤ 1048576) (w : World) (hK : KT w) (hS : Src w A n y w.heap.size) :
    Calls Tryd.prog 9 #[.slice A n c] w fun e w' => e = .returned (.agg (arrOf 64 fun j => .int .u8 (kb y n j : Nat))) ∧ Below w.heap.size w w' := by
  have HK := veil hK
  have HS := veil hS
  have HY := veil hy
  have hg0 := hK.lt
  clear hK hS hy
  go_enter Tryd.func9, Tryd.ntmps9
  go_upto_region 2 with (fail)
  rw [zB64]
  have hN0 := row_made w 64 32 (fun _ => Value.int .u8 0) rfl
  have hb0 : Below w.heap.size w (w.alloc (.cells (arrOf 64 (fun _ => .int .u8 0)) 32)) := (Below.refl _ _).alloc (Nat.le_refl _) _
  have hz0 : (w.alloc (.cells (arrOf 64 (fun _ => .int .u8 0)) 32)).heap.size = w.heap.size + 1 := by simp
  generalize w.alloc (.cells (arrOf 64 (fun _ => .int .u8 0)) 32) = w0 at *
  have hR1 := row_made w0 64 32 (fun _ => Value.int .u8 0) rfl
  rw [hz0] at hR1
  have hN1 := hN0.alloc (.cells (arrOf 64 (fun _ => .int .u8 0)) 32)
  have hb1 := hb0.alloc hb0.size (.cells (arrOf 64 (fun _ => .int .u8 0)) 32)
  have hz1 : (w0.alloc (.cells (arrOf 64 (fun _ => .int .u8 0)) 32)).heap.size = w.heap.size + 1 + 1 := by simp [hz0]
  generalize w0.alloc (.cells (arrOf 64 (fun _ => .int .u8 0)) 32) = w1 at *
  clear hN0 hb0 hz0
  have hzle : w.heap.size + 1 < w1.heap.size := by omega
  by_cases hlong : n > 64
  · have hil : (64 : Int) < (n : Int) := by omega
    go_wp2_with fail
    refine (sum_calls A n c y HY.out hnc hn w1 (kt_now HK.out hb1) (src_now HS.out hb1 (by omega))).mono ?_
    rintro e w3 ⟨rfl, hb3⟩
    have HZ := veil (And.intro (dgst_size y n) (And.intro (show (dgst y n).all (·.oneCell') = true from arrOf_one fun _ _ => rfl) (show (Tryd.prog.info? 26).map (·.size) = some (dgst y n).size by rw [dgst_size]; exact infoD)))
    have hR3 := row_below hR1 hb3 (by omega)
    have hN3 := row_below hN1 hb3 (by omega)
    have hB3 := hb1.trans (hb3.mono (by omega))
    have hz3 := hb3.size
    obtain ⟨D, hD⟩ : ∃ D, D = dgst y n := ⟨_, rfl⟩
    rw [← hD] at HZ ⊢
    have HD := veil hD
    clear hD hR1 hN1 hb1 hb3
    go_upto_region 4 with ((with_reducible refine at_none ?_); refine wpList_store_row rfl 26 _ _ rfl w3.heap.size D rfl rfl 26 _ (heap_alloc_last w3 _) HZ.out.2.2 (by rw [HZ.out.1]; rfl) HZ.out.2.1 ?_; rw [World.setRow_alloc_new])
    have hD4 : (w3.alloc (.cells D 26)).rowIs w3.heap.size 26 32 (fun j => .int .u8 (dByte (shaSt y n) j : Nat)) := by rw [HD.out]; exact row_made w3 32 26 _ rfl
    have hR4 := hR3.alloc (.cells D 26)
    have hN4 := hN3.alloc (.cells D 26)
    have hB4 := hB3.alloc hB3.size (.cells D 26)
    generalize w3.alloc (.cells D 26) = w4 at *
    generalize w3.heap.size = g4 at *
    obtain ⟨t, ht⟩ : ∃ t, t = fun j => dByte (shaSt y n) j := ⟨_, rfl⟩
    have HSR := veil (show From w4 (some ⟨g4, 0, none⟩) 32 (fun j => .int .u8 (t j : Nat)) from .inr ⟨_, rfl, fun j hj => by rw [Addr.add_mid, Nat.zero_add, ht]; exact hD4.cell hj⟩)
    have HT := veil (show ∀ j, j < 64 → (if j < 32 then Value.int .u8 (t j : Nat) else .int .u8 0) = .int .u8 (kb y n j : Nat) from fun j _ => by
      unfold kb upTo
      rw [if_pos hlong, ht]
      split <;> rfl)
    have HR := veil hR4
    have HN := veil hN4
    have HB := veil hB4
    clear hR4 hN4 hB4 hD4 ht hR3 hN3 hB3 hil
    obtain ⟨E, hE⟩ : ∃ E, E = arrOf 64 (fun j => Value.int .u8 (kb y n j : Nat)) := ⟨_, rfl⟩
    have hEs : E.size = 64 := by rw [hE, arrOf_size]
    have hE1 : E.all (·.oneCell') = true := by rw [hE]; exact arrOf_one fun _ _ => rfl
    have HEI := veil (And.intro hEs (And.intro hE1 (show (Tryd.prog.info? 32).map (·.size) = some E.size by rw [hEs]; exact info64)))
    have HE := veil hE
    clear hE hEs hE1
    go_wp2_with (first
      | ((with_reducible refine at_slot 13 ?_); refine wpList_copy_from rfl _ _ 22 22 rfl 5 Tryd.underlying22 infoB (w.heap.size + 1) 64 64 (some ⟨g4, 0, none⟩) 32 32 rfl rfl 32 64 _ HR.out (by omega) (by omega) (fun j => .int .u8 (t j : Nat)) HSR.out (fun _ _ => rfl) ?_; intro w6 hb6 hr6; have hr6 : w6.rowIs (w.heap.size + 1) 32 64 (fun j => Value.int .u8 (kb y n j : Nat)) := hr6.congr HT.out; have hR6 := blkOf hr6; rw [← HE.out] at hR6; have hR6 := veil hR6; have hN6 := veil (blkOf (row_but HN.out hb6 (by omega))); have hB6 := veil (HB.out.trans (But.new hb6 (B := w.heap.size) (by omega) HB.out.size)); clear hb6 hr6)
      | ((with_reducible refine at_slot 14 ?_); refine wpList_load_row rfl 32 _ rfl (w.heap.size + 1) rfl 32 E (0, 0) _ hR6.out Tryd.underlying32 rfl HEI.out.2.2 ?_)
      | ((with_reducible refine at_none ?_); refine wpList_store_row rfl 32 _ _ rfl w.heap.size E rfl rfl 32 _ hN6.out HEI.out.2.2 (by rw [HEI.out.1, arrOf_size]) HEI.out.2.1 ?_))
    exact bodyPost_ret (results_cell_row rfl _ _ w.heap.size 32 E (0, 0) _ rfl (setRow_heap w6 w.heap.size _ E 32 (0, 0) hN6.out) Tryd.underlying32 rfl HEI.out.2.2) rfl ⟨by rw [HE.out], below_setRow hB6.out (Nat.le_refl _) _⟩
  · have hil : ¬ ((64 : Int) < (n : Int)) := by omega
    have HSR := veil (from_now HS.out hb1)
    have HT := veil (show ∀ j, j < 64 → (if j < n then Value.int .u8 (y j : Nat) else .int .u8 0) = .int .u8 (kb y n j : Nat) from fun j _ => by
      unfold kb upTo
      rw [if_neg hlong]
      split <;> rfl)
    have HR := veil hR1
    have HN := veil hN1
    have HB := veil hb1
    clear hR1 hN1 hb1
    obtain ⟨E, hE⟩ : ∃ E, E = arrOf 64 (fun j => Value.int .u8 (kb y n j : Nat)) := ⟨_, rfl⟩
    have hEs : E.size = 64 := by rw [hE, arrOf_size]
    have hE1 : E.all (·.oneCell') = true := by rw [hE]; exact arrOf_one fun _ _ => rfl
    have HEI := veil (And.intro hEs (And.intro hE1 (show (Tryd.prog.info? 32).map (·.size) = some E.size by rw [hEs]; exact info64)))
    have HE := veil hE
    clear hE hEs hE1
    go_wp2_with (first
      | ((with_reducible refine at_slot 13 ?_); refine wpList_copy_from rfl _ _ 22 22 rfl 5 Tryd.underlying22 infoB (w.heap.size + 1) 64 64 A n c rfl rfl 32 64 _ HR.out (by omega) (by omega) (fun j => .int .u8 (y j : Nat)) HSR.out (fun _ _ => rfl) ?_; intro w6 hb6 hr6; have hr6 : w6.rowIs (w.heap.size + 1) 32 64 (fun j => Value.int .u8 (kb y n j : Nat)) := hr6.congr HT.out; have hR6 := blkOf hr6; rw [← HE.out] at hR6; have hR6 := veil hR6; have hN6 := veil (blkOf (row_but HN.out hb6 (by omega))); have hB6 := veil (HB.out.trans (But.new hb6 (B := w.heap.size) (by omega) HB.out.size)); clear hb6 hr6)
      | ((with_reducible refine at_slot 14 ?_); refine wpList_load_row rfl 32 _ rfl (w.heap.size + 1) rfl 32 E (0, 0) _ hR6.out Tryd.underlying32 rfl HEI.out.2.2 ?_)
      | ((with_reducible refine at_none ?_); refine wpList_store_row rfl 32 _ _ rfl w.heap.size E rfl rfl 32 _ hN6.out HEI.out.2.2 (by rw [HEI.out.1, arrOf_size]) HEI.out.2.1 ?_))
    exact bodyPost_ret (results_cell_row rfl _ _ w.heap.size 32 E (0, 0) _ rfl (setRow_heap w6 w.heap.size _ E 32 (0, 0) hN6.out) Tryd.underlying32 rfl HEI.out.2.2) rfl ⟨by rw [HE.out], below_setRow hB6.out (Nat.le_refl _) _⟩
end Go.Proofs.YtmgogcoafhompaaDoor
