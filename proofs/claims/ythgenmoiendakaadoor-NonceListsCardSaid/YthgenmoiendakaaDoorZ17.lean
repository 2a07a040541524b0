/-
  Merged: NR1 NR.
-/
import Derived.Deep.Cut
import Derived.Deep.CutRange
import Derived.Deep.LoopGhost
import Derived.Test.YthgenmoiendakaaDoorZ8
import Derived.Test.YthgenmoiendakaaDoorZ12
import Derived.Test.YthgenmoiendakaaDoorZ13

/-
  clapperref06.code, of K and V that lie in blocks of their own.
-/
namespace Go.Proofs.YthgenmoiendakaaDoor
open Go.RowKit

/-- v is a slice of these 32 bytes, in a block that isn't ob. -/
def RSrc (W : World) (v : Value) (y : Nat → Nat) (ob : Option Nat) : Prop :=
  ∃ b o c, v = .slice (some ⟨b, o, none⟩) 32 c ∧ b < W.heap.size ∧ ob ≠ some b ∧ ∀ j, j < 32 → W.cell? ⟨b, o + j, none⟩ = some (.int .u8 (y j : Nat))
section
variable {W W' : World} {v : Value} {y : Nat → Nat} {ob : Option Nat}
theorem RSrc.ext (h : RSrc W v y ob) (k : Ext W W') : RSrc W' v y ob := by
  obtain ⟨b, o, c, e, hb, hne, hc⟩ := h
  exact ⟨b, o, c, e, Nat.lt_of_lt_of_le hb (Below.size k), hne, fun j hj => (Below.cell k (p := ⟨b, o + j, none⟩) hb).trans (hc j hj)⟩
theorem RSrc.grown (h : RSrc W v y ob) (k : W.grownBy W' ob) {ob' : Option Nat} (ho : ob' = ob ∨ ob' = some W.heap.size) : RSrc W' v y ob' := by
  obtain ⟨b, o, c, e, hb, hne, hc⟩ := h
  refine ⟨b, o, c, e, Nat.lt_of_lt_of_le hb k.size, ?_, fun j hj => (World.cell?_of_block (a := ⟨b, o + j, none⟩) (k.block b hb (Ne.symm hne))).trans (hc j hj)⟩
  rcases ho with rfl | rfl
  · exact hne
  · intro e; injection e; omega
theorem RSrc.src (h : RSrc W v y ob) : ∃ A c, v = .slice A 32 c ∧ Src W A 32 y W.heap.size := by
  obtain ⟨b, o, c, e, hb, _, hc⟩ := h
  exact ⟨_, c, e, .inr ⟨b, o, rfl, hb, by omega, hc⟩⟩
theorem RSrc.none (h : RSrc W v y ob) : RSrc W v y Option.none := by
  obtain ⟨b, o, c, e, hb, _, hc⟩ := h
  exact ⟨b, o, c, e, hb, (fun h => by cases h), hc⟩
end
theorem cat_rest (v : Nat → Nat) : cat v 32 (fun j => v (32 + j)) = v := by
  funext i
  unfold cat
  split
  · rfl
  · show v (32 + (i - 32)) = v i
    congr 1; omega
/-- Without anything behind V. -/
theorem code_none (RS : RSum) (s : KV) (hs : s.Ok) (vk vv : Value) (ob : Option Nat) (w : World) (hk : RSrc w vk s.k ob) (hv : RSrc w vv s.v ob) (ho : ∀ b, ob = some b → b < w.heap.size) :
    Calls Tryd.prog 20 #[vk, vv, .slice none 0 0] w fun e w' => ∃ r, e = .returned r ∧ RSrc w' r (nb s.k 32 s.v 32) ob ∧ Ext w w' := by
  obtain ⟨A, cA, rfl, hA⟩ := hk.src
  obtain ⟨B, cB, rfl, hB⟩ := hv.src
  refine (code_calls RS A B none cA cB 0 0 s.k s.v (fun j => s.v (32 + j)) hs.k hs.v (fun j => hs.v _) (by decide) w hA hB (.inl rfl)).mono ?_
  rintro e w' ⟨g, rfl, hg, hr, hb⟩
  rw [cat_rest] at hr
  exact ⟨_, rfl, ⟨g, 0, 32, rfl, hr.lt, fun e => by have := ho g e; omega, fun j hj => by rw [Nat.zero_add]; exact hr.cell hj⟩, hb⟩
/-- A byte and a text behind V. -/
theorem code_tx (RS : RSum) (s : KV) (hs : s.Ok) (vk vv : Value) (ob : Option Nat) (b : Nat) (hb : b < 256) (t : Nat → Nat) (ht : ∀ j, t j < 256) (m : Nat) (hm : m ≤ 900) (C : Option Addr) (cC : Nat) (w : World)
    (hk : RSrc w vk s.k ob) (hv : RSrc w vv s.v ob) (hC : Src w C (1 + m) (cat (fun _ => b) 1 t) w.heap.size) (ho : ∀ b, ob = some b → b < w.heap.size) :
    Calls Tryd.prog 20 #[vk, vv, .slice C (1 + m) cC] w fun e w' => ∃ r, e = .returned r ∧ RSrc w' r (nb s.k 32 (tx s.v b t) (33 + m)) ob ∧ Ext w w' := by
  obtain ⟨A, cA, rfl, hA⟩ := hk.src
  obtain ⟨B, cB, rfl, hB⟩ := hv.src
  refine (code_calls RS A B C cA cB cC (1 + m) s.k s.v (cat (fun _ => b) 1 t) hs.k hs.v (cat_lt (fun _ => hb) ht) (by omega) w hA hB hC).mono ?_
  rintro e w' ⟨g, rfl, hg, hr, hb⟩
  rw [show 32 + (1 + m) = 33 + m by omega] at hr
  exact ⟨_, rfl, ⟨g, 0, 32, rfl, hr.lt, fun e => by have := ho g e; omega, fun j hj => by rw [Nat.zero_add]; exact hr.cell hj⟩, hb⟩
/-- One number, appended; where the new slice lies. -/
theorem wpl_append_num' {w : World} {ops : Array Oper} {rest : List Oper} {o : Oper} {a : Act} {Q : Exit → Act → World → Prop} (hgd : o.guard = none) (s x : Operand)
    (ho : o.op = .call { callee := .builtin .append, args := #[s, x], argTypes := #[28, 28] })
    (base : Nat) (v : Value) (xs : List Nat) (hs : a.eval s = v) (hown : OwnN w base v xs) (g X : Nat) (hx : a.eval x = .slice (some ⟨g, 0, none⟩) 1 1) (hg : w.heap[g]? = some (.cells (nc X) 24 (0, 0)))
    (hn : xs.length ≤ 1000) (hbase : base ≤ w.heap.size)
    (h : ∀ v' w', OwnN w' base v' (xs ++ [X]) → w.grownBy w' v.ownBlock → (v'.ownBlock = v.ownBlock ∨ v'.ownBlock = some w.heap.size) → wpList Tryd.prog ops Q rest (a.put o.dst v') w') : wpList Tryd.prog ops Q (o :: rest) a w := by
  obtain ⟨i, hi, hz, hsz, hby⟩ := info_parts4 infoN32
  refine wpList_plain hgd fun K hK => ?_
  obtain ⟨v', w', hr, h2, h3, _, h5⟩ := run_append_own_at (P := Tryd.prog) w base 28 o.type 24 i _ 4 32 Tryd.underlying28 hi hz hsz hby rfl (by decide) v xs.length (cellsN xs) hown ⟨g, 0, none⟩ 1 1 (nc X).toList rfl
    (fun j u hu => by
      rw [Addr.add_mid, Nat.zero_add, cell_of_row w g j (nc X) _ _ hg]
      simpa using hu)
    (fun u hu => (Array.all_eq_true_iff_forall_mem.1 (nc_one X)) u (by simpa using hu)) (by unfold maxLen; omega) (by omega) hbase
  unfold Oper.wp execOp
  simp only [ho, resolve, invoke, builtin, Sem.run_bind, Sem.run_pure, Result.andThen_ok, List.map_toArray, List.map_cons, List.map_nil, hs, hx, hr]
  refine hK _ _ (h v' w' ?_ h3 h5)
  unfold OwnN
  rw [cellsN_append, List.length_append]
  have e : cellsN [X] = (nc X).toList := List.append_nil _
  rw [e]
  exact h2
theorem tx_own {w : World} {base m b : Nat} {v : Value} {t : Nat → Nat} (h : Own w base 5 v (1 + m) (fun j => if j < 1 then .int .u8 (b : Int) else .int .u8 (t (j - 1) : Nat))) : Own w base 5 v (1 + m) (fun j => .int .u8 (cat (fun _ => b) 1 t j : Nat)) := h.congr fun j _ => by
  unfold cat
  split <;> rfl
theorem src_one (w : World) (b : Nat) : Src (w.alloc (.cells #[.int .u8 (b : Int)] 5)) (some ⟨w.heap.size, 0, none⟩) (1 + 0) (cat (fun _ => b) 1 none0) (w.alloc (.cells #[.int .u8 (b : Int)] 5)).heap.size :=
  .inr ⟨w.heap.size, 0, rfl, by simp, by simp, fun j hj => by
    obtain rfl : j = 0 := by omega
    rw [World.cell?_alloc_mark]; rfl⟩
end Go.Proofs.YthgenmoiendakaaDoor


/-
  clapperref06.List: the document's candidates.
-/
namespace Go.Proofs.YthgenmoiendakaaDoor
open Go.RowKit

theorem row_block {w : World} {g t : Nat} {X : Nat} (h : w.heap[g]? = some (.cells (nc X) t (0, 0))) : w.cell? ⟨g, 0, none⟩ = some (.int .u64 (wd X 0)) ∧ w.cell? ⟨g, 1, none⟩ = some (.int .u64 (wd X 1)) ∧ w.cell? ⟨g, 2, none⟩ = some (.int .u64 (wd X 2)) ∧ w.cell? ⟨g, 3, none⟩ = some (.int .u64 (wd X 3)) :=
  ⟨cell_of_row w g 0 (nc X) t (0, 0) h, cell_of_row w g 1 (nc X) t (0, 0) h, cell_of_row w g 2 (nc X) t (0, 0) h, cell_of_row w g 3 (nc X) t (0, 0) h⟩
theorem two_cells {w : World} {base D M : Nat} {v : Value} (h : Own w base 5 v 64 (fun j => if j < 32 then bsv D j else bsv M (j - 32))) : Own w base 5 v 64 (fun j => .int .u8 (two D M j : Nat)) := h.congr fun j _ => by
  unfold two cat
  split <;> rfl
theorem from_own' {w : World} {base e n g c : Nat} {f : Nat → Value} (o : Own w base e (.slice (some ⟨g, 0, none⟩) n c) n f) : From w (some ⟨g, 0, none⟩) n f := by
  by_cases h : n = 0
  · exact .inl h
  · obtain ⟨g', c', e, _, _, hp⟩ := o.pre (by omega)
    injection e with e1 _ _
    injection e1 with e2
    injection e2 with e3
    subst e3
    exact .inr ⟨_, rfl, fun j hj => by rw [Addr.add_mid, Nat.zero_add]; exact hp.cell hj⟩
theorem pre_more {D M many i : Nat} (h : ∀ j, j < i → (outN D M j).length < many) (hi : (outN D M i).length < many) : ∀ j, j < i + 1 → (outN D M j).length < many := fun j hj => by
  rcases Nat.lt_or_ge j i with e | e
  · exact h j e
  · have : j = i := by omega
    subst this
    exact hi
set_option maxRecDepth 100000 in
set_option maxHeartbeats 8000000 in
theorem rlist_calls (RS : RSum) (D : Nat) (y : Nat → Nat) (hy : ∀ j, y j < 256) (many : Nat) (hm : many ≤ 16) (w : World) :
    Calls Tryd.prog 8 #[nv D, .agg (arrOf 32 fun i => .int .u8 (y i : Nat)), .int .i64 (many : Int)] w fun e w' => ∃ s v, Ends D (num32 y % Pt.nn) many s ∧ e = .returned v ∧ OwnN w' w.heap.size v (outN D (num32 y % Pt.nn) s) ∧ Ext w w' := by
  obtain ⟨X, hX⟩ : ∃ X, X = num32 y := ⟨_, rfl⟩
  obtain ⟨M, hM⟩ : ∃ M, M = X % Pt.nn := ⟨_, rfl⟩
  rw [← hX, ← hM]
  have hXt : X < top := by rw [hX]; exact num32_lt hy
  have hMt : M < top := by rw [hM]; exact Nat.lt_trans (Nat.mod_lt _ (by decide +kernel)) nn_top
  obtain ⟨F, hF⟩ : ∃ F, F = arrOf 32 fun i => Value.int .u8 (y i : Nat) := ⟨_, rfl⟩
  rw [← hF]
  obtain ⟨i8, hi8, hz0, hz1, hz2⟩ := info_parts infoByte
  have HI := veil (And.intro hi8 (And.intro hz0 (And.intro hz1 hz2)))
  have HX := veil (And.intro hX (And.intro hM (And.intro hXt (And.intro hMt (And.intro hy (And.intro hF hm))))))
  have HRS := veil RS
  clear hi8 hz0 hz1 hz2 hX hM hXt hMt hy hF hm RS
  show Calls _ _ #[.agg (nc D), .agg F, _] w _
  obtain ⟨C, hC⟩ : ∃ C, C = nc D := ⟨_, rfl⟩
  rw [← hC]
  have HC := veil hC
  clear hC
  go_enter Tryd.func8, Tryd.ntmps8
  go_upto_region 1 with (fail)
  have hc1 : (w.alloc (.cells C 24)).heap[w.heap.size]? = some (.cells C 24 (0, 0)) := heap_alloc_last w _
  have hz1 : (w.alloc (.cells C 24)).heap.size = w.heap.size + 1 := by simp
  have hE1 := Ext.alloc w (.cells C 24)
  generalize w.alloc (.cells C 24) = w1 at *
  have hf2 : (w1.alloc (.cells F 26)).rowIs (w.heap.size + 1) 26 32 (fun i => .int .u8 (y i : Nat)) := by rw [HX.out.2.2.2.2.2.1]; exact row_made w1 32 26 _ hz1.symm
  have hc2 := (Ext.alloc w1 (.cells F 26)).block hc1
  have hE2 := hE1.trans (Ext.alloc w1 (.cells F 26))
  generalize w1.alloc (.cells F 26) = w2 at *
  have KOf := veil (show Calls Tryd.prog 18 #[.slice (some ⟨w.heap.size + 1, 0, none⟩) 32 32] w2 fun e w' => e = .returned (nv X) ∧ Ext w2 w' from by
    rw [HX.out.1]; exact rof_some (w.heap.size + 1) 0 32 32 y HX.out.2.2.2.2.1 (by decide) w2 hf2.lt (fun j hj => by rw [Nat.zero_add]; exact hf2.cell hj))
  have KIn := veil (fun W => show Calls Tryd.prog 17 #[nv X, nv Pt.nn] W fun e w' => e = .returned (nv M) ∧ Ext W w' from by
    rw [HX.out.2.1]; exact gin_calls X Pt.nn HX.out.2.2.1 (by decide +kernel) nn_top W)
  have H2 := veil (And.intro hc2 hE2)
  clear hc1 hz1 hE1 hf2 hc2 hE2
  go_upto_region 2 with (first
    | (go_at_call 18; refine KOf.out.mono ?_; rintro e w3 ⟨rfl, hE3⟩)
    | (go_at_call 16; refine (nn_is _).mono ?_; rintro e w4 ⟨rfl, hE4⟩)
    | (go_at_call 17; refine (KIn.out _).mono ?_; rintro e w5 ⟨rfl, hE5⟩)
    | ((with_reducible refine at_none ?_); refine wpList_store_row rfl 24 _ _ rfl w5.heap.size (nc M) rfl rfl 24 _ (heap_alloc_last w5 _) (iN M) (by rfl) (nc_one M) ?_; rw [World.setRow_alloc_new]))
  have hm6 : (w5.alloc (.cells (nc M) 24)).heap[w5.heap.size]? = some (.cells (nc M) 24 (0, 0)) := heap_alloc_last w5 _
  have hE6 := ((hE3.trans hE4).trans hE5).trans (Ext.alloc w5 (.cells (nc M) 24))
  have hc6 := hE6.block H2.out.1
  replace hE6 := H2.out.2.trans hE6
  generalize w5.alloc (.cells (nc M) 24) = wz at *
  generalize w5.heap.size = gm at *
  rw [HC.out] at hc6
  clear hE3 hE4 hE5 KOf KIn H2
  obtain ⟨x0, x1, x2, x3⟩ := row_block hc6
  obtain ⟨m0, m1, m2, m3⟩ := row_block hm6
  have lz : w.heap.size < wz.heap.size := (Array.getElem?_eq_some_iff.1 hc6).1
  have lm : gm < wz.heap.size := (Array.getElem?_eq_some_iff.1 hm6).1
  have H1 := veil (fun W => rbytes_own D W)
  have H2 := veil (fun W => rbytes_own M W)
  have hzz : wz.heap.size = wz.heap.size := rfl
  clear hc6 hm6
  simp only [Act.put]
  go_cut [8] from 20 to 24 (fun v8 wx => ∃ g cap, v8 = .slice (some ⟨g, 0, none⟩) 64 cap ∧ Own wx wz.heap.size 5 (.slice (some ⟨g, 0, none⟩) 64 cap) 64 (fun j => .int .u8 (two D M j : Nat)) ∧ Ext wz wx)
  case first =>
    go_region_held3 (fun w' => (∀ b o, b < wz.heap.size → w'.cell? ⟨b, o, none⟩ = wz.cell? ⟨b, o, none⟩) ∧ Below wz.heap.size wz w')
      (first
        | with_reducible assumption
        | with_reducible exact keep_drew _
        | exact hS3
        | with_reducible exact keep_old (by assumption) (by assumption)
        | fail)
      (first
        | (go_at_call 19; first
            | ((with_reducible refine (H1.out _).mono ?_); rintro e w1 ⟨g1, c1, rfl, hc1, hg1, ho1, hb1⟩)
            | ((with_reducible refine (H2.out _).mono ?_); rintro e w2 ⟨g2, c2, rfl, hc2, hg2, ho2, hb2⟩))
        | ((with_reducible refine at_slotR 24 ?_); refine step_append_from _ rfl _ _ 40 rfl wz.heap.size 5 i8 (.int .u8 0) 1 Tryd.underlying40 HI.out.1 HI.out.2.1 HI.out.2.2.1 HI.out.2.2.2 rfl (.slice (some ⟨g1, 0, none⟩) 32 c1) 32 _ rfl (ho1.below hb2 (Nat.le_refl _)) (some ⟨g2, 0, none⟩) 32 c2 rfl _ (from_own' ho2) (fun _ => rfl) (by unfold maxLen; omega) (by omega) (Nat.le_trans hb1.size hb2.size) ?_; intro v3 w3 hO3 hg3 _ _; have hX := keep_old hb2 (keep_old hb1 (keep_drew wz)); have hb3 : Below wz.heap.size wz w3 := hX.2.grown hg3 hX.2.size (fun k e => (ho1.lt e).1); have hS3 := And.intro (fun b o (h : b < wz.heap.size) => hb3.cell (p := ⟨b, o, none⟩) h) hb3; obtain ⟨g3, c3, rfl, -, hg3', -⟩ := hO3.pre (by omega)))
    rename (_ ∧ Below wz.heap.size wz _) => hH
    clear x0 x1 x2 x3 m0 m1 m2 m3
    go_wp2_with fail
    go_meet
    case rel => exact ⟨g3, c3, rfl, two_cells hO3, hH.2⟩
  case rest =>
    obtain ⟨g8, c8, rfl, hO8, hE8⟩ := hcut
    clear x0 x1 x2 x3 m0 m1 m2 m3 lm lz H1 H2 hzz
    go_upto_region 6 with (fail)
    obtain ⟨bs, hbs⟩ : ∃ bs, bs = wc.heap.size := ⟨_, rfl⟩
    have HZ := veil (And.intro (hE6.trans hE8) (And.intro hO8 (show wc.heap.size ≤ bs by omega)))
    have hbw : wc.heap.size ≤ bs := by omega
    clear hE6 hE8 hO8
    go_loopw [9, 10, 11] (fun v9 v10 v11 wr => ∃ i : Nat, i ≤ 32 ∧ v11 = .int .i64 (i : Int) ∧ Own wr bs 5 v9 i (fun _ => .int .u8 0) ∧ Own wr bs 5 v10 i (fun _ => .int .u8 1) ∧ (∀ b, v9.ownBlock = some b → v10.ownBlock ≠ some b) ∧ Below bs wc wr ∧ bs ≤ wr.heap.size)
      (fun _ _ v11 _ => 32 - (intOf v11).toNat)
    case atStart => exact ⟨0, by omega, rfl, Own.nil _ _ _ _, Own.nil _ _ _ _, (fun b e => by cases e), hbs ▸ Below.refl _ _, by omega⟩
    case round =>
      obtain ⟨i, hi, rfl, hK, hV, hne, hB, hzr⟩ := hrel
      by_cases hlt : i < 32
      · have HA := veil (And.intro (hK.alloc (.cells #[.int .u8 0] 5)) (from_new wr (.int .u8 0) 5))
        have HBr := veil (And.intro hB (And.intro hK (And.intro hV hne)))
        clear hK hV hne hB
        go_upto_region 9 with ((with_reducible refine at_slot 31 ?_); refine wpList_append_from _ rfl _ _ 40 rfl bs 5 i8 (.int .u8 0) 1 Tryd.underlying40 HI.out.1 HI.out.2.1 HI.out.2.2.1 HI.out.2.2.2 rfl _ i _ rfl HA.out.1 (some ⟨wr.heap.size, 0, none⟩) 1 1 rfl _ HA.out.2 (fun _ => rfl) (by unfold maxLen; omega) (by omega) (by simp; omega) ?_; intro k3 w3 hK3 hg3 hat3)
        replace hK3 : Own w3 bs 5 k3 (i + 1) (fun _ => .int .u8 0) := hK3.congr fun j _ => by split <;> rfl
        have hB3 : Below bs wc w3 := (HBr.out.1.alloc (by omega) _).grown hg3 (by simp; omega) (fun k e => (HBr.out.2.1.lt e).1)
        have hz3 : bs ≤ w3.heap.size := by have := hg3.size; simp at this; omega
        have hV3 := (HBr.out.2.2.1.alloc (.cells #[.int .u8 0] 5)).kept hg3 (by
          cases e : Value.ownBlock _ with
          | none => exact .inl rfl
          | some b => exact .inr fun e2 => HBr.out.2.2.2 b e2.symm e)
        replace hat3 : k3.ownBlock = u9.ownBlock ∨ k3.ownBlock = some _ := hat3
        have hne3 : ∀ b, k3.ownBlock = some b → u10.ownBlock ≠ some b := fun b e e2 => by
          rcases hat3 with h | h
          · exact HBr.out.2.2.2 b (h.symm.trans e) e2
          · have := (HBr.out.2.2.1.lt e2).2
            rw [e] at h
            injection h with h
            simp at h
            omega
        have HA3 := veil (And.intro (hV3.alloc (.cells #[.int .u8 1] 5)) (from_new w3 (.int .u8 1) 5))
        have HB3 := veil (And.intro hB3 (And.intro hV3 (And.intro hK3 hne3)))
        clear hg3 hat3 hV3 hK3 hne3 hB3 HA HBr
        go_wp2_with ((with_reducible refine at_slot 34 ?_); refine wpList_append_from _ rfl _ _ 40 rfl bs 5 i8 (.int .u8 0) 1 Tryd.underlying40 HI.out.1 HI.out.2.1 HI.out.2.2.1 HI.out.2.2.2 rfl _ i _ rfl HA3.out.1 (some ⟨w3.heap.size, 0, none⟩) 1 1 rfl _ HA3.out.2 (fun _ => rfl) (by unfold maxLen; omega) (by omega) (by simp; omega) ?_; intro v4 w4' hV4 hg4 hat4)
        replace hV4 : Own w4' bs 5 v4 (i + 1) (fun _ => .int .u8 1) := hV4.congr fun j _ => by split <;> rfl
        have hB4 : Below bs wc w4' := (HB3.out.1.alloc (by omega) _).grown hg4 (by simp; omega) (fun k e => (HB3.out.2.1.lt e).1)
        have hz4 : bs ≤ w4'.heap.size := by have := hg4.size; simp at this; omega
        have hK4 := (HB3.out.2.2.1.alloc (.cells #[.int .u8 1] 5)).kept hg4 (by
          cases e : k3.ownBlock with
          | none => exact .inl rfl
          | some b => exact .inr fun e2 => HB3.out.2.2.2 b e e2.symm)
        replace hat4 : v4.ownBlock = u10.ownBlock ∨ v4.ownBlock = some _ := hat4
        have hne4 : ∀ b, k3.ownBlock = some b → v4.ownBlock ≠ some b := fun b e e2 => by
          rcases hat4 with h | h
          · exact HB3.out.2.2.2 b e (h.symm.trans e2)
          · have := (HB3.out.2.2.1.lt e).2
            rw [e2] at h
            injection h with h
            simp at h
            omega
        clear hg4 hat4 HA3 HB3
        go_roundw
        case rel => exact ⟨i + 1, by omega, by go_num, hK4, hV4, hne4, hB4, hz4⟩
        case measure => simp [intOf]; omega
      · obtain rfl : i = 32 := by omega
        obtain ⟨ga, ca, rfl, _, _, hpa⟩ := hK.pre (by decide)
        obtain ⟨gb, cb, rfl, _, _, hpb⟩ := hV.pre (by decide)
        have hk0 : RSrc wr (.slice (some ⟨ga, 0, none⟩) 32 ca) kv0.k none := ⟨ga, 0, ca, rfl, hpa.lt, (fun e => by cases e), fun j hj => by rw [Nat.zero_add]; exact hpa.cell hj⟩
        have hv0 : RSrc wr (.slice (some ⟨gb, 0, none⟩) 32 cb) kv0.v none := ⟨gb, 0, cb, rfl, hpb.lt, (fun e => by cases e), fun j hj => by rw [Nat.zero_add]; exact hpb.cell hj⟩
        have HR := veil (And.intro hk0 (And.intro hv0 (And.intro (HZ.out.2.1.below (hbs ▸ hB) (Nat.le_refl _)) (Below.trans HZ.out.1 ((hbs ▸ hB).mono (Below.size HZ.out.1))))))
        clear hK hV hne hB hzr hpa hpb hk0 hv0 hlt hi HZ hbw
        have hO := Own.made (base := wr.heap.size) (e := 5) (f := fun _ => .int .u8 0) wr (cs := #[.int .u8 0]) (Nat.le_refl _) (by show 1 ≤ maxLen; decide) (fun i hi => by
          have : i < 1 := hi
          obtain rfl : i = 0 := by omega
          rfl)
        have HO10 := veil (And.intro hO (And.intro (from_own' (HR.out.2.2.1.alloc (.cells #[.int .u8 0] 5))) (show Below wr.heap.size wr (wr.alloc (.cells #[.int .u8 0] 5)) from (Below.refl _ _).alloc (Nat.le_refl _) _)))
        clear hO
        go_wp2_with ((with_reducible refine at_slot 39 ?_); refine wpList_append_from _ rfl _ _ 40 rfl wr.heap.size 5 i8 (.int .u8 0) 1 Tryd.underlying40 HI.out.1 HI.out.2.1 HI.out.2.2.1 HI.out.2.2.2 rfl _ 1 _ rfl HO10.out.1 (some ⟨g8, 0, none⟩) 64 c8 rfl _ HO10.out.2.1 (fun _ => rfl) (by unfold maxLen; omega) (by omega) (by simp) ?_; intro t10 wt10 hO10 hg10 ha10)
        have hE10 : Ext wr wt10 := grown_below HO10.out.2.2 hg10 (by simp) (fun k e => (HO10.out.1.lt e).1)
        obtain ⟨C10, cc10, rfl, _, hS10⟩ := src_own (g := wt10.heap.size) (y := cat (fun _ => 0) 1 (two D M)) (tx_own (b := 0) (m := 64) (t := two D M) hO10) (fun b e => by have := (hO10.lt e).2; omega)
        clear hO10 hg10 ha10 HO10
        refine (code_tx HRS.out kv0 kv0_ok _ _ none 0 (by decide) (two D M) (two_lt D M) 64 (by decide) C10 cc10 wt10 (HR.out.1.ext hE10) (HR.out.2.1.ext hE10) hS10 (fun b e => by cases e)).mono ?_
        rintro e wa ⟨ra, rfl, hra, hEa⟩
        have HA := veil (And.intro hra (And.intro ((HR.out.2.1.ext hE10).ext hEa) (And.intro (HR.out.2.2.1.below (Ext.trans hE10 hEa) (Nat.le_refl _)) (Below.trans HR.out.2.2.2 ((Ext.trans hE10 hEa).mono HR.out.2.2.2.size)))))
        clear hra hEa hE10 hS10 HR
        go_wp2_with fail
        refine (code_none HRS.out (⟨nb kv0.k 32 (tx kv0.v 0 (two D M)) (33 + 64), kv0.v⟩ : KV) ⟨fun j => nb_lt _ _ _ _ j, kv0_ok.v⟩ _ _ none wa HA.out.1 HA.out.2.1 (fun b e => by cases e)).mono ?_
        rintro e wb ⟨rb, rfl, hrb, hEb⟩
        obtain ⟨s1, hs1⟩ : ∃ s1, s1 = kv0.mix 0 (two D M) 64 := ⟨_, rfl⟩
        have HS1 := veil (And.intro hs1 (show s1.Ok from by rw [hs1]; exact kv0_ok.mix 0 (two D M) 64))
        have HB := veil (show RSrc wb ra s1.k none ∧ RSrc wb rb s1.v none ∧ (Own wb wz.heap.size 5 (.slice (some ⟨g8, 0, none⟩) 64 c8) 64 fun j => .int .u8 (two D M j : Nat)) ∧ Below w.heap.size w wb from
          by rw [hs1]; exact ⟨HA.out.1.ext hEb, hrb, HA.out.2.2.1.below hEb (Nat.le_refl _), Below.trans HA.out.2.2.2 (hEb.mono HA.out.2.2.2.size)⟩)
        clear hrb hEb HA hs1
        have hO := Own.made (base := wb.heap.size) (e := 5) (f := fun _ => .int .u8 1) wb (cs := #[.int .u8 1]) (Nat.le_refl _) (by show 1 ≤ maxLen; decide) (fun i hi => by
          have : i < 1 := hi
          obtain rfl : i = 0 := by omega
          rfl)
        have HO12 := veil (And.intro hO (And.intro (from_own' (HB.out.2.2.1.alloc (.cells #[.int .u8 1] 5))) (show Below wb.heap.size wb (wb.alloc (.cells #[.int .u8 1] 5)) from (Below.refl _ _).alloc (Nat.le_refl _) _)))
        clear hO
        go_wp2_with ((with_reducible refine at_slot 48 ?_); refine wpList_append_from _ rfl _ _ 40 rfl wb.heap.size 5 i8 (.int .u8 0) 1 Tryd.underlying40 HI.out.1 HI.out.2.1 HI.out.2.2.1 HI.out.2.2.2 rfl _ 1 _ rfl HO12.out.1 (some ⟨g8, 0, none⟩) 64 c8 rfl _ HO12.out.2.1 (fun _ => rfl) (by unfold maxLen; omega) (by omega) (by simp) ?_; intro t12 wt12 hO12 hg12 ha12)
        have hE12 : Ext wb wt12 := grown_below HO12.out.2.2 hg12 (by simp) (fun k e => (HO12.out.1.lt e).1)
        obtain ⟨C12, cc12, rfl, _, hS12⟩ := src_own (g := wt12.heap.size) (y := cat (fun _ => 1) 1 (two D M)) (tx_own (b := 1) (m := 64) (t := two D M) hO12) (fun b e => by have := (hO12.lt e).2; omega)
        clear hO12 hg12 ha12 HO12
        refine (code_tx HRS.out s1 HS1.out.2 _ _ none 1 (by decide) (two D M) (two_lt D M) 64 (by decide) C12 cc12 wt12 (HB.out.1.ext hE12) (HB.out.2.1.ext hE12) hS12 (fun b e => by cases e)).mono ?_
        rintro e wd' ⟨rd, rfl, hrd, hEd⟩
        have HD := veil (And.intro hrd (And.intro ((HB.out.2.1.ext hE12).ext hEd) (Below.trans HB.out.2.2.2 ((Ext.trans hE12 hEd).mono HB.out.2.2.2.size))))
        clear hrd hEd hE12 hS12 HB
        go_wp2_with fail
        refine (code_none HRS.out (⟨nb s1.k 32 (tx s1.v 1 (two D M)) (33 + 64), s1.v⟩ : KV) ⟨fun j => nb_lt _ _ _ _ j, HS1.out.2.v⟩ _ _ none wd' HD.out.1 HD.out.2.1 (fun b e => by cases e)).mono ?_
        rintro e wb2 ⟨re, rfl, hre, hEe⟩
        have HE := veil (show RSrc wb2 rd (kvN D M 0).k none ∧ RSrc wb2 re (kvN D M 0).v none ∧ Below w.heap.size w wb2 from by
          have hkv : kvN D M 0 = s1.mix 1 (two D M) 64 := by rw [HS1.out.1]; rfl
          rw [hkv]
          exact ⟨HD.out.1.ext hEe, hre, Below.trans HD.out.2.2 (hEe.mono HD.out.2.2.size)⟩)
        clear hre hEe HD hbs
        go_upto_region 16 with (fail)
        obtain ⟨bl, hbl⟩ : ∃ bl, bl = wb2.heap.size := ⟨_, rfl⟩
        have hm16 : many ≤ 16 := HX.out.2.2.2.2.2.2
        go_loopw [9, 10, 12, 13] (fun v9 v10 v12 v13 wl => ∃ i : Nat, i ≤ 100 ∧ v13 = .int .i64 (i : Int) ∧ (∀ j, j < i → (outN D M j).length < many) ∧ RSrc wl v9 (kvN D M i).k v12.ownBlock ∧ RSrc wl v10 (kvN D M i).v v12.ownBlock ∧ OwnN wl bl v12 (outN D M i) ∧ Ext wb2 wl)
          (fun _ _ _ v13 _ => 100 - (intOf v13).toNat)
        case atStart => exact ⟨0, by omega, rfl, (fun j hj => by omega), HE.out.1, HE.out.2.1, OwnN.nil _ _, Ext.refl _⟩
        case round =>
          obtain ⟨i, hi, rfl, hpre, hk, hv, hO, hE⟩ := hrel
          have ho : ∀ b, u12.ownBlock = some b → b < wr.heap.size := fun b e => (hO.lt e).2
          obtain ⟨A, c, rfl, hnc⟩ := hO.form
          obtain ⟨n, hn⟩ : ∃ n, n = (outN D M i).length := ⟨_, rfl⟩
          rw [← hn] at hO hk hv ho ⊢
          by_cases h100 : i < 100
          · have hd1 : decide ((i : Int) < 100) = true := by simp; omega
            by_cases hlt : n < many
            · have hd2 : decide ((n : Int) < (many : Int)) = true := by simp; omega
              have hd3 : decide (n < many) = true := decide_eq_true hlt
              have HOK := veil (kvN_ok D M i)
              have HP := veil hpre
              have HL := veil (show (outN D M i).length < many from by rw [← hn]; exact hlt)
              have hl1000 : (outN D M i).length ≤ 1000 := by omega
              have HO := veil (And.intro hO ho)
              have HK := veil (And.intro hk (And.intro hv hE))
              clear hpre hnc hO ho hk hv hE hn hi
              go_wp2_with fail
              refine (code_none HRS.out (kvN D M i) HOK.out u9 u10 _ wr HK.out.1 HK.out.2.1 HO.out.2).mono ?_
              rintro e wa2 ⟨rv, rfl, hrv, hEa⟩
              have hrv0 := hrv
              obtain ⟨bv, ov, cv, rfl, hbv, _, hcv⟩ := hrv
              obtain ⟨Z, hZ⟩ : ∃ Z, Z = numN D M i := ⟨_, rfl⟩
              obtain ⟨m, hmZ⟩ : ∃ m, m = mayB Z := ⟨_, rfl⟩
              have HZZ := veil (And.intro hZ (And.intro hmZ (show Z < top from by rw [hZ]; exact numN_lt D M i)))
              have KOf := veil (show Calls Tryd.prog 18 #[.slice (some ⟨bv, ov, none⟩) 32 cv] wa2 fun e w' => e = .returned (nv Z) ∧ Ext wa2 w' from by
                rw [hZ]; exact rof_some bv ov 32 cv (nb (kvN D M i).k 32 (kvN D M i).v 32) (fun j => nb_lt _ _ _ _ j) (by decide) wa2 hbv hcv)
              have HV := veil (And.intro hrv0 hEa)
              clear hrv0 hbv hcv hZ hmZ hEa
              go_upto_region 20 with (first
                | (go_at_call 18; refine KOf.out.mono ?_; rintro e wo ⟨rfl, hEo⟩)
                | ((with_reducible refine at_none ?_); refine wpList_store_row rfl 24 _ _ rfl wo.heap.size (nc Z) rfl rfl 24 _ (heap_alloc_last wo _) (iN Z) (by rfl) (nc_one Z) ?_; rw [World.setRow_alloc_new]))
              have hz3 : (wo.alloc (.cells (nc Z) 24)).heap[wo.heap.size]? = some (.cells (nc Z) 24 (0, 0)) := heap_alloc_last wo _
              have hE3 : Ext wa2 (wo.alloc (.cells (nc Z) 24)) := hEo.trans (Ext.alloc wo (.cells (nc Z) 24))
              generalize wo.alloc (.cells (nc Z) 24) = wp at *
              generalize wo.heap.size = gx at *
              have H3 := veil (And.intro hz3 (And.intro (HV.out.1.ext hE3) (HV.out.2.trans hE3)))
              have KM := veil (may_calls Z HZZ.out.2.2 wp)
              rw [← HZZ.out.2.1] at KM
              clear hz3 hE3 hEo HV KOf hd1 hd2 hd3
              cases m with
              | false =>
                have hout : outN D M (i + 1) = outN D M i := by
                  show (if mayB (numN D M i) = true then _ else _) = _
                  rw [← HZZ.out.1, ← HZZ.out.2.1]; rfl
                go_wp2_with (first
                  | ((with_reducible refine at_slot 68 ?_); refine wpList_load_row rfl 24 _ rfl gx rfl 24 (nc Z) (0, 0) _ H3.out.1 Tryd.underlying24 rfl (iN Z) ?_)
                  | (go_at_call 7; refine KM.out.mono ?_; rintro e wq ⟨rfl, hEq⟩))
                have hEp := H3.out.2.2.trans hEq
                have HT := veil (And.intro (HK.out.1.ext hEp) (And.intro (H3.out.2.1.ext hEq) (And.intro (HO.out.1.ext hEp) (HK.out.2.2.trans hEp))))
                clear hEp hEq H3 KM HK HO
                have KC1 := veil (show Calls Tryd.prog 20 #[u9, .slice (some ⟨bv, ov, none⟩) 32 cv, .slice (some ⟨wq.heap.size, 0, none⟩) 1 1] (wq.alloc (.cells #[.int .u8 0] 5)) _ from
                  code_tx HRS.out (⟨(kvN D M i).k, nb (kvN D M i).k 32 (kvN D M i).v 32⟩ : KV) ⟨HOK.out.k, fun j => nb_lt _ _ _ _ j⟩ u9 (.slice (some ⟨bv, ov, none⟩) 32 cv) _ 0 (by decide) none0 (fun _ => by show (0 : Nat) < 256; decide) 0 (by decide) (some ⟨wq.heap.size, 0, none⟩) 1 (wq.alloc (.cells #[.int .u8 0] 5)) (HT.out.1.ext (Ext.alloc _ _)) (HT.out.2.1.ext (Ext.alloc _ _)) (src_one wq 0) (fun b e => Nat.lt_of_lt_of_le ((HT.out.2.2.1.lt e).2) (by simp)))
                refine KC1.out.mono ?_
                rintro e wu ⟨rk, rfl, hrk, hEu⟩
                have hru := (HT.out.2.1.ext (Ext.alloc wq (.cells #[.int .u8 0] 5))).ext hEu
                have KC2 := veil (code_none HRS.out (⟨nb (kvN D M i).k 32 (tx (nb (kvN D M i).k 32 (kvN D M i).v 32) 0 none0) (33 + 0), nb (kvN D M i).k 32 (kvN D M i).v 32⟩ : KV) ⟨fun j => nb_lt _ _ _ _ j, fun j => nb_lt _ _ _ _ j⟩ rk (.slice (some ⟨bv, ov, none⟩) 32 cv) _ wu hrk hru (fun b e => Nat.lt_of_lt_of_le ((HT.out.2.2.1.lt e).2) (Nat.le_trans (by simp) hEu.size)))
                have HU := veil (And.intro hrk hEu)
                clear hrk hEu hru KC1
                go_wp2_with fail
                refine KC2.out.mono ?_
                rintro e wx ⟨rx, rfl, hrx, hEx⟩
                have hEt : Ext wq wx := ((Ext.alloc wq (.cells #[.int .u8 0] 5)).trans HU.out.2).trans hEx
                have hOx := HT.out.2.2.1.ext hEt
                have hEl := Below.trans HT.out.2.2.2 (hEt.mono HT.out.2.2.2.size)
                have hrk := HU.out.1.ext hEx
                rw [← hout] at hOx
                have HF2 := veil (show RSrc wx rk (kvN D M (i + 1)).k _ ∧ RSrc wx rx (kvN D M (i + 1)).v _ ∧ OwnN wx bl _ (outN D M (i + 1)) ∧ Ext wb2 wx from ⟨hrk, hrx, hOx, hEl⟩)
                clear KC2 HU HT hEx hEt hrx hOx hEl hrk
                go_wp2
                go_roundw
                case rel => exact ⟨i + 1, by omega, by go_num, pre_more HP.out HL.out, HF2.out.1, HF2.out.2.1, HF2.out.2.2.1, HF2.out.2.2.2⟩
                case measure => simp [intOf]; omega
              | true =>
                have hout : outN D M (i + 1) = outN D M i ++ [Z] := by
                  show (if mayB (numN D M i) = true then _ ++ _ else _) = _
                  rw [← HZZ.out.1, ← HZZ.out.2.1]; rfl
                have hnc4 : (nc Z).size = 4 := rfl
                go_wp2_with (first
                  | ((with_reducible refine at_slot 68 ?_); refine wpList_load_row rfl 24 _ rfl gx rfl 24 (nc Z) (0, 0) _ H3.out.1 Tryd.underlying24 rfl (iN Z) ?_)
                  | (go_at_call 7; refine KM.out.mono ?_; rintro e wq ⟨rfl, hEq⟩)
                  | ((with_reducible refine at_slot 72 ?_); refine wpList_load_row rfl 24 _ rfl gx rfl 24 (nc Z) (0, 0) _ (hEq.block H3.out.1) Tryd.underlying24 rfl (iN Z) ?_)
                  | ((with_reducible refine at_slot 74 ?_); refine wpl_append_num' rfl _ _ rfl bl (.slice A n c) (outN D M i) rfl ((HO.out.1.ext (H3.out.2.2.trans hEq)).ext (Ext.alloc _ (.cells (nc Z) 24))) wq.heap.size Z rfl (heap_alloc_last wq _) hl1000 (hbl ▸ Nat.le_trans HK.out.2.2.size (Nat.le_trans (Below.size (H3.out.2.2.trans hEq)) (by simp))) ?_; intro v12 w12 hO12 hg12 ha12))
                have hEp := (H3.out.2.2.trans hEq).trans (Ext.alloc wq (.cells (nc Z) 24))
                have hB12 : Ext wb2 w12 := grown_below (HK.out.2.2.trans hEp) hg12 (Nat.le_trans HK.out.2.2.size (Below.size hEp)) (fun k e => by have := (HO.out.1.lt e).1; omega)
                have HT := veil (And.intro ((HK.out.1.ext hEp).grown hg12 ha12) (And.intro ((H3.out.2.1.ext (hEq.trans (Ext.alloc wq (.cells (nc Z) 24)))).grown hg12 ha12) (And.intro hO12 hB12)))
                clear hEp hEq H3 KM HK HO hO12 hg12 ha12 hB12 hnc4
                have KC1 := veil (show Calls Tryd.prog 20 #[u9, .slice (some ⟨bv, ov, none⟩) 32 cv, .slice (some ⟨w12.heap.size, 0, none⟩) 1 1] (w12.alloc (.cells #[.int .u8 0] 5)) _ from
                  code_tx HRS.out (⟨(kvN D M i).k, nb (kvN D M i).k 32 (kvN D M i).v 32⟩ : KV) ⟨HOK.out.k, fun j => nb_lt _ _ _ _ j⟩ u9 (.slice (some ⟨bv, ov, none⟩) 32 cv) _ 0 (by decide) none0 (fun _ => by show (0 : Nat) < 256; decide) 0 (by decide) (some ⟨w12.heap.size, 0, none⟩) 1 (w12.alloc (.cells #[.int .u8 0] 5)) (HT.out.1.ext (Ext.alloc _ _)) (HT.out.2.1.ext (Ext.alloc _ _)) (src_one w12 0) (fun b e => Nat.lt_of_lt_of_le ((HT.out.2.2.1.lt e).2) (by simp)))
                refine KC1.out.mono ?_
                rintro e wu ⟨rk, rfl, hrk, hEu⟩
                have hru := (HT.out.2.1.ext (Ext.alloc w12 (.cells #[.int .u8 0] 5))).ext hEu
                have KC2 := veil (code_none HRS.out (⟨nb (kvN D M i).k 32 (tx (nb (kvN D M i).k 32 (kvN D M i).v 32) 0 none0) (33 + 0), nb (kvN D M i).k 32 (kvN D M i).v 32⟩ : KV) ⟨fun j => nb_lt _ _ _ _ j, fun j => nb_lt _ _ _ _ j⟩ rk (.slice (some ⟨bv, ov, none⟩) 32 cv) _ wu hrk hru (fun b e => Nat.lt_of_lt_of_le ((HT.out.2.2.1.lt e).2) (Nat.le_trans (by simp) hEu.size)))
                have HU := veil (And.intro hrk hEu)
                clear hrk hEu hru KC1
                go_wp2_with fail
                refine KC2.out.mono ?_
                rintro e wx ⟨rx, rfl, hrx, hEx⟩
                have hEt : Ext w12 wx := ((Ext.alloc w12 (.cells #[.int .u8 0] 5)).trans HU.out.2).trans hEx
                have hOx := HT.out.2.2.1.ext hEt
                have hEl := Below.trans HT.out.2.2.2 (hEt.mono HT.out.2.2.2.size)
                have hrk := HU.out.1.ext hEx
                rw [← hout] at hOx
                have HF2 := veil (show RSrc wx rk (kvN D M (i + 1)).k _ ∧ RSrc wx rx (kvN D M (i + 1)).v _ ∧ OwnN wx bl _ (outN D M (i + 1)) ∧ Ext wb2 wx from ⟨hrk, hrx, hOx, hEl⟩)
                clear KC2 HU HT hEx hEt hrx hOx hEl hrk
                go_wp2
                go_roundw
                case rel => exact ⟨i + 1, by omega, by go_num, pre_more HP.out HL.out, HF2.out.1, HF2.out.2.1, HF2.out.2.2.1, HF2.out.2.2.2⟩
                case measure => simp [intOf]; omega
            · have hd2 : decide ((n : Int) < (many : Int)) = false := by simp; omega
              have hd3 : decide (n < many) = false := decide_eq_false hlt
              have hEnd := veil (show Ends D M many i from ⟨hi, hpre, .inr (by rw [← hn]; exact hlt)⟩)
              have HO := veil (And.intro hO hE)
              clear hpre hnc hO ho hk hv hE hn
              go_wp2
              go_ret
              exact ⟨i, _, hEnd.out, rfl, HO.out.1.base_le (hbl ▸ HE.out.2.2.size), Below.trans HE.out.2.2 (HO.out.2.mono HE.out.2.2.size)⟩
          · have hd1 : decide ((i : Int) < 100) = false := by simp; omega
            obtain rfl : i = 100 := by omega
            have hEnd := veil (show Ends D M many 100 from ⟨Nat.le_refl _, hpre, .inl rfl⟩)
            have HO := veil (And.intro hO hE)
            clear hpre hnc hO ho hk hv hE hn
            go_wp2
            go_ret
            exact ⟨100, _, hEnd.out, rfl, HO.out.1.base_le (hbl ▸ HE.out.2.2.size), Below.trans HE.out.2.2 (HO.out.2.mono HE.out.2.2.size)⟩
end Go.Proofs.YthgenmoiendakaaDoor
