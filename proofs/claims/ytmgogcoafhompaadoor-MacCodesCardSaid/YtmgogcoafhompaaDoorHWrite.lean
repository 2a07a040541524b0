/-
  sha: (*Hash).Write: a text goes behind what was written.
-/
import Derived.Test.YtmgogcoafhompaaDoorHMix
import Derived.Laws.CopyOwn
import Derived.WalkKit
import Derived.WalkSpells
import Derived.WalkLawsBesides
import Derived.Deep.LoopGhost
import Derived.Deep.Cut
import Derived.Deep.CutRange
namespace Go.Proofs.YtmgogcoafhompaaDoor
open Go.RowKit

/-- copy into a row that is known whole. -/
theorem wpList_copy_row {P : Program} {w : World} {ops : Array Oper} {rest : List Oper} {o : Oper} {a : Act} {Q : Exit → Act → World → Prop} (hgd : o.guard = none) (d s : Operand) (dT sT : TypeId)
    (ho : o.op = .call { callee := .builtin .copy, args := #[d, s], argTypes := #[dT, sT] }) (elem : TypeId) (hu : P.underlying dT = some (.slice elem)) (hsz : (P.info? elem).map (·.size) = some 1)
    (g off dLen dCap : Nat) (ad : Addr) (sLen sCap : Nat) (hd : a.eval d = .slice (some ⟨g, off, none⟩) dLen dCap) (hs : a.eval s = .slice (some ad) sLen sCap)
    (t n : Nat) (f : Nat → Value) (hrow : w.rowIs g t n f) (m : Nat) (hm : m = Nat.min sLen dLen) (v : Nat → Value) (hsrc : ∀ j, j < m → w.cell? (ad.add j) = some (v j)) (hfit : off + m ≤ n)
    (h1 : ∀ j, j < m → (v j).oneCell' = true)
    (h : ∀ w', But g w w' → w'.rowIs g t n (fun j => if off ≤ j ∧ j < off + m then v (j - off) else f j) → wpList P ops Q rest (a.put o.dst (goInt (m : Nat))) w') : wpList P ops Q (o :: rest) a w := by
  have hcs : ((List.range m).map v).length = m := by simp
  have hk := wpList_copy_own (P := P) (w := w) (ops := ops) (rest := rest) (o := o) (a := a) (Q := Q) hgd d s dT sT ho elem hu hsz g off dLen dCap ad sLen sCap hd hs (arrOf n f) t (blkOf hrow) ((List.range m).map v) (by rw [hcs, hm])
    (fun j u hu => by
      have hj : j < m := by have := (List.getElem?_eq_some_iff.1 hu).1; simpa using this
      rw [hsrc j hj, ← hu]; simp [hj]) (by rw [hcs, arrOf_size]; exact hfit) (fun u hu => by
      simp at hu; obtain ⟨j, hj, rfl⟩ := hu; exact h1 j hj)
  rw [hcs] at hk
  refine hk (h _ ⟨rfl, rfl, rfl, by simp [World.setRow], fun k _ hne => setRow_far w _ (by simpa using hne)⟩ ?_)
  refine row_setRow hrow (by simp [arrOf_size]; omega) fun i hi => ?_
  have hl : (arrOf n f).toList.length = n := by simp [arrOf_size]
  by_cases c1 : i < off
  · rw [if_neg (by omega)]
    simp only [List.getElem?_toArray]
    rw [List.getElem?_append_left (by simp [hl]; omega), List.getElem?_take_of_lt c1]
    simpa using arrOf_get f hi
  · by_cases c2 : i < off + m
    · rw [if_pos ⟨by omega, c2⟩]
      simp only [List.getElem?_toArray]
      rw [List.getElem?_append_right (by simp [hl]; omega), List.getElem?_append_left (by simp [hl]; omega)]
      simp [hl, show min off n = off by omega, show i - off < m by omega]
    · rw [if_neg (by omega)]
      simp only [List.getElem?_toArray]
      rw [List.getElem?_append_right (by simp [hl]; omega), List.getElem?_append_right (by simp [hl]; omega), List.getElem?_drop]
      rw [show off + m + (i - (List.take off (arrOf n f).toList).length - ((List.range m).map v).length) = i by simp [hl]; omega]
      simpa using arrOf_get f hi

theorem blockN_congr {m m' : Nat → Nat} (h : ∀ t, t < 16 → m t = m' t) (s : St) : blockN m s = blockN m' s := by
  have hs : ∀ k, sched m k = sched m' k := by
    intro k
    induction k with
    | zero => simp only [sched]
    | succ k ihk =>
      simp only [sched]
      rw [ihk]
      by_cases hk : k < 16
      · simp only [if_pos hk]; rw [h k hk]
      · simp only [if_neg hk]
  have hr : ∀ k, roundsN m s k = roundsN m' s k := by
    intro k
    induction k with
    | zero => simp only [roundsN]
    | succ k ihk =>
      simp only [roundsN]
      rw [ihk]; unfold wt; rw [hs]
  unfold blockN; rw [hr]

/-- What a hash's numbers are, behind the first L bytes of a text. -/
structure HOk (b : Nat → Nat) (L : Nat) (s : St) (blk : Nat → Nat) : Prop where
  s : s = blocksN b (L / 64)
  pre : ∀ j, j < L % 64 → blk j = b (64 * (L / 64) + j)
  lt : ∀ j, blk j < 256
theorem HOk.part {b : Nat → Nat} {L m : Nat} {s : St} {blk : Nat → Nat} (h : HOk b L s blk) (hm : L % 64 + m < 64) (hb : ∀ i, L ≤ i → i < L + m → b i < 256) :
    HOk b (L + m) s (fun j => if L % 64 ≤ j ∧ j < L % 64 + m then b (L + (j - L % 64)) else blk j) := by
  have e1 : (L + m) / 64 = L / 64 := by omega
  refine ⟨by rw [e1]; exact h.s, fun j hj => ?_, fun j => ?_⟩
  · rw [e1]
    by_cases c : j < L % 64
    · rw [if_neg (by omega), h.pre j c]
    · rw [if_pos (by omega)]; congr 1; omega
  · show (if _ then _ else _) < 256
    split
    · exact hb _ (by omega) (by omega)
    · exact h.lt j
theorem HOk.full {b : Nat → Nat} {L m : Nat} {s : St} {blk : Nat → Nat} (h : HOk b L s blk) (hm : L % 64 + m = 64) (hb : ∀ i, L ≤ i → i < L + m → b i < 256) :
    HOk b (L + m) (blockN (fun t => word (fun j => if L % 64 ≤ j ∧ j < L % 64 + m then b (L + (j - L % 64)) else blk j) (4 * t)) s) (fun j => if L % 64 ≤ j ∧ j < L % 64 + m then b (L + (j - L % 64)) else blk j) := by
  have e1 : (L + m) / 64 = L / 64 + 1 := by omega
  have e2 : ∀ j, j < 64 → (if L % 64 ≤ j ∧ j < L % 64 + m then b (L + (j - L % 64)) else blk j) = b (64 * (L / 64) + j) := fun j hj => by
    by_cases c : j < L % 64
    · rw [if_neg (by omega), h.pre j c]
    · rw [if_pos (by omega)]; congr 1; omega
  refine ⟨?_, fun j hj => by omega, fun j => ?_⟩
  · rw [e1]
    show _ = blockN (fun t => word b (64 * (L / 64) + 4 * t)) (blocksN b (L / 64))
    rw [← h.s]
    refine blockN_congr (fun t ht => ?_) s
    show word _ (4 * t) = word b (64 * (L / 64) + 4 * t)
    unfold word
    dsimp only
    rw [e2 _ (by omega), e2 _ (by omega), e2 _ (by omega), e2 _ (by omega)]
    rfl
  · show (if _ then _ else _) < 256
    split
    · exact hb _ (by omega) (by omega)
    · exact h.lt j
theorem HOk.congr {b b' : Nat → Nat} {L : Nat} {s : St} {blk : Nat → Nat} (h : HOk b L s blk) (e : ∀ i, i < L → b i = b' i) : HOk b' L s blk :=
  ⟨by rw [h.s]; exact blocksN_congr _ (fun i hi => e i (by omega)), fun j hj => by rw [h.pre j hj, e _ (by omega)], h.lt⟩

/-- Block g is a hash to which the first L bytes of b were written. -/
def HashIs (w : World) (g : Nat) (b : Nat → Nat) (L : Nat) : Prop := ∃ s blk, HOk b L s blk ∧ HRow w g s blk L
section
variable {w w' : World} {g B L : Nat} {b b' : Nat → Nat}
theorem HashIs.lt (h : HashIs w g b L) : g < w.heap.size := by obtain ⟨_, _, _, h⟩ := h; exact h.lt
theorem HashIs.of_block (h : HashIs w g b L) (e : w'.heap[g]? = w.heap[g]?) : HashIs w' g b L := by obtain ⟨s, k, o, h⟩ := h; exact ⟨s, k, o, h.of_block e⟩
theorem HashIs.call (h : HashIs w g b L) (hb : Below w.heap.size w w') : HashIs w' g b L := h.of_block (hb.block g h.lt)
theorem HashIs.below (h : HashIs w g b L) (hb : Below B w w') (hlt : g < B) : HashIs w' g b L := h.of_block (hb.block g hlt)
theorem HashIs.but {r : Nat} (h : HashIs w g b L) (k : But r w w') (hne : g ≠ r) : HashIs w' g b L := h.of_block (k.block g h.lt (by simpa using hne))
theorem HashIs.alloc (h : HashIs w g b L) (o : Obj) : HashIs (w.alloc o) g b L := h.of_block (Below.heap_alloc _ _ _ h.lt)
theorem HashIs.drew (h : HashIs w g b L) : HashIs w.drew g b L := h
theorem HashIs.congr (h : HashIs w g b L) (e : ∀ i, i < L → b i = b' i) : HashIs w g b' L := by obtain ⟨s, k, o, h⟩ := h; exact ⟨s, k, o.congr e, h⟩
theorem HashIs.len (h : HashIs w g b L) : w.cell? ⟨g, 72, none⟩ = some (.int .i64 (L : Int)) := by obtain ⟨_, _, _, h⟩ := h; exact h.length
end
/-- A text behind another one. -/
def cat (b : Nat → Nat) (len : Nat) (y : Nat → Nat) : Nat → Nat := fun i => if i < len then b i else y (i - len)

/-- A slice of n bytes y 0, y 1 .. in memory; not in block g. -/
def Src (w : World) (A : Option Addr) (n : Nat) (y : Nat → Nat) (g : Nat) : Prop := n = 0 ∨ ∃ b o, A = some ⟨b, o, none⟩ ∧ b < w.heap.size ∧ b ≠ g ∧ ∀ j, j < n → w.cell? ⟨b, o + j, none⟩ = some (.int .u8 (y j : Nat))
section
variable {w w' : World} {A : Option Addr} {n g B : Nat} {y : Nat → Nat}
theorem Src.below (h : Src w A n y g) (hb : Below w.heap.size w w') : Src w' A n y g := by
  rcases h with h | ⟨b, o, ha, hlt, hne, hc⟩
  · exact .inl h
  · exact .inr ⟨b, o, ha, Nat.lt_of_lt_of_le hlt hb.size, hne, fun j hj => (hb.cell (p := ⟨b, o + j, none⟩) hlt).trans (hc j hj)⟩
theorem Src.but (h : Src w A n y g) (hb : But g w w') : Src w' A n y g := by
  rcases h with h | ⟨b, o, ha, hlt, hne, hc⟩
  · exact .inl h
  · exact .inr ⟨b, o, ha, Nat.lt_of_lt_of_le hlt hb.size, hne, fun j hj => (World.cell?_of_block (w := w) (a := ⟨b, o + j, none⟩) (hb.block b hlt (by simpa using hne))).trans (hc j hj)⟩
theorem Src.congr {y' : Nat → Nat} (h : Src w A n y g) (e : ∀ j, j < n → y j = y' j) : Src w A n y' g := by
  rcases h with h | ⟨b, o, ha, hlt, hne, hc⟩
  · exact .inl h
  · exact .inr ⟨b, o, ha, hlt, hne, fun j hj => by rw [hc j hj, e j hj]⟩
end

theorem sliceAt_arr (g fl : Nat) (hf : fl < 64) (w : World) : (Instr.sliceAt 32 (.pointer (some ⟨g, 8, none⟩)) (some (.int .i64 (fl : Int))) none none).run Tryd.prog w = .ok (.slice (some ⟨g, 8 + fl, none⟩) (64 - fl) (64 - fl)) w := by
  have e1 : Tryd.prog.arrayLen 32 = 64 := by kernel_rfl
  have e2 : ((sizeOf (Tryd.prog.elem 32)).run Tryd.prog w) = .ok 1 w := by kernel_rfl
  rw [run_sliceAt_array_l w 32 ⟨g, 8, none⟩ (by kernel_rfl) .i64 (fl : Int) (by omega) (by rw [e1]; omega), e2, e1]
  have h64 : ¬ 64 = fl := by omega
  simp [slicedAt, Result.andThen, h64, Addr.add_mid]
/-- Where s[m:] begins. -/
def tailAt (b o m c : Nat) : Option Addr := if c = m then some ⟨b, o, none⟩ else some ⟨b, o + m, none⟩
theorem slice_from (b o r c m : Nat) (hm : m ≤ r) (w : World) : (Instr.slice 22 (.slice (some ⟨b, o, none⟩) r c) (some (.int .i64 (m : Int))) none none).run Tryd.prog w = .ok (.slice (tailAt b o m c) (r - m) (c - m)) w := by
  have e2 : ((sizeOf (Tryd.prog.elem 22)).run Tryd.prog w) = .ok 1 w := by kernel_rfl
  rw [run_slice_l w 22 (some ⟨b, o, none⟩) r c (by kernel_rfl) .i64 (m : Int) (by omega) (by omega), e2]
  by_cases h : c = m
  · simp [sliced, Result.andThen, tailAt, h]
  · simp [sliced, Result.andThen, tailAt, h, Addr.add_mid]
theorem sliceAt_from (b o r c m : Nat) (hm : m ≤ r) (w : World) : (Instr.sliceAt 22 (.slice (some ⟨b, o, none⟩) r c) (some (.int .i64 (m : Int))) none none).run Tryd.prog w = .ok (.slice (tailAt b o m c) (r - m) (c - m)) w := by
  rw [run_sliceAt_slice w 22 _ _ _ _ (by kernel_rfl)]
  exact slice_from b o r c m hm w
theorem Src.tail {w : World} {b o r c m g : Nat} {y : Nat → Nat} (h : Src w (some ⟨b, o, none⟩) r y g) (hm : m ≤ r) (hc : r ≤ c) : Src w (tailAt b o m c) (r - m) (fun j => y (m + j)) g := by
  by_cases h0 : r - m = 0
  · exact .inl h0
  · rcases h with h | ⟨b', o', e, hlt, hne, hcl⟩
    · omega
    · simp only [Option.some.injEq, Addr.mk.injEq] at e
      obtain ⟨rfl, rfl, _⟩ := e
      refine .inr ⟨b, o + m, by unfold tailAt; rw [if_neg (by omega)], hlt, hne, fun j hj => ?_⟩
      rw [Nat.add_assoc]
      exact hcl (m + j) (by omega)
def lenOf : Value → Nat | .slice _ r _ => r | _ => 0
theorem infoB : (Tryd.prog.info? 5).map (·.size) = some 1 := by kernel_rfl
set_option maxRecDepth 100000 in
set_option maxHeartbeats 4000000 in
theorem write_calls (g : Nat) (b : Nat → Nat) (L : Nat) (A : Option Addr) (n c : Nat) (y : Nat → Nat) (hy : ∀ j, y j < 256) (hnc : n ≤ c) (hLn : L + n ≤ 4611686018427387904) (hg : g ≠ 0)
    (w : World) (hK : KT w) (hH : HashIs w g b L) (hS : Src w A n y g) :
    Calls Tryd.prog 15 #[.pointer (some ⟨g, 0, none⟩), .slice A n c] w fun e w' => e = .returned (.tuple #[]) ∧ HashIs w' g (cat b L y) (L + n) ∧ But g w w' := by
  obtain ⟨T, hT⟩ : ∃ T, T = cat b L y := ⟨_, rfl⟩
  have hH : HashIs w g T L := hH.congr fun i hi => by rw [hT]; unfold cat; rw [if_pos hi]
  have hTy : ∀ i, T (L + i) = y i := fun i => by rw [hT]; unfold cat; rw [if_neg (by omega), Nat.add_sub_cancel_left]
  have HT := veil hT
  have HTy := veil hTy
  have HY := veil hy
  have HG := veil hg
  clear hT hTy hy hg
  go_enter Tryd.func15, Tryd.ntmps15
  go_wp2
  go_loopw [1] (fun v wr => ∃ (A : Option Addr) (k r c : Nat), k + r = n ∧ r ≤ c ∧ v = .slice A r c ∧ Src wr A r (fun j => y (k + j)) g ∧ HashIs wr g T (L + k) ∧ But g w wr ∧ KT wr)
    (fun v _ => lenOf v)
  case atStart => exact ⟨A, 0, n, c, by omega, hnc, rfl, hS.congr fun j _ => by rw [Nat.zero_add], hH, But.refl _ _, hK⟩
  case round =>
    obtain ⟨A, k, r, c, hkr, hrc, rfl, hS, hH, hB, hK⟩ := hrel
    by_cases h0 : r = 0
    · subst h0
      go_wp2
      go_end0
      exact ⟨rfl, by rw [← HT.out, show n = k by omega]; exact hH, hB⟩
    · obtain ⟨bb, o, rfl, hlt, hne, hc⟩ : ∃ b o, A = some ⟨b, o, none⟩ ∧ b < wr.heap.size ∧ b ≠ g ∧ ∀ j, j < r → wr.cell? ⟨b, o + j, none⟩ = some (.int .u8 (y (k + j) : Nat)) := hS.resolve_left h0
      obtain ⟨s, blk, hok, hrow⟩ := hH
      obtain ⟨N, hN⟩ : ∃ N, N = L + k := ⟨_, rfl⟩
      rw [← hN] at hok hrow
      obtain ⟨fl, hfl⟩ : ∃ fl, fl = N % 64 := ⟨_, rfl⟩
      have hfi : (N : Int) % 64 = (fl : Int) := by omega
      have hf64 : fl < 64 := by omega
      obtain ⟨m, hm⟩ : ∃ m, m = Nat.min r (64 - fl) := ⟨_, rfl⟩
      have hm0 : 0 < m := by rw [hm]; show 0 < min r (64 - fl); omega
      have hmr : m ≤ r := by rw [hm]; exact Nat.min_le_left _ _
      have hmf : fl + m ≤ 64 := by rw [hm]; show fl + min r (64 - fl) ≤ 64; omega
      have cL := hrow.length
      have fL := World.rowIs.frozen hrow 72
      have hr0 : (0 : Int) < (r : Int) := by omega
      have hN0 : N ≤ 4611686018427387904 := by omega
      have hNm : N + m ≤ 4611686018427387904 := by omega
      have HR := veil hrow
      have HC := veil hc
      have HM := veil hm
      have HF := veil hfl
      have HN := veil hN
      have HK := veil hok
      have HB2 := veil hne
      clear hrow hc hm hfl hN hok hne h0
      have q1 := fun W => sliceAt_arr g fl hf64 W
      have q2 := fun W => slice_from bb o r c m hmr W
      have q3 := fun W => sliceAt_from bb o r c m hmr W
      clear cL fL
      have hsrc : ∀ j, j < m → wr.cell? ((⟨bb, o, none⟩ : Addr).add j) = some (.int .u8 (y (k + j) : Nat)) := fun j hj => by
        rw [Addr.add_mid]; exact HC.out j (by omega)
      have HSRC := veil hsrc
      have cL := HR.out.length
      clear hsrc
      go_upto_region 3 with ((with_reducible refine at_slot 20 ?_); refine wpList_copy_row rfl _ _ 22 22 rfl 5 Tryd.underlying22 infoB g (8 + fl) (64 - fl) (64 - fl) ⟨bb, o, none⟩ r c rfl rfl 49 73 _ HR.out m HM.out (fun j => .int .u8 (y (k + j) : Nat)) HSRC.out (by omega) (fun _ _ => rfl) ?_; intro w2 hb2 hr2)
      have hTn : ∀ j, T (N + j) = y (k + j) := fun j => by rw [HN.out, Nat.add_assoc]; exact HTy.out _
      obtain ⟨blk', hblk'⟩ : ∃ blk' : Nat → Nat, blk' = fun j => if N % 64 ≤ j ∧ j < N % 64 + m then T (N + (j - N % 64)) else blk j := ⟨_, rfl⟩
      have hr2 : HRow w2 g s blk' N := hr2.congr fun j hj => by
        unfold hcells
        rw [hblk', ← HF.out]
        dsimp only
        by_cases c1 : 8 + fl ≤ j ∧ j < 8 + fl + m
        · rw [if_pos c1, if_neg (by omega), if_pos (by omega), if_pos (by omega), hTn, show j - 8 - fl = j - (8 + fl) by omega]
        · rw [if_neg c1]
          by_cases c2 : j < 8
          · rw [if_pos c2, if_pos c2]
          · rw [if_neg c2, if_neg c2]
            by_cases c3 : j < 72
            · rw [if_pos c3, if_pos c3, if_neg (by omega)]
            · rw [if_neg c3, if_neg c3]
      have HBLK := veil hblk'
      have hS2 := hS.but hb2
      have hK2 := hK.grown hb2 HG.out.symm
      have hB2 := But.trans hB hb2
      have cL := hr2.length
      have fL := World.rowIs.frozen hr2 72
      clear hb2 hblk' hTn hS hK hB HSRC HR HC
      have hNi : (N : Int) + (m : Int) = ((N + m : Nat) : Int) := by omega
      obtain ⟨N2, hN2⟩ : ∃ N2, N2 = N + m := ⟨_, rfl⟩
      rw [← hN2] at hNi hNm
      have HN2 := veil hN2
      clear hN2
      have hr3 : HRow (w2.setCell ⟨g, 72, none⟩ (.int .i64 (N2 : Int))) g s blk' N2 := (World.rowIs.set hr2 72 _).congr fun j hj => by
        unfold hcells
        by_cases h : j = 72
        · subst h; rfl
        · rw [if_neg h]
          by_cases c2 : j < 8
          · rw [if_pos c2, if_pos c2]
          · rw [if_neg c2, if_neg c2, if_pos (by omega), if_pos (by omega)]
      have hbs : But g w2 (w2.setCell ⟨g, 72, none⟩ (.int .i64 (N2 : Int))) := But.set (But.refl _ _) _ _
      have hS3 := (hS2.but hbs).tail hmr hrc
      have hK3 := hK2.grown hbs HG.out.symm
      have hB3 := But.trans hB2 hbs
      have hTb : ∀ i, N ≤ i → i < N + m → T i < 256 := fun i h1 h2 => by
        obtain ⟨d, rfl⟩ : ∃ d, i = N + d := ⟨i - N, by omega⟩
        rw [HN.out, Nat.add_assoc, HTy.out]; exact HY.out _
      have HTB := veil hTb
      have HH3 := veil (And.intro hS3 (And.intro hK3 (And.intro hB3 hr3)))
      clear hTb hS3 hK3 hB3 hr3 hbs hS2 hK2 hB2
      have HSZ := veil (show lenOf (.slice (tailAt bb o m c) (r - m) (c - m)) < lenOf (.slice (some ⟨bb, o, none⟩) r c) by show r - m < r; omega)
      by_cases hful : fl + m = 64
      · have hq : (fl : Int) + (m : Int) = 64 := by omega
        have hok2 := HK.out.full (m := m) (by rw [← HF.out]; exact hful) HTB.out
        rw [← HBLK.out, ← HN2.out] at hok2
        have HO := veil hok2
        clear hok2
        go_upto_region 6 with (fail)
        clear cL fL hr2 q1 q2 q3
        generalize w2.setCell ⟨g, 72, none⟩ (.int .i64 (N2 : Int)) = w3 at *
        go_wp2_with ((with_reducible refine (mix_calls g s blk' N2 (HK.out.s ▸ blocksN_ok _ _) HO.out.lt _ HH3.out.2.1 HH3.out.2.2.2).mono ?_); rintro e w4 ⟨rfl, hr4, hb4⟩)
        go_roundw
        case rel =>
          refine ⟨_, k + m, r - m, c - m, by omega, by omega, rfl, ((HH3.out.1).but hb4).congr fun j _ => by rw [Nat.add_assoc], ⟨blockN (fun t => word blk' (4 * t)) s, blk', ?_, ?_⟩, But.trans HH3.out.2.2.1 hb4, HH3.out.2.1.grown hb4 HG.out.symm⟩
          · rw [← Nat.add_assoc, ← HN.out, ← HN2.out]; exact HO.out
          · rw [← Nat.add_assoc, ← HN.out, ← HN2.out]; exact hr4
        case measure => exact HSZ.out
      · have hq : ¬ ((fl : Int) + (m : Int) = 64) := by omega
        have hok2 := HK.out.part (m := m) (by rw [← HF.out]; omega) HTB.out
        rw [← HBLK.out, ← HN2.out] at hok2
        have HO := veil hok2
        clear hok2
        go_wp2
        go_roundw
        case rel =>
          refine ⟨_, k + m, r - m, c - m, by omega, by omega, rfl, (HH3.out.1).congr fun j _ => by rw [Nat.add_assoc], ⟨s, blk', ?_, ?_⟩, HH3.out.2.2.1, HH3.out.2.1⟩
          · rw [← Nat.add_assoc, ← HN.out, ← HN2.out]; exact HO.out
          · rw [← Nat.add_assoc, ← HN.out, ← HN2.out]; exact HH3.out.2.2.2
        case measure => exact HSZ.out
end Go.Proofs.YtmgogcoafhompaaDoor
