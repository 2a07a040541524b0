/-
  What the laws of layer 3 share: slices cut anywhere, texts out of bytes, '==' between sums, arguments read and read again.
-/
import Derived.Test.YtmgogcoafhompaaDoorHLaid
import Derived.Test.YtmgogcoafhompaaDoorSOwn
import Derived.Laws.BytesString
import Derived.Carry
import Derived.BigFrame
namespace Go.Proofs.YtmgogcoafhompaaDoor
open Go.ChangeShapes Go.WideShapes Go.ChangeAt Go.RowKit

/-! ### a text -/
def bstr (y : Nat → Nat) (n : Nat) : ByteArray := ((List.range n).map fun j => ((y j : Nat) : Int)).foldl (fun r n => r.push (UInt8.ofNat n.toNat)) ByteArray.empty
theorem str_src {w : World} {A : Option Addr} {n c g : Nat} {y : Nat → Nat} (hs : Src w A n y g) : (convert 22 9 (.slice A n c)).run Tryd.prog w = .ok (.string (bstr y n)) w := by
  rw [run_convert_bytes_string (P := Tryd.prog) w 22 9 5 _ _ _ Tryd.underlying22 Tryd.underlying5 Tryd.underlying9]
  rcases A with _ | ad
  · rcases hs with h | ⟨b, o, ha, _⟩
    · subst h; rfl
    · cases ha
  · refine run_bytesToString (P := Tryd.prog) w ad n c ((List.range n).map fun j => ((y j : Nat) : Int)) ?_
    have h := run_loadCells_list (P := Tryd.prog) w ad ((List.range n).map fun j => Value.int .u8 (y j : Nat)) (fun j v hv => by
      have hj : j < n := by have := (List.getElem?_eq_some_iff.1 hv).1; simpa using this
      rcases hs with h | ⟨b, o, ha, _, _, hc⟩
      · omega
      · cases ha
        rw [Addr.add_mid, hc j hj, ← hv]; simp [hj])
    simp only [List.length_map, List.length_range] at h
    rw [h, List.map_map]
    rfl

/-! ### '==' between sums -/
theorem run_items8 (d : Nat) (xs ys : Array Value) (A B : Nat → Int) (w : World) : ∀ is : List Nat, (∀ i ∈ is, xs[i]? = some (.int .u8 (A i))) → (∀ i ∈ is, ys[i]? = some (.int .u8 (B i))) →
    (Op.eqItems (d + 1) 5 1 xs ys is).run Tryd.prog w = .ok (is.all fun i => A i == B i) w
  | [], _, _ => by simp [Op.eqItems]
  | i :: is, hx, hy => by
    have e1 := run_part_plain (P := Tryd.prog) w (e := 5) (by kernel_rfl) (xs := xs) (off := i * 1) (v := .int .u8 (A i)) (by rw [Nat.mul_one]; exact hx i (by simp))
    have e2 := run_part_plain (P := Tryd.prog) w (e := 5) (by kernel_rfl) (xs := ys) (off := i * 1) (v := .int .u8 (B i)) (by rw [Nat.mul_one]; exact hy i (by simp))
    have e3 := run_equalIn_int (P := Tryd.prog) w d 5 .u8 .u8 (A i) (B i) Tryd.underlying5
    have ih := run_items8 d xs ys A B w is (fun j hj => hx j (by simp [hj])) (fun j hj => hy j (by simp [hj]))
    simp only [Op.eqItems, Sem.run_bind, e1, e2, e3, Result.andThen_ok]
    by_cases h : A i = B i
    · simp [h, ih]
    · simp [h]
theorem dgst_get (b : Nat → Nat) (n : Nat) {j : Nat} (hj : j < 32) : (dgst b n)[j]? = some (.int .u8 ((dByte (shaSt b n) j : Nat) : Int)) := by unfold dgst; exact arrOf_get _ hj
theorem eql_dgst (b : Nat → Nat) (n : Nat) (w : World) : (binOp .eql 26 (.agg (dgst b n)) (.agg (dgst b n))).run Tryd.prog w = .ok (.bool true) w := by
  obtain ⟨i, hi⟩ : ∃ i, Tryd.prog.info? 5 = some i := Option.isSome_iff_exists.1 (by kernel_rfl)
  have hc : Tryd.prog.cellsOf 5 = 1 := by kernel_rfl
  rw [run_eql_struct, run_equalIn_array (P := Tryd.prog) w 9999 _ _ Tryd.underlying26 hi, hc]
  have h := run_items8 9998 (dgst b n) (dgst b n) (fun j => ((dByte (shaSt b n) j : Nat) : Int)) (fun j => ((dByte (shaSt b n) j : Nat) : Int)) w (List.range 32) (fun j hj => dgst_get b n (by simpa using hj)) (fun j hj => dgst_get b n (by simpa using hj))
  rw [h]
  simp
theorem neq_dgst (b : Nat → Nat) (n : Nat) (w : World) : (binOp .neq 26 (.agg (dgst b n)) (.agg (dgst b n))).run Tryd.prog w = .ok (.bool false) w := by
  obtain ⟨i, hi⟩ : ∃ i, Tryd.prog.info? 5 = some i := Option.isSome_iff_exists.1 (by kernel_rfl)
  have hc : Tryd.prog.cellsOf 5 = 1 := by kernel_rfl
  rw [run_neq_struct, run_equalIn_array (P := Tryd.prog) w 9999 _ _ Tryd.underlying26 hi, hc]
  have h := run_items8 9998 (dgst b n) (dgst b n) (fun j => ((dByte (shaSt b n) j : Nat) : Int)) (fun j => ((dByte (shaSt b n) j : Nat) : Int)) w (List.range 32) (fun j hj => dgst_get b n (by simpa using hj)) (fun j hj => dgst_get b n (by simpa using hj))
  rw [h]
  simp [Result.andThen]

/-! ### slices cut anywhere -/
/-- Where s[m:] begins. -/
def cutA (A : Option Addr) (m c : Nat) : Option Addr := if c = m then A else A.map (·.add (m * 1))
theorem cut_from (A : Option Addr) (r c m : Nat) (hm : m ≤ r) (w : World) : (Instr.sliceAt 22 (.slice A r c) (some (.int .i64 (m : Int))) none none).run Tryd.prog w = .ok (.slice (cutA A m c) (r - m) (c - m)) w := by
  have e2 : ((sizeOf (Tryd.prog.elem 22)).run Tryd.prog w) = .ok 1 w := by kernel_rfl
  rw [run_sliceAt_slice w 22 _ _ _ _ (by kernel_rfl), run_slice_l w 22 A r c (by kernel_rfl) .i64 (m : Int) (by omega) (by omega), e2]
  simp [sliced, Result.andThen, cutA]
theorem cut_to (A : Option Addr) (r c m : Nat) (hm : m ≤ c) (w : World) : (Instr.sliceAt 22 (.slice A r c) none (some (.int .i64 (m : Int))) none).run Tryd.prog w = .ok (.slice (cutA A 0 c) m c) w := by
  have e2 : ((sizeOf (Tryd.prog.elem 22)).run Tryd.prog w) = .ok 1 w := by kernel_rfl
  rw [run_sliceAt_slice w 22 _ _ _ _ (by kernel_rfl), run_slice_h w 22 A r c (by kernel_rfl) .i64 (m : Int) (by omega) (by omega), e2]
  simp [sliced, Result.andThen, cutA]
theorem Src.cut {w : World} {A : Option Addr} {r c m g : Nat} {y : Nat → Nat} (h : Src w A r y g) (hm : m ≤ r) (hc : r ≤ c) : Src w (cutA A m c) (r - m) (fun j => y (m + j)) g := by
  by_cases h0 : r - m = 0
  · exact .inl h0
  · rcases h with h | ⟨b, o, rfl, hlt, hne, hcl⟩
    · omega
    · refine .inr ⟨b, o + m, by unfold cutA; rw [if_neg (by omega)]; simp [Addr.add_mid], hlt, hne, fun j hj => ?_⟩
      rw [Nat.add_assoc]
      exact hcl (m + j) (by omega)
theorem Src.head {w : World} {A : Option Addr} {r c m g : Nat} {y : Nat → Nat} (h : Src w A r y g) (hm : m ≤ r) (hc : r ≤ c) : Src w (cutA A 0 c) m y g := by
  by_cases h0 : m = 0
  · exact .inl h0
  · rcases h with h | ⟨b, o, rfl, hlt, hne, hcl⟩
    · omega
    · refine .inr ⟨b, o, by unfold cutA; rw [if_neg (by omega)]; simp [Addr.add_mid], hlt, hne, fun j hj => hcl j (by omega)⟩
/-- What the call owns, as a slice of bytes. -/
theorem own_slice {w : World} {base e n : Nat} {v : Value} {f : Nat → Value} (o : Own w base e v n f) : ∃ A c, v = .slice A n c ∧ n ≤ c ∧ (n = 0 ∨ ∃ b, A = some ⟨b, 0, none⟩ ∧ base ≤ b ∧ Pre w b e n f) := by
  by_cases h : n = 0
  · rcases o.2 with ⟨rfl, rfl⟩ | ⟨b, cap, cur, rfl, hb, hh, hnc, _⟩
    · exact ⟨none, 0, rfl, Nat.le_refl _, .inl rfl⟩
    · exact ⟨_, cap, rfl, hnc, .inl h⟩
  · obtain ⟨b, cap, rfl, hnc, hb, hp⟩ := o.pre (by omega)
    exact ⟨_, cap, rfl, hnc, .inr ⟨b, rfl, hb, hp⟩⟩
theorem src_own {w : World} {base n : Nat} {v : Value} {y : Nat → Nat} {g : Nat} (o : Own w base 5 v n (fun j => .int .u8 (y j : Nat))) (hg : ∀ b, v.ownBlock = some b → b ≠ g) : ∃ A c, v = .slice A n c ∧ n ≤ c ∧ Src w A n y g := by
  obtain ⟨A, c, rfl, hc, h⟩ := own_slice o
  refine ⟨A, c, rfl, hc, h.elim .inl ?_⟩
  rintro ⟨b, rfl, hb, hp⟩
  exact .inr ⟨b, 0, rfl, hp.lt, hg b rfl, fun j hj => by rw [Nat.zero_add]; exact hp.cell hj⟩

/-- What came in reads as it did, as long as nothing old has turned. -/
theorem src_now {w wr : World} {A : Option Addr} {n g : Nat} {y : Nat → Nat} (h : Src w A n y w.heap.size) (hb : Below w.heap.size w wr) (hg : w.heap.size ≤ g) : Src wr A n y g := (h.at hg).below hb
theorem from_now {w wr : World} {A : Option Addr} {n : Nat} {y : Nat → Nat} (h : Src w A n y w.heap.size) (hb : Below w.heap.size w wr) : From wr A n (fun j => .int .u8 (y j : Nat)) := by
  rcases h.below hb with h | ⟨b, o, rfl, _, _, hc⟩
  · exact .inl h
  · exact .inr ⟨_, rfl, fun j hj => by rw [Addr.add_mid]; exact hc j hj⟩
theorem kt_now {w wr : World} (h : KT w) (hb : Below w.heap.size w wr) : KT wr := h.call hb
theorem but_below {w w1 w2 : World} {r : Nat} (h : Below w.heap.size w w1) (hb : But r w1 w2) (hr : w.heap.size ≤ r) : Below w.heap.size w w2 := h.trans (But.new hb hr h.size)
/-- An own slice keeps, where another block turns. -/
theorem Own.but {w w' : World} {base e n r : Nat} {v : Value} {f : Nat → Value} (o : Own w base e v n f) (hb : But r w w') (hr : r < base) : Own w' base e v n f :=
  o.kept hb (by
    cases h : v.ownBlock with
    | none => exact .inl rfl
    | some k => exact .inr (fun e => by have := (o.lt h).1; simp at e; omega))
theorem Own.call {w w' : World} {base e n : Nat} {v : Value} {f : Nat → Value} (o : Own w base e v n f) (hb : Below w.heap.size w w') : Own w' base e v n f := o.below hb (Nat.le_refl _)
theorem HashIs.grown {w w' : World} {g L : Nat} {b : Nat → Nat} {row : Option Nat} (h : HashIs w g b L) (hg : w.grownBy w' row) (hne : some g ≠ row) : HashIs w' g b L := h.of_block (hg.block g h.lt hne)

/-- append in a region whose operation is guarded, its guard fulfilled. -/
theorem wpList_append_wanted {P : Program} (w : World) {ops : Array Oper} {rest : List Oper} {o : Oper} {a : Act} {Q : Exit → Act → World → Prop} (hgd : Region.wanted o (yielded ops a.tmps) = true) (s x : Operand) (t : TypeId)
    (ho : o.op = .call { callee := .builtin .append, args := #[s, x], argTypes := #[t, t] })
    (base e : Nat) (i : TypeInfo) (z : Value) (bytes : Nat) (ht : P.underlying t = some (.slice e)) (hi : P.info? e = some i) (hz : i.zero = some z) (hsize : i.size = 1) (hby : i.bytes = bytes) (hzs : z.cells.size = 1)
    (v : Value) (n : Nat) (f : Nat → Value) (hs : a.eval s = v) (hown : Own w base e v n f) (A : Option Addr) (m c : Nat) (hx : a.eval x = .slice A m c) (y : Nat → Value) (hsr : From w A m y) (h1 : ∀ j, (y j).oneCell' = true)
    (h63 : n + m ≤ maxLen) (hbytes : (n + m) * bytes ≤ 140737488355328) (hbase : base ≤ w.heap.size)
    (h : ∀ v' w', Own w' base e v' (n + m) (fun j => if j < n then f j else y (j - n)) → w.grownBy w' v.ownBlock → (v'.ownBlock = v.ownBlock ∨ v'.ownBlock = some w.heap.size) → wpList P ops Q rest (a.put o.dst v') w') : wpList P ops Q (o :: rest) a w := by
  refine wpList_step fun K hK => ?_
  rw [if_pos hgd]
  obtain ⟨v', w', hr, h2, h3, h5, _⟩ := own_append (P := P) w base t o.type e i z bytes ht hi hz hsize hby hzs v n f hown A m c y hsr h1 h63 hbytes hbase
  unfold Oper.wp execOp
  simp only [ho, resolve, invoke, builtin, Sem.run_bind, Sem.run_pure, Result.andThen_ok, List.map_toArray, List.map_cons, List.map_nil, hs, hx, hr]
  exact hK _ _ (h v' w' h2 h3 h5)

theorem own_first {w : World} {base e n : Nat} {v z : Value} {f : Nat → Value} (o : Own w base e v (0 + n) (fun j => if j < 0 then z else f (j - 0))) : Own w base e v n f := by
  rw [Nat.zero_add] at o
  exact o.congr fun j _ => by rw [if_neg (by omega), Nat.sub_zero]
theorem own_cat {w : World} {base e n m : Nat} {v : Value} {y0 y1 : Nat → Nat} (o : Own w base e v (n + m) (fun j => if j < n then .int .u8 (y0 j : Nat) else .int .u8 (y1 (j - n) : Nat))) : Own w base e v (n + m) (fun j => .int .u8 (cat y0 n y1 j : Nat)) :=
  o.congr fun j _ => by unfold cat; split <;> rfl
/-- Two hashes, and all that is old, where a slice of the call's own turns. -/
theorem app_keep {w W W' : World} {gH gG LH LG : Nat} {bH bG : Nat → Nat} {row : Option Nat} (hB : Below w.heap.size w W) (hH : HashIs W gH bH LH) (hG : HashIs W gG bG LG) (hg : W.grownBy W' row) (hr : ∀ k, row = some k → gG + 1 ≤ k)
    (h1 : w.heap.size ≤ gH) (h2 : gH < gG) : Below w.heap.size w W' ∧ HashIs W' gH bH LH ∧ HashIs W' gG bG LG :=
  ⟨hB.grown hg hB.size (fun k e => by have := hr k e; omega), hH.grown hg (fun e => by have := hr gH e.symm; omega), hG.grown hg (fun e => by have := hr gG e.symm; omega)⟩
theorem cat_lt {y0 y1 : Nat → Nat} {n : Nat} (h0 : ∀ j, y0 j < 256) (h1 : ∀ j, y1 j < 256) (j : Nat) : cat y0 n y1 j < 256 := by
  unfold cat
  split
  · exact h0 j
  · exact h1 _

theorem own_src {w : World} {base n c : Nat} {A : Option Addr} {y : Nat → Nat} (o : Own w base 5 (.slice A n c) n (fun j => .int .u8 (y j : Nat))) : Src w A n y w.heap.size := by
  obtain ⟨A5, c5, e5, _, hS⟩ := src_own (g := w.heap.size) o (fun b e => by have := (o.lt e).2; omega)
  injection e5 with h1 _ _
  rw [h1]; exact hS

/-! ### arguments -/
theorem laidOut : laidOutB Tryd.prog = true := by kernel_rfl
theorem cellsByte : Tryd.prog.cellsOf 5 = 1 := by kernel_rfl
theorem add_plain (b o j : Nat) : (⟨b, o, none⟩ : Addr).add j = ⟨b, o + j, none⟩ := Addr.add_mid b o j
theorem src_of {H : Type} {enc : TypeId × Value → H} {W : World} {A : Option Addr} {len cap fuel : Nat} {d : DataW H} {p : List MemPlace}
    (hf : DataW.trod enc Tryd.prog W 0 (fun _ => true) true fuel 22 [.slice A len cap] = some (d, p)) (hlt : ∀ x ∈ p, x.block < W.heap.size) : ∃ y : Nat → Nat, (∀ j, y j < 256) ∧ Src W A len y W.heap.size ∧ len ≤ cap := by
  rcases open_ints Tryd.underlying22 Tryd.underlying5 cellsByte hf with ⟨hcs, hx⟩ | ⟨a, len', cap', zs, hcs, _, hlc, _, hz, hx, hcell, hwz⟩
  · simp only [List.cons.injEq, Value.slice.injEq, and_true] at hcs
    obtain ⟨_, rfl, rfl⟩ := hcs
    exact ⟨fun _ => 0, fun _ => (by decide : (0 : Nat) < 256), .inl rfl, Nat.le_refl _⟩
  · simp only [List.cons.injEq, Value.slice.injEq, and_true] at hcs
    obtain ⟨rfl, rfl, rfl⟩ := hcs
    simp only [Prod.mk.injEq] at hx
    obtain ⟨_, rfl⟩ := hx
    simp only [if_true] at hz
    have hb : ∀ j, 0 ≤ zs.getD j 0 ∧ zs.getD j 0 < 256 := fun j => by
      by_cases hj : j < zs.length
      · have h := hwz (zs.getD j 0) (by rw [List.getD_eq_getElem?_getD, List.getElem?_eq_getElem hj]; exact List.getElem_mem hj)
        simp only [Lit.wf, Bool.and_eq_true, decide_eq_true_eq] at h
        have e1 : IntKind.u8.min = 0 := rfl
        have e2 : IntKind.u8.max = 255 := rfl
        omega
      · rw [List.getD_eq_getElem?_getD, List.getElem?_eq_none (by omega)]; exact ⟨by decide, by decide⟩
    refine ⟨fun j => (zs.getD j 0).toNat, fun j => by have := hb j; show (zs.getD j 0).toNat < 256; omega, ?_, hlc⟩
    by_cases h0 : len = 0
    · exact .inl h0
    · obtain ⟨b, off, spot⟩ := a
      have hspot : spot = none := by simpa [Addr.add] using World.cell?_spot (hcell 0 (by omega))
      subst hspot
      have hblk : b < W.heap.size := hlt (.cell b off) (MemPlace.mem_row.2 ⟨0, by omega, by simp⟩)
      refine .inr ⟨b, off, rfl, hblk, by omega, fun j hj => ?_⟩
      rw [← add_plain, hcell j (by omega), Int.toNat_of_nonneg (hb j).1]
end Go.Proofs.YtmgogcoafhompaaDoor
