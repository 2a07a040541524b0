/-
  Merged: SOwn SSumA HLaw HParts M1 MDef M2 M3 M4 M5.
-/
import Derived.WalkKit
import Derived.WalkSpells
import Derived.WalkLawsBesides
import Derived.Deep.LoopGhost
import Derived.Deep.Cut
import Derived.Deep.CutRange
import Derived.Deep.RegionHeld3
import Derived.BigQuiet
import Derived.IntWalk
import Derived.Deep.QuietTactic
import Derived.StillTailTactics
import Derived.Laws.BytesString
import Derived.Carry
import Derived.BigFrame
import Derived.Deep.Matrix
import Derived.Deep.CutBlock
import Derived.Deep.MidRow
import Derived.Laws.CopyOwn
import Derived.Test.YthgenmoiendakaaDoorZ6
import Derived.Test.YthgenmoiendakaaDoorZ1
import Derived.Test.YthgenmoiendakaaDoorZ5

/-
  The sums' words, as an element's type.
-/
namespace Go.Proofs.YthgenmoiendakaaDoor
open Go.RowKit
theorem infoU32 : (Tryd.prog.info? 68).map (fun i => (i.zero, i.size, i.bytes)) = some (some (.int .u32 0), 1, 4) := by kernel_rfl
end Go.Proofs.YthgenmoiendakaaDoor


/-
  clapperref03.Sum: the text, padded.
-/
namespace Go.Proofs.YthgenmoiendakaaDoor
open Go.RowKit

theorem src_from {w : World} {A : Option Addr} {n g : Nat} {y : Nat → Nat} (h : Src w A n y g) : From w A n (fun j => .int .u8 (y j : Nat)) := by
  rcases h with h | ⟨b, o, rfl, _, _, hc⟩
  · exact .inl h
  · exact .inr ⟨_, rfl, fun j hj => by rw [Addr.add_mid]; exact hc j hj⟩

/-- Cell j of the text, padded. -/
def txv (y : Nat → Nat) (n : Nat) (j : Nat) : Value := .int .u8 (padded y n j : Nat)
theorem txv_lo {y : Nat → Nat} {n j : Nat} (h : j < n) : txv y n j = .int .u8 (y j : Nat) := by unfold txv padded; rw [if_pos h]
theorem txv_at {y : Nat → Nat} {n : Nat} : txv y n n = .int .u8 128 := by unfold txv padded; rw [if_neg (by omega), if_pos rfl]; rfl
theorem txv_mid {y : Nat → Nat} {n j : Nat} (h1 : n < j) (h2 : j < 64 * nBlocks n - 8) : txv y n j = .int .u8 0 := by unfold txv padded; rw [if_neg (by omega), if_neg (by omega), if_pos h2]; rfl
theorem txv_hi {y : Nat → Nat} {n j : Nat} (h1 : 64 * nBlocks n - 8 ≤ j) (h2 : n < j) : txv y n j = .int .u8 ((8 * n / 256 ^ (64 * nBlocks n - 1 - j) % 256 : Nat) : Int) := by unfold txv padded; rw [if_neg (by omega), if_neg (by omega), if_neg (by omega)]
theorem own_one (w : World) (e : Nat) (x : Value) : Own (w.alloc (.cells #[x] e)) w.heap.size e (.slice (some ⟨w.heap.size, 0, none⟩) 1 1) 1 (fun _ => x) :=
  Own.made w (cs := #[x]) (Nat.le_refl _) (show 1 ≤ maxLen by decide) fun j hj => by
    have : j = 0 := by simpa using hj
    subst this
    rfl
/-- What the outer loop keeps: the text, the state, the round words, the result's block. -/
structure RF (w wr : World) (gR gT gH gK N : Nat) (tx : Nat → Value) (st : Nat → Value) : Prop where
  text : Pre wr gT 5 N tx
  h : wr.rowIs gH 68 8 st
  k : wr.rowIs gK 68 64 (fun j => .int .u32 (kc j : Nat))
  r : wr.rowIs gR 26 32 (fun _ => .int .u8 0)
  b : Below gR w wr
  o1 : gR < gT
  o2 : gT < gH
  o3 : gH < gK
section
variable {w wr w' : World} {gR gT gH gK N : Nat} {tx : Nat → Value} {st st' : Nat → Value}
theorem RF.lt (f : RF w wr gR gT gH gK N tx st) : gK < wr.heap.size := f.k.lt
theorem RF.of (f : RF w wr gR gT gH gK N tx st) (hk : ∀ b, b ≤ gK → w'.heap[b]? = wr.heap[b]?) (hb : Below gR wr w') : RF w w' gR gT gH gK N tx st := by
  have := f.o1; have := f.o2; have := f.o3
  exact ⟨f.text.of_block (hk gT (by omega)), f.h.of_block (hk gH (by omega)), f.k.of_block (hk gK (by omega)), f.r.of_block (hk gR (by omega)), f.b.trans hb, f.o1, f.o2, f.o3⟩
theorem RF.drewN (f : RF w wr gR gT gH gK N tx st) (k : Nat) : RF w (wr.drewN k) gR gT gH gK N tx st := ⟨f.text, f.h, f.k, f.r, below_drewN f.b k, f.o1, f.o2, f.o3⟩
theorem RF.drew (f : RF w wr gR gT gH gK N tx st) : RF w wr.drew gR gT gH gK N tx st := ⟨f.text, f.h, f.k, f.r, f.b.drew, f.o1, f.o2, f.o3⟩
theorem RF.alloc (f : RF w wr gR gT gH gK N tx st) (o : Obj) : RF w (wr.alloc o) gR gT gH gK N tx st := by
  have := f.o1; have := f.o2; have := f.o3; have := f.lt
  exact f.of (fun b hb => Below.heap_alloc _ _ _ (by omega)) ((Below.refl _ _).alloc (by omega) o)
theorem RF.grown (f : RF w wr gR gT gH gK N tx st) {row : Option Nat} (hg : wr.grownBy w' row) (hr : ∀ k, row = some k → gK < k) : RF w w' gR gT gH gK N tx st := by
  have := f.o1; have := f.o2; have := f.o3; have := f.lt
  exact f.of (fun b hb => hg.block b (by omega) (fun e => by have := hr b e.symm; omega)) ((Below.refl _ _).grown hg (by omega) (fun k e => by have := hr k e; omega))
theorem RF.far (f : RF w wr gR gT gH gK N tx st) {b i : Nat} (hb : gK < b) (v : Value) : RF w (wr.setCell ⟨b, i, none⟩ v) gR gT gH gK N tx st := by
  have := f.o1; have := f.o2; have := f.o3
  exact f.of (fun c hc => Below.heap_setCell _ _ _ _ (by show c ≠ b; omega)) ((Below.refl _ _).setCell (p := ⟨b, i, none⟩) (by show gR ≤ b; omega) v)
end
theorem RF.setH {w wr : World} {gR gT gH gK N : Nat} {tx st : Nat → Value} (f : RF w wr gR gT gH gK N tx st) (i : Nat) (v : Value) : RF w (wr.setCell ⟨gH, i, none⟩ v) gR gT gH gK N tx (fun j => if j = i then v else st j) := by
  have := f.o1; have := f.o2; have := f.o3
  exact ⟨f.text.far (by omega) v, f.h.set i v, row_far f.k (by omega) v, row_far f.r (by omega) v, below_set f.b (by omega) v, f.o1, f.o2, f.o3⟩
theorem RF.congrH {w wr : World} {gR gT gH gK N : Nat} {tx st st' : Nat → Value} (f : RF w wr gR gT gH gK N tx st) (h : ∀ j, j < 8 → st j = st' j) : RF w wr gR gT gH gK N tx st' :=
  ⟨f.text, f.h.congr h, f.k, f.r, f.b, f.o1, f.o2, f.o3⟩
/-- The state's words, as cells. -/
def hst (s : St) : Nat → Value := fun j => .int .u32 (s.at j : Nat)
/-- What is kept behind a new block and an append to a slice of the call's own. -/
theorem keep_step {w W W' : World} {gR : Nat} {o : Obj} {row : Option Nat} (hR : W.rowIs gR 26 32 (fun _ => .int .u8 0)) (hB : Below gR w W) (hg : (W.alloc o).grownBy W' row) (hr : ∀ k, row = some k → gR + 1 ≤ k) :
    W'.rowIs gR 26 32 (fun _ => .int .u8 0) ∧ Below gR w W' ∧ gR < W'.heap.size := by
  have hz := hR.lt
  have h1 := row_grown (hR.alloc o) hg (fun e => by have := hr gR e.symm; omega)
  exact ⟨h1, (hB.alloc (by omega) o).grown hg (by simp; omega) (fun k e => by have := hr k e; omega), h1.lt⟩
end Go.Proofs.YthgenmoiendakaaDoor


/-
  What the laws of layer 3 share: slices cut anywhere, texts out of bytes, '==' between sums, arguments read and read again.
-/
namespace Go.Proofs.YthgenmoiendakaaDoor
open Go.ChangeShapes Go.WideShapes Go.ChangeAt Go.RowKit

/-! ### a text -/
def bstr (y : Nat → Nat) (n : Nat) : ByteArray := ((List.range n).map fun j => ((y j : Nat) : Int)).foldl (fun r n => r.push (UInt8.ofNat n.toNat)) ByteArray.empty
theorem str_src {w : World} {A : Option Addr} {n c g : Nat} {y : Nat → Nat} (hs : Src w A n y g) : (convert 40 9 (.slice A n c)).run Tryd.prog w = .ok (.string (bstr y n)) w := by
  rw [run_convert_bytes_string (P := Tryd.prog) w 40 9 5 _ _ _ Tryd.underlying40 Tryd.underlying5 Tryd.underlying9]
  rcases A with _ | ad
  · rcases hs with h | ⟨b, o, ha, _⟩
    · subst h; rfl
    · cases ha
  · refine run_bytesToString (P := Tryd.prog) w ad n c ((List.range n).map fun j => ((y j : Nat) : Int)) ?_
    have h := run_loadCells_list (P := Tryd.prog) w ad ((List.range n).map fun j => Value.int .u8 (y j : Nat)) (fun j v hv => by
      have hj : j < n := by have := (List.getElem?_eq_some_iff.1 hv).1; simpa using this
      rcases hs with h | ⟨b, o, ha, _, _, hc⟩
      · omega
      · cases ha
        rw [Addr.add_mid, hc j hj, ← hv]; simp [hj])
    simp only [List.length_map, List.length_range] at h
    rw [h, List.map_map]
    rfl

/-! ### '==' between sums -/
theorem run_items8 (d : Nat) (xs ys : Array Value) (A B : Nat → Int) (w : World) : ∀ is : List Nat, (∀ i ∈ is, xs[i]? = some (.int .u8 (A i))) → (∀ i ∈ is, ys[i]? = some (.int .u8 (B i))) →
    (Op.eqItems (d + 1) 5 1 xs ys is).run Tryd.prog w = .ok (is.all fun i => A i == B i) w
  | [], _, _ => by simp [Op.eqItems]
  | i :: is, hx, hy => by
    have e1 := run_part_plain (P := Tryd.prog) w (e := 5) (by kernel_rfl) (xs := xs) (off := i * 1) (v := .int .u8 (A i)) (by rw [Nat.mul_one]; exact hx i (by simp))
    have e2 := run_part_plain (P := Tryd.prog) w (e := 5) (by kernel_rfl) (xs := ys) (off := i * 1) (v := .int .u8 (B i)) (by rw [Nat.mul_one]; exact hy i (by simp))
    have e3 := run_equalIn_int (P := Tryd.prog) w d 5 .u8 .u8 (A i) (B i) Tryd.underlying5
    have ih := run_items8 d xs ys A B w is (fun j hj => hx j (by simp [hj])) (fun j hj => hy j (by simp [hj]))
    simp only [Op.eqItems, Sem.run_bind, e1, e2, e3, Result.andThen_ok]
    by_cases h : A i = B i
    · simp [h, ih]
    · simp [h]
theorem dgst_get (b : Nat → Nat) (n : Nat) {j : Nat} (hj : j < 32) : (dgst b n)[j]? = some (.int .u8 ((dByte (shaSt b n) j : Nat) : Int)) := by unfold dgst; exact arrOf_get _ hj
theorem eql_dgst (b : Nat → Nat) (n : Nat) (w : World) : (binOp .eql 26 (.agg (dgst b n)) (.agg (dgst b n))).run Tryd.prog w = .ok (.bool true) w := by
  obtain ⟨i, hi⟩ : ∃ i, Tryd.prog.info? 5 = some i := Option.isSome_iff_exists.1 (by kernel_rfl)
  have hc : Tryd.prog.cellsOf 5 = 1 := by kernel_rfl
  rw [run_eql_struct, run_equalIn_array (P := Tryd.prog) w 9999 _ _ Tryd.underlying26 hi, hc]
  have h := run_items8 9998 (dgst b n) (dgst b n) (fun j => ((dByte (shaSt b n) j : Nat) : Int)) (fun j => ((dByte (shaSt b n) j : Nat) : Int)) w (List.range 32) (fun j hj => dgst_get b n (by simpa using hj)) (fun j hj => dgst_get b n (by simpa using hj))
  rw [h]
  simp
theorem neq_dgst (b : Nat → Nat) (n : Nat) (w : World) : (binOp .neq 26 (.agg (dgst b n)) (.agg (dgst b n))).run Tryd.prog w = .ok (.bool false) w := by
  obtain ⟨i, hi⟩ : ∃ i, Tryd.prog.info? 5 = some i := Option.isSome_iff_exists.1 (by kernel_rfl)
  have hc : Tryd.prog.cellsOf 5 = 1 := by kernel_rfl
  rw [run_neq_struct, run_equalIn_array (P := Tryd.prog) w 9999 _ _ Tryd.underlying26 hi, hc]
  have h := run_items8 9998 (dgst b n) (dgst b n) (fun j => ((dByte (shaSt b n) j : Nat) : Int)) (fun j => ((dByte (shaSt b n) j : Nat) : Int)) w (List.range 32) (fun j hj => dgst_get b n (by simpa using hj)) (fun j hj => dgst_get b n (by simpa using hj))
  rw [h]
  simp [Result.andThen]

/-! ### slices cut anywhere -/
theorem Src.cut {w : World} {A : Option Addr} {r c m g : Nat} {y : Nat → Nat} (h : Src w A r y g) (hm : m ≤ r) (hc : r ≤ c) : Src w (cutA A m c) (r - m) (fun j => y (m + j)) g := by
  by_cases h0 : r - m = 0
  · exact .inl h0
  · rcases h with h | ⟨b, o, rfl, hlt, hne, hcl⟩
    · omega
    · refine .inr ⟨b, o + m, by unfold cutA; rw [if_neg (by omega)]; simp [Addr.add_mid], hlt, hne, fun j hj => ?_⟩
      rw [Nat.add_assoc]
      exact hcl (m + j) (by omega)
theorem Src.head {w : World} {A : Option Addr} {r c m g : Nat} {y : Nat → Nat} (h : Src w A r y g) (hm : m ≤ r) (hc : r ≤ c) : Src w (cutA A 0 c) m y g := by
  by_cases h0 : m = 0
  · exact .inl h0
  · rcases h with h | ⟨b, o, rfl, hlt, hne, hcl⟩
    · omega
    · refine .inr ⟨b, o, by unfold cutA; rw [if_neg (by omega)]; simp [Addr.add_mid], hlt, hne, fun j hj => hcl j (by omega)⟩
/-- What the call owns, as a slice of bytes. -/
theorem own_slice {w : World} {base e n : Nat} {v : Value} {f : Nat → Value} (o : Own w base e v n f) : ∃ A c, v = .slice A n c ∧ n ≤ c ∧ (n = 0 ∨ ∃ b, A = some ⟨b, 0, none⟩ ∧ base ≤ b ∧ Pre w b e n f) := by
  by_cases h : n = 0
  · rcases o.2 with ⟨rfl, rfl⟩ | ⟨b, cap, cur, rfl, hb, hh, hnc, _⟩
    · exact ⟨none, 0, rfl, Nat.le_refl _, .inl rfl⟩
    · exact ⟨_, cap, rfl, hnc, .inl h⟩
  · obtain ⟨b, cap, rfl, hnc, hb, hp⟩ := o.pre (by omega)
    exact ⟨_, cap, rfl, hnc, .inr ⟨b, rfl, hb, hp⟩⟩
theorem src_own {w : World} {base n : Nat} {v : Value} {y : Nat → Nat} {g : Nat} (o : Own w base 5 v n (fun j => .int .u8 (y j : Nat))) (hg : ∀ b, v.ownBlock = some b → b ≠ g) : ∃ A c, v = .slice A n c ∧ n ≤ c ∧ Src w A n y g := by
  obtain ⟨A, c, rfl, hc, h⟩ := own_slice o
  refine ⟨A, c, rfl, hc, h.elim .inl ?_⟩
  rintro ⟨b, rfl, hb, hp⟩
  exact .inr ⟨b, 0, rfl, hp.lt, hg b rfl, fun j hj => by rw [Nat.zero_add]; exact hp.cell hj⟩

/-- What came in reads as it did, as long as nothing old has turned. -/
theorem src_now {w wr : World} {A : Option Addr} {n g : Nat} {y : Nat → Nat} (h : Src w A n y w.heap.size) (hb : Below w.heap.size w wr) (hg : w.heap.size ≤ g) : Src wr A n y g := (h.at hg).below hb
theorem from_now {w wr : World} {A : Option Addr} {n : Nat} {y : Nat → Nat} (h : Src w A n y w.heap.size) (hb : Below w.heap.size w wr) : From wr A n (fun j => .int .u8 (y j : Nat)) := by
  rcases h.below hb with h | ⟨b, o, rfl, _, _, hc⟩
  · exact .inl h
  · exact .inr ⟨_, rfl, fun j hj => by rw [Addr.add_mid]; exact hc j hj⟩
theorem kt_now {w wr : World} (h : KT w) (hb : Below w.heap.size w wr) : KT wr := h.call hb
theorem but_below {w w1 w2 : World} {r : Nat} (h : Below w.heap.size w w1) (hb : But r w1 w2) (hr : w.heap.size ≤ r) : Below w.heap.size w w2 := h.trans (But.new hb hr h.size)
/-- An own slice keeps, where another block turns. -/
theorem Own.but {w w' : World} {base e n r : Nat} {v : Value} {f : Nat → Value} (o : Own w base e v n f) (hb : But r w w') (hr : r < base) : Own w' base e v n f :=
  o.kept hb (by
    cases h : v.ownBlock with
    | none => exact .inl rfl
    | some k => exact .inr (fun e => by have := (o.lt h).1; simp at e; omega))
theorem Own.call {w w' : World} {base e n : Nat} {v : Value} {f : Nat → Value} (o : Own w base e v n f) (hb : Below w.heap.size w w') : Own w' base e v n f := o.below hb (Nat.le_refl _)
theorem HashIs.grown {w w' : World} {g L : Nat} {b : Nat → Nat} {row : Option Nat} (h : HashIs w g b L) (hg : w.grownBy w' row) (hne : some g ≠ row) : HashIs w' g b L := h.of_block (hg.block g h.lt hne)

/-- append in a region whose operation is guarded, its guard fulfilled. -/
theorem wpList_append_wanted {P : Program} (w : World) {ops : Array Oper} {rest : List Oper} {o : Oper} {a : Act} {Q : Exit → Act → World → Prop} (hgd : Region.wanted o (yielded ops a.tmps) = true) (s x : Operand) (t : TypeId)
    (ho : o.op = .call { callee := .builtin .append, args := #[s, x], argTypes := #[t, t] })
    (base e : Nat) (i : TypeInfo) (z : Value) (bytes : Nat) (ht : P.underlying t = some (.slice e)) (hi : P.info? e = some i) (hz : i.zero = some z) (hsize : i.size = 1) (hby : i.bytes = bytes) (hzs : z.cells.size = 1)
    (v : Value) (n : Nat) (f : Nat → Value) (hs : a.eval s = v) (hown : Own w base e v n f) (A : Option Addr) (m c : Nat) (hx : a.eval x = .slice A m c) (y : Nat → Value) (hsr : From w A m y) (h1 : ∀ j, (y j).oneCell' = true)
    (h63 : n + m ≤ maxLen) (hbytes : (n + m) * bytes ≤ 140737488355328) (hbase : base ≤ w.heap.size)
    (h : ∀ v' w', Own w' base e v' (n + m) (fun j => if j < n then f j else y (j - n)) → w.grownBy w' v.ownBlock → (v'.ownBlock = v.ownBlock ∨ v'.ownBlock = some w.heap.size) → wpList P ops Q rest (a.put o.dst v') w') : wpList P ops Q (o :: rest) a w := by
  refine wpList_step fun K hK => ?_
  rw [if_pos hgd]
  obtain ⟨v', w', hr, h2, h3, h5, _⟩ := own_append (P := P) w base t o.type e i z bytes ht hi hz hsize hby hzs v n f hown A m c y hsr h1 h63 hbytes hbase
  unfold Oper.wp execOp
  simp only [ho, resolve, invoke, builtin, Sem.run_bind, Sem.run_pure, Result.andThen_ok, List.map_toArray, List.map_cons, List.map_nil, hs, hx, hr]
  exact hK _ _ (h v' w' h2 h3 h5)

theorem own_first {w : World} {base e n : Nat} {v z : Value} {f : Nat → Value} (o : Own w base e v (0 + n) (fun j => if j < 0 then z else f (j - 0))) : Own w base e v n f := by
  rw [Nat.zero_add] at o
  exact o.congr fun j _ => by rw [if_neg (by omega), Nat.sub_zero]
theorem own_cat {w : World} {base e n m : Nat} {v : Value} {y0 y1 : Nat → Nat} (o : Own w base e v (n + m) (fun j => if j < n then .int .u8 (y0 j : Nat) else .int .u8 (y1 (j - n) : Nat))) : Own w base e v (n + m) (fun j => .int .u8 (cat y0 n y1 j : Nat)) :=
  o.congr fun j _ => by unfold cat; split <;> rfl
/-- Two hashes, and all that is old, where a slice of the call's own turns. -/
theorem app_keep {w W W' : World} {gH gG LH LG : Nat} {bH bG : Nat → Nat} {row : Option Nat} (hB : Below w.heap.size w W) (hH : HashIs W gH bH LH) (hG : HashIs W gG bG LG) (hg : W.grownBy W' row) (hr : ∀ k, row = some k → gG + 1 ≤ k)
    (h1 : w.heap.size ≤ gH) (h2 : gH < gG) : Below w.heap.size w W' ∧ HashIs W' gH bH LH ∧ HashIs W' gG bG LG :=
  ⟨hB.grown hg hB.size (fun k e => by have := hr k e; omega), hH.grown hg (fun e => by have := hr gH e.symm; omega), hG.grown hg (fun e => by have := hr gG e.symm; omega)⟩
theorem cat_lt {y0 y1 : Nat → Nat} {n : Nat} (h0 : ∀ j, y0 j < 256) (h1 : ∀ j, y1 j < 256) (j : Nat) : cat y0 n y1 j < 256 := by
  unfold cat
  split
  · exact h0 j
  · exact h1 _

theorem own_src {w : World} {base n c : Nat} {A : Option Addr} {y : Nat → Nat} (o : Own w base 5 (.slice A n c) n (fun j => .int .u8 (y j : Nat))) : Src w A n y w.heap.size := by
  obtain ⟨A5, c5, e5, _, hS⟩ := src_own (g := w.heap.size) o (fun b e => by have := (o.lt e).2; omega)
  injection e5 with h1 _ _
  rw [h1]; exact hS

/-! ### arguments -/
theorem laidOut : laidOutB Tryd.prog = true := by kernel_rfl
theorem cellsByte : Tryd.prog.cellsOf 5 = 1 := by kernel_rfl
theorem add_plain (b o j : Nat) : (⟨b, o, none⟩ : Addr).add j = ⟨b, o + j, none⟩ := Addr.add_mid b o j
theorem src_of {H : Type} {enc : TypeId × Value → H} {W : World} {A : Option Addr} {len cap fuel : Nat} {d : DataW H} {p : List MemPlace}
    (hf : DataW.trod enc Tryd.prog W 0 (fun _ => true) true fuel 40 [.slice A len cap] = some (d, p)) (hlt : ∀ x ∈ p, x.block < W.heap.size) : ∃ y : Nat → Nat, (∀ j, y j < 256) ∧ Src W A len y W.heap.size ∧ len ≤ cap := by
  rcases open_ints Tryd.underlying40 Tryd.underlying5 cellsByte hf with ⟨hcs, hx⟩ | ⟨a, len', cap', zs, hcs, _, hlc, _, hz, hx, hcell, hwz⟩
  · simp only [List.cons.injEq, Value.slice.injEq, and_true] at hcs
    obtain ⟨_, rfl, rfl⟩ := hcs
    exact ⟨fun _ => 0, fun _ => (by decide : (0 : Nat) < 256), .inl rfl, Nat.le_refl _⟩
  · simp only [List.cons.injEq, Value.slice.injEq, and_true] at hcs
    obtain ⟨rfl, rfl, rfl⟩ := hcs
    simp only [Prod.mk.injEq] at hx
    obtain ⟨_, rfl⟩ := hx
    simp only [if_true] at hz
    have hb : ∀ j, 0 ≤ zs.getD j 0 ∧ zs.getD j 0 < 256 := fun j => by
      by_cases hj : j < zs.length
      · have h := hwz (zs.getD j 0) (by rw [List.getD_eq_getElem?_getD, List.getElem?_eq_getElem hj]; exact List.getElem_mem hj)
        simp only [Lit.wf, Bool.and_eq_true, decide_eq_true_eq] at h
        have e1 : IntKind.u8.min = 0 := rfl
        have e2 : IntKind.u8.max = 255 := rfl
        omega
      · rw [List.getD_eq_getElem?_getD, List.getElem?_eq_none (by omega)]; exact ⟨by decide, by decide⟩
    refine ⟨fun j => (zs.getD j 0).toNat, fun j => by have := hb j; show (zs.getD j 0).toNat < 256; omega, ?_, hlc⟩
    by_cases h0 : len = 0
    · exact .inl h0
    · obtain ⟨b, off, spot⟩ := a
      have hspot : spot = none := by simpa [Addr.add] using World.cell?_spot (hcell 0 (by omega))
      subst hspot
      have hblk : b < W.heap.size := hlt (.cell b off) (MemPlace.mem_row.2 ⟨0, by omega, by simp⟩)
      refine .inr ⟨b, off, rfl, hblk, by omega, fun j hj => ?_⟩
      rw [← add_plain, hcell j (by omega), Int.toNat_of_nonneg (hb j).1]
end Go.Proofs.YthgenmoiendakaaDoor


/-
  Texts that come in parts: the parts of an argument, what the first ones hold together.
-/
namespace Go.Proofs.YthgenmoiendakaaDoor
open Go.RowKit

/-- The parts that came in: part r is C r's first L r bytes, from A r on. -/
structure Parts3 (W : World) (AL : Option Addr) (nl : Nat) (A : Nat → Option Addr) (L C : Nat → Nat) (Y : Nat → Nat → Nat) : Prop where
  row : nl = 0 ∨ ∃ b o, AL = some ⟨b, o, none⟩ ∧ b < W.heap.size ∧ ∀ r, r < nl → W.cell? ⟨b, o + r, none⟩ = some (.slice (A r) (L r) (C r))
  src : ∀ r, r < nl → Src W (A r) (L r) (Y r) W.heap.size
  cap : ∀ r, r < nl → L r ≤ C r
  lt : ∀ r j, Y r j < 256
/-- All that the first i parts hold. -/
def lenN (L : Nat → Nat) : Nat → Nat
  | 0 => 0
  | i + 1 => lenN L i + L i
def textN (L : Nat → Nat) (Y : Nat → Nat → Nat) : Nat → Nat → Nat
  | 0 => fun _ => 0
  | i + 1 => cat (textN L Y i) (lenN L i) (Y i)
theorem lenN_le {L : Nat → Nat} : ∀ i, (∀ r, r < i → L r ≤ 1000) → lenN L i ≤ 1000 * i
  | 0, _ => by simp [lenN]
  | i + 1, h => by
    have h1 := lenN_le i fun r hr => h r (by omega)
    have h2 := h i (by omega)
    show lenN L i + L i ≤ _
    omega
theorem textN_lt {L : Nat → Nat} {Y : Nat → Nat → Nat} (h : ∀ r j, Y r j < 256) : ∀ i j, textN L Y i j < 256
  | 0, _ => by show (0 : Nat) < 256; decide
  | i + 1, j => cat_lt (textN_lt h i) (h i) j


section
open Go.ChangeShapes Go.WideShapes Go.ChangeAt
theorem cellsSlice : Tryd.prog.cellsOf 40 = 1 := by kernel_rfl
theorem parts_of {H : Type} {enc : TypeId × Value → H} {W : World} {AL : Option Addr} {len cap fuel : Nat} {d : DataW H} {p : List MemPlace}
    (hf : DataW.trod enc Tryd.prog W 0 (fun _ => true) true fuel 78 [.slice AL len cap] = some (d, p)) : ∃ A L C Y, Parts3 W AL len A L C Y := by
  rcases Go.Deep.open_int_rows Tryd.underlying78 Tryd.underlying40 Tryd.underlying5 cellsSlice cellsByte hf with ⟨hcs, _⟩ | ⟨a, len', cap', A, L, C, Z, hcs, _, hlc, _, _, hr⟩
  · simp only [List.cons.injEq, Value.slice.injEq, and_true] at hcs
    obtain ⟨_, rfl, _⟩ := hcs
    exact ⟨fun _ => none, fun _ => 0, fun _ => 0, fun _ _ => 0, .inl rfl, fun r h => by omega, fun r h => by omega, fun _ _ => by decide⟩
  · simp only [List.cons.injEq, Value.slice.injEq, and_true] at hcs
    obtain ⟨rfl, rfl, rfl⟩ := hcs
    have hb : ∀ r, r < cap → ∀ j, 0 ≤ (Z r).getD j 0 ∧ (Z r).getD j 0 < 256 := fun r h j => by
      obtain ⟨_, _, _, _, hwz, _⟩ := hr r h
      by_cases hj : j < (Z r).length
      · have h := hwz ((Z r).getD j 0) (by rw [List.getD_eq_getElem?_getD, List.getElem?_eq_getElem hj]; exact List.getElem_mem hj)
        simp only [Lit.wf, Bool.and_eq_true, decide_eq_true_eq] at h
        have e1 : IntKind.u8.min = 0 := rfl
        have e2 : IntKind.u8.max = 255 := rfl
        omega
      · rw [List.getD_eq_getElem?_getD, List.getElem?_eq_none (by omega)]; exact ⟨by decide, by decide⟩
    refine ⟨A, L, C, fun r j => if r < cap then ((Z r).getD j 0).toNat else 0, ?_, fun r h => ?_, fun r h => (hr r (by omega)).2.1, fun r j => ?_⟩
    · by_cases h0 : len = 0
      · exact .inl h0
      · obtain ⟨b, off, spot⟩ := a
        have h00 := (hr 0 (by omega)).1
        have hspot : spot = none := by simpa [Addr.add] using World.cell?_spot h00
        subst hspot
        have hblk : b < W.heap.size := by
          have := World.block_lt_of_cell? W _ h00
          simpa [Addr.add] using this
        exact .inr ⟨b, off, rfl, hblk, fun r h => by rw [← add_plain]; exact (hr r (by omega)).1⟩
    · obtain ⟨_, hLC, _, hZ, _, hno, hyes⟩ := hr r (by omega)
      by_cases h0 : L r = 0
      · exact .inl h0
      · cases hA : A r with
        | none => have := hno hA; omega
        | some ad =>
          obtain ⟨_, hcell⟩ := hyes ad hA
          obtain ⟨b, off, spot⟩ := ad
          have h00 := hcell 0 (by omega)
          have hspot : spot = none := by simpa [Addr.add] using World.cell?_spot h00
          subst hspot
          have hblk : b < W.heap.size := by
            have := World.block_lt_of_cell? W _ h00
            simpa [Addr.add] using this
          refine .inr ⟨b, off, rfl, hblk, by omega, fun j hj => ?_⟩
          rw [← add_plain, hcell j (by omega)]
          dsimp only
          rw [if_pos (by omega), Int.toNat_of_nonneg (hb r (by omega) j).1]
    · show (if r < cap then ((Z r).getD j 0).toNat else 0) < 256
      by_cases h : r < cap
      · rw [if_pos h]; have := hb r h j; omega
      · rw [if_neg h]; decide
end
end Go.Proofs.YthgenmoiendakaaDoor


/-
  clapperref04.block: a key's block, each byte exclusive-ored with one.
-/
namespace Go.Proofs.YthgenmoiendakaaDoor
open Go.RowKit

theorem wrap8 (n : Int) : IntKind.u8.wrap n = n % 256 := by simp [IntKind.wrap, IntKind.signed, IntKind.bits]
theorem xor8 (a b : Nat) (ha : a < 256) (hb : b < 256) : bits .xor .u8 (a : Int) (b : Int) = ((a ^^^ b : Nat) : Int) := by
  have hx : a ^^^ b < 2 ^ 8 := Nat.xor_lt_two_pow (by omega) (by omega)
  have e1 : (BitVec.ofInt 8 (a : Int)).toNat = a := by rw [BitVec.ofInt_natCast, BitVec.toNat_ofNat]; exact Nat.mod_eq_of_lt (by omega)
  have e2 : (BitVec.ofInt 8 (b : Int)).toNat = b := by rw [BitVec.ofInt_natCast, BitVec.toNat_ofNat]; exact Nat.mod_eq_of_lt (by omega)
  show IntKind.u8.wrap ((BitVec.ofInt 8 (a : Int) ^^^ BitVec.ofInt 8 (b : Int)).toNat : Int) = _
  rw [BitVec.toNat_xor, e1, e2, wrap8]
  omega
theorem xor8_lt {a b : Nat} (ha : a < 256) (hb : b < 256) : a ^^^ b < 256 := Nat.xor_lt_two_pow (n := 8) (by omega) (by omega)

/-- The bytes of a text of n, and 0 behind them. -/
def upTo (y : Nat → Nat) (n j : Nat) : Nat := if j < n then y j else 0
/-- A key's block: byte j. -/
def kb (y : Nat → Nat) (n : Nat) : Nat → Nat := if n > 64 then upTo (fun j => dByte (shaSt y n) j) 32 else upTo y n
theorem upTo_lt {y : Nat → Nat} (hy : ∀ j, y j < 256) (n j : Nat) : upTo y n j < 256 := by
  unfold upTo
  split
  · exact hy j
  · omega
theorem dByte_lt (s : St) (i : Nat) : dByte s i < 256 := Nat.mod_lt _ (by omega)
theorem kb_lt {y : Nat → Nat} (hy : ∀ j, y j < 256) (n j : Nat) : kb y n j < 256 := by
  unfold kb
  split
  · exact upTo_lt (fun j => dByte_lt _ j) _ _
  · exact upTo_lt hy _ _
/-- The same, as a cell, each byte exclusive-ored with x. -/
def kx (k : Nat → Nat) (x : Nat) (j : Nat) : Value := .int .u8 ((k j ^^^ x : Nat) : Int)

/-- A byte of a text that lies below a number of blocks. -/
theorem src_cell {w w' : World} {A : Option Addr} {n g B : Nat} {y : Nat → Nat} (h : Src w A n y g) (hb : Below B w w') (hB : w.heap.size ≤ B) {i : Nat} (hi : i < n) :
    ∃ b o, A = some ⟨b, o, none⟩ ∧ w'.cell? ⟨b, o + i, none⟩ = some (.int .u8 (y i : Nat)) := by
  rcases h with h | ⟨b, o, rfl, hlt, _, hc⟩
  · omega
  · exact ⟨b, o, rfl, (hb.cell (by show b < B; omega)).trans (hc i hi)⟩
set_option maxRecDepth 100000 in
set_option maxHeartbeats 8000000 in
theorem block_calls (A : Option Addr) (n c : Nat) (y : Nat → Nat) (hy : ∀ j, y j < 256) (hn : n ≤ 1048576) (x : Nat) (hx : x < 256) (w : World) (hS : Src w A n y w.heap.size)
    (K : Calls Tryd.prog 45 #[.slice A n c] w fun e w' => e = .returned (.agg (dgst y n)) ∧ Below w.heap.size w w') :
    Calls Tryd.prog 46 #[.slice A n c, .int .u8 (x : Int)] w fun e w' => ∃ g cap, e = .returned (.slice (some ⟨g, 0, none⟩) 64 cap) ∧ Own w' w.heap.size 5 (.slice (some ⟨g, 0, none⟩) 64 cap) 64 (kx (kb y n) x) ∧ Below w.heap.size w w' := by
  obtain ⟨i8, hi8, hz0, hz1, hz2⟩ := info_parts infoB3
  have HI := veil (And.intro hi8 (And.intro hz0 (And.intro hz1 hz2)))
  have HX := veil hx
  have HK0 := veil K
  clear hi8 hz0 hz1 hz2 hx K
  go_enter Tryd.func46, Tryd.ntmps46
  by_cases hlong : n > 64
  · have HSZ := veil (And.intro (dgst_size y n) (And.intro (show (dgst y n).all (·.oneCell') = true from arrOf_one fun _ _ => rfl) (show (Tryd.prog.info? 26).map (·.size) = some (dgst y n).size by rw [dgst_size]; exact infoD)))
    obtain ⟨y', hy'⟩ : ∃ y' : Nat → Nat, y' = fun j => dByte (shaSt y n) j := ⟨_, rfl⟩
    have HK := veil (show ∀ j, j < 64 → kb y n j = upTo y' 32 j from fun j _ => by unfold kb; rw [if_pos hlong, hy'])
    have HYw := veil (show ∀ j, y' j < 256 from fun j => by rw [hy']; exact dByte_lt _ j)
    obtain ⟨D, hD⟩ : ∃ D, D = dgst y n := ⟨_, rfl⟩
    rw [← hD] at HSZ HK0
    have HD := veil hD
    clear hD hS hy
    go_upto_region 3 with (first
      | ((with_reducible refine (HK0.out).mono ?_); rintro e w1 ⟨rfl, hb1⟩)
      | ((with_reducible refine at_none ?_); refine wpList_store_row rfl 26 _ _ rfl w1.heap.size D rfl rfl 26 _ (heap_alloc_last w1 _) HSZ.out.2.2 (by rw [HSZ.out.1]; rfl) HSZ.out.2.1 ?_; rw [World.setRow_alloc_new]))
    have hr1 : (w1.alloc (.cells D 26)).rowIs w1.heap.size 26 32 (fun j => .int .u8 (dByte (shaSt y n) j : Nat)) := by rw [HD.out]; exact row_made w1 32 26 _ rfl
    have hb2 : Below w.heap.size w (w1.alloc (.cells D 26)) := hb1.alloc hb1.size _
    have hs2 := hb2.size
    obtain ⟨gD, hgD⟩ : ∃ gD, gD = w1.heap.size := ⟨_, rfl⟩
    rw [← hgD] at hr1
    generalize w1.alloc (.cells D 26) = ws at *
    have hgl := hr1.lt
    have HSw : Hid (Src ws (some ⟨gD, 0, none⟩) 32 y' ws.heap.size) := veil (.inr ⟨gD, 0, rfl, hgl, by omega, fun j hj => by rw [Nat.zero_add, hy']; exact hr1.cell hj⟩)
    obtain ⟨bs, hbs⟩ : ∃ bs, bs = ws.heap.size := ⟨_, rfl⟩
    have HBS := veil (show ws.heap.size ≤ bs by omega)
    have HB0 := veil hb2
    have hbw : w.heap.size ≤ bs := by omega
    clear hr1 hb1 HK0 hy'
    rw [← hgD]
    clear hgD
    go_upto_region 6 with (fail)
    go_loopw [6, 7] (fun v6 v7 wr => ∃ i : Nat, i ≤ 64 ∧ v7 = .int .i64 (i : Int) ∧ Own wr bs 5 v6 i (kx (kb y n) x) ∧ Below bs ws wr ∧ bs ≤ wr.heap.size)
      (fun _ v7 _ => 64 - (intOf v7).toNat)
    case atStart => exact ⟨0, by omega, rfl, Own.nil _ _ _ _, Below.refl _ _, by omega⟩
    case round =>
      obtain ⟨i, hi, rfl, hO, hB, hzr⟩ := hrel
      by_cases hlt : i < 64
      · by_cases hin : i < 32
        · obtain ⟨b0, o0, hA0, hcell⟩ := src_cell HSw.out hB HBS.out hin
          obtain ⟨Y, hY⟩ : ∃ Y, Y = y' i := ⟨_, rfl⟩
          rw [← hY] at hcell
          have hYl : Y < 256 := by rw [hY]; exact HYw.out i
          have HYi := veil hY
          clear hY
          obtain ⟨rfl, rfl⟩ : gD = b0 ∧ 0 = o0 := by injection hA0 with e; injection e with e1 e2; exact ⟨e1, e2⟩
          rw [Nat.zero_add] at hcell
          have hxor := xor8 Y x hYl HX.out
          have HA := veil (And.intro (hO.alloc (.cells #[.int .u8 ((Y ^^^ x : Nat) : Int)] 5)) (from_new wr (.int .u8 ((Y ^^^ x : Nat) : Int)) 5))
          have HBr := veil hB
          have HOr := veil hO
          clear hO hB
          go_wp2_with ((with_reducible refine at_slot 32 ?_); refine wpList_append_from _ rfl _ _ 40 rfl bs 5 i8 (.int .u8 0) 1 Tryd.underlying40 HI.out.1 HI.out.2.1 HI.out.2.2.1 HI.out.2.2.2 rfl u6 i _ rfl HA.out.1 (some ⟨wr.heap.size, 0, none⟩) 1 1 rfl _ HA.out.2 (fun _ => rfl) (by unfold maxLen; omega) (by omega) (by simp; omega) ?_; intro v4 w3 hO3 hg3 hat3)
          have hB3 : Below bs ws w3 := (HBr.out.alloc (by omega) _).grown hg3 (by simp; omega) (fun k e => (HOr.out.lt e).1)
          have hz3 : bs ≤ w3.heap.size := by have := hg3.size; simp at this; omega
          replace hO3 : Own w3 bs 5 v4 (i + 1) (kx (kb y n) x) := hO3.congr fun j hj => by
            by_cases h : j < i
            · rw [if_pos h]
            · obtain rfl : j = i := by omega
              rw [if_neg h]
              show _ = Value.int .u8 _
              rw [HK.out j (by omega)]
              unfold upTo
              rw [if_pos hin, HYi.out]
          clear hg3 hat3 HA HOr HBr
          go_roundw
          case rel => exact ⟨i + 1, by omega, by go_num, hO3, hB3, hz3⟩
          case measure => simp [intOf]; omega
        · obtain ⟨Z, hZ⟩ : ∃ Z : Nat, Z = 0 ^^^ x := ⟨_, rfl⟩
          have HZ := veil hZ
          have hxor : bits .xor .u8 0 (x : Int) = (Z : Int) := by rw [hZ]; exact xor8 0 x (by decide) HX.out
          clear hZ
          have HA := veil (And.intro (hO.alloc (.cells #[.int .u8 (Z : Int)] 5)) (from_new wr (.int .u8 (Z : Int)) 5))
          have HBr := veil hB
          have HOr := veil hO
          clear hO hB
          go_wp2_with ((with_reducible refine at_slot 32 ?_); refine wpList_append_from _ rfl _ _ 40 rfl bs 5 i8 (.int .u8 0) 1 Tryd.underlying40 HI.out.1 HI.out.2.1 HI.out.2.2.1 HI.out.2.2.2 rfl u6 i _ rfl HA.out.1 (some ⟨wr.heap.size, 0, none⟩) 1 1 rfl _ HA.out.2 (fun _ => rfl) (by unfold maxLen; omega) (by omega) (by simp; omega) ?_; intro v4 w3 hO3 hg3 hat3)
          have hB3 : Below bs ws w3 := (HBr.out.alloc (by omega) _).grown hg3 (by simp; omega) (fun k e => (HOr.out.lt e).1)
          have hz3 : bs ≤ w3.heap.size := by have := hg3.size; simp at this; omega
          replace hO3 : Own w3 bs 5 v4 (i + 1) (kx (kb y n) x) := hO3.congr fun j hj => by
            by_cases h : j < i
            · rw [if_pos h]
            · obtain rfl : j = i := by omega
              rw [if_neg h]
              show _ = Value.int .u8 _
              rw [HK.out j (by omega)]
              unfold upTo
              rw [if_neg hin, HZ.out]
          clear hg3 hat3 HA HOr HBr
          go_roundw
          case rel => exact ⟨i + 1, by omega, by go_num, hO3, hB3, hz3⟩
          case measure => simp [intOf]; omega
      · obtain rfl : i = 64 := by omega
        go_wp2
        go_ret
        obtain ⟨g, cap, rfl, _, _, _⟩ := hO.pre (by omega)
        exact ⟨g, cap, rfl, hO.base_le (by omega), HB0.out.trans (hB.mono (by omega))⟩
  · have HSw := veil hS
    have HYw := veil hy
    have HK := veil (show ∀ j, j < 64 → kb y n j = upTo y n j from fun j _ => by unfold kb; rw [if_neg hlong])
    obtain ⟨ws, hws⟩ : ∃ ws, ws = w := ⟨_, rfl⟩
    obtain ⟨bs, hbs⟩ : ∃ bs, bs = ws.heap.size := ⟨_, rfl⟩
    subst hws
    have HBS := veil (show ws.heap.size ≤ bs by omega)
    have HB0 := veil (Below.refl ws.heap.size ws)
    clear hS hy HK0
    go_upto_region 6 with (fail)
    go_loopw [6, 7] (fun v6 v7 wr => ∃ i : Nat, i ≤ 64 ∧ v7 = .int .i64 (i : Int) ∧ Own wr bs 5 v6 i (kx (kb y n) x) ∧ Below bs ws wr ∧ bs ≤ wr.heap.size)
      (fun _ v7 _ => 64 - (intOf v7).toNat)
    case atStart => exact ⟨0, by omega, rfl, Own.nil _ _ _ _, Below.refl _ _, by omega⟩
    case round =>
      obtain ⟨i, hi, rfl, hO, hB, hzr⟩ := hrel
      by_cases hlt : i < 64
      · by_cases hin : i < n
        · obtain ⟨b0, o0, hA0, hcell⟩ := src_cell HSw.out hB HBS.out hin
          obtain ⟨Y, hY⟩ : ∃ Y, Y = y i := ⟨_, rfl⟩
          rw [← hY] at hcell
          have hYl : Y < 256 := by rw [hY]; exact HYw.out i
          have HYi := veil hY
          clear hY
          subst hA0
          have hxor := xor8 Y x hYl HX.out
          have HA := veil (And.intro (hO.alloc (.cells #[.int .u8 ((Y ^^^ x : Nat) : Int)] 5)) (from_new wr (.int .u8 ((Y ^^^ x : Nat) : Int)) 5))
          have HBr := veil hB
          have HOr := veil hO
          clear hO hB
          go_wp2_with ((with_reducible refine at_slot 32 ?_); refine wpList_append_from _ rfl _ _ 40 rfl bs 5 i8 (.int .u8 0) 1 Tryd.underlying40 HI.out.1 HI.out.2.1 HI.out.2.2.1 HI.out.2.2.2 rfl u6 i _ rfl HA.out.1 (some ⟨wr.heap.size, 0, none⟩) 1 1 rfl _ HA.out.2 (fun _ => rfl) (by unfold maxLen; omega) (by omega) (by simp; omega) ?_; intro v4 w3 hO3 hg3 hat3)
          have hB3 : Below bs ws w3 := (HBr.out.alloc (by omega) _).grown hg3 (by simp; omega) (fun k e => (HOr.out.lt e).1)
          have hz3 : bs ≤ w3.heap.size := by have := hg3.size; simp at this; omega
          replace hO3 : Own w3 bs 5 v4 (i + 1) (kx (kb y n) x) := hO3.congr fun j hj => by
            by_cases h : j < i
            · rw [if_pos h]
            · obtain rfl : j = i := by omega
              rw [if_neg h]
              show _ = Value.int .u8 _
              rw [HK.out j (by omega)]
              unfold upTo
              rw [if_pos hin, HYi.out]
          clear hg3 hat3 HA HOr HBr
          go_roundw
          case rel => exact ⟨i + 1, by omega, by go_num, hO3, hB3, hz3⟩
          case measure => simp [intOf]; omega
        · obtain ⟨Z, hZ⟩ : ∃ Z : Nat, Z = 0 ^^^ x := ⟨_, rfl⟩
          have HZ := veil hZ
          have hxor : bits .xor .u8 0 (x : Int) = (Z : Int) := by rw [hZ]; exact xor8 0 x (by decide) HX.out
          clear hZ
          have HA := veil (And.intro (hO.alloc (.cells #[.int .u8 (Z : Int)] 5)) (from_new wr (.int .u8 (Z : Int)) 5))
          have HBr := veil hB
          have HOr := veil hO
          clear hO hB
          go_wp2_with ((with_reducible refine at_slot 32 ?_); refine wpList_append_from _ rfl _ _ 40 rfl bs 5 i8 (.int .u8 0) 1 Tryd.underlying40 HI.out.1 HI.out.2.1 HI.out.2.2.1 HI.out.2.2.2 rfl u6 i _ rfl HA.out.1 (some ⟨wr.heap.size, 0, none⟩) 1 1 rfl _ HA.out.2 (fun _ => rfl) (by unfold maxLen; omega) (by omega) (by simp; omega) ?_; intro v4 w3 hO3 hg3 hat3)
          have hB3 : Below bs ws w3 := (HBr.out.alloc (by omega) _).grown hg3 (by simp; omega) (fun k e => (HOr.out.lt e).1)
          have hz3 : bs ≤ w3.heap.size := by have := hg3.size; simp at this; omega
          replace hO3 : Own w3 bs 5 v4 (i + 1) (kx (kb y n) x) := hO3.congr fun j hj => by
            by_cases h : j < i
            · rw [if_pos h]
            · obtain rfl : j = i := by omega
              rw [if_neg h]
              show _ = Value.int .u8 _
              rw [HK.out j (by omega)]
              unfold upTo
              rw [if_neg hin, HZ.out]
          clear hg3 hat3 HA HOr HBr
          go_roundw
          case rel => exact ⟨i + 1, by omega, by go_num, hO3, hB3, hz3⟩
          case measure => simp [intOf]; omega
      · obtain rfl : i = 64 := by omega
        go_wp2
        go_ret
        obtain ⟨g, cap, rfl, _, _, _⟩ := hO.pre (by omega)
        exact ⟨g, cap, rfl, hO.base_le (by omega), HB0.out.trans (hB.mono (by omega))⟩
end Go.Proofs.YthgenmoiendakaaDoor


/-
  The code of a text with a key, as a value; steps of a region that draws its order: a row that is loaded, a row that is stored.
-/
namespace Go.Proofs.YthgenmoiendakaaDoor
open Go.RowKit

/-- What the inner sum is of: 64 bytes, and the text. -/
def macIn (y : Nat → Nat) (n : Nat) (t : Nat → Nat) : Nat → Nat := cat (fun j => kb y n j ^^^ 54) 64 t
/-- What the code is the sum of: 64 bytes, and the inner sum. -/
def macOut (y : Nat → Nat) (n : Nat) (t : Nat → Nat) (m : Nat) : Nat → Nat := cat (fun j => kb y n j ^^^ 92) 64 (fun j => dByte (shaSt (macIn y n t) (64 + m)) j)
/-- The code. -/
def macD (y : Nat → Nat) (n : Nat) (t : Nat → Nat) (m : Nat) : Array Value := dgst (macOut y n t m) 96

theorem macIn_lt {y t : Nat → Nat} (hy : ∀ j, y j < 256) (ht : ∀ j, t j < 256) (n j : Nat) : macIn y n t j < 256 := cat_lt (fun j => xor8_lt (kb_lt hy n j) (by decide)) ht _
theorem macOut_lt {y : Nat → Nat} (hy : ∀ j, y j < 256) (n : Nat) (t : Nat → Nat) (m j : Nat) : macOut y n t m j < 256 := cat_lt (fun j => xor8_lt (kb_lt hy n j) (by decide)) (fun j => dByte_lt _ j) _

theorem in_cells {w : World} {b e m : Nat} {v : Value} {k t : Nat → Nat} {x : Nat} (o : Own w b e v (64 + m) (fun j => if j < 64 then kx k x j else .int .u8 (t (j - 64) : Nat))) : Own w b e v (64 + m) (fun j => .int .u8 (cat (fun j => k j ^^^ x) 64 t j : Nat)) :=
  o.congr fun j _ => by unfold cat kx; split <;> rfl


/-! ### steps of a region that draws its order -/
theorem step_append_wanted {P : Program} (w : World) {ops : Array Oper} {o : Oper} {a : Act} {K : Act → World → Prop} {Q : Exit → Act → World → Prop} {E : Prop} (hgd : Region.wanted o (yielded ops a.tmps) = true) (s x : Operand) (t : TypeId)
    (ho : o.op = .call { callee := .builtin .append, args := #[s, x], argTypes := #[t, t] })
    (base e : Nat) (i : TypeInfo) (z : Value) (bytes : Nat) (ht : P.underlying t = some (.slice e)) (hi : P.info? e = some i) (hz : i.zero = some z) (hsize : i.size = 1) (hby : i.bytes = bytes) (hzs : z.cells.size = 1)
    (v : Value) (n : Nat) (f : Nat → Value) (hs : a.eval s = v) (hown : Own w base e v n f) (A : Option Addr) (m c : Nat) (hx : a.eval x = .slice A m c) (y : Nat → Value) (hsr : From w A m y) (h1 : ∀ j, (y j).oneCell' = true)
    (h63 : n + m ≤ maxLen) (hbytes : (n + m) * bytes ≤ 140737488355328) (hbase : base ≤ w.heap.size)
    (h : ∀ v' w', Own w' base e v' (n + m) (fun j => if j < n then f j else y (j - n)) → w.grownBy w' v.ownBlock → (v'.ownBlock = v.ownBlock ∨ v'.ownBlock = some w.heap.size) → K (a.put o.dst v') w') :
    if Region.wanted o (yielded ops a.tmps) = true then Oper.wp P o a w K Q else E := by
  rw [if_pos hgd]
  obtain ⟨v', w', hr, h2, h3, h5, _⟩ := own_append (P := P) w base t o.type e i z bytes ht hi hz hsize hby hzs v n f hown A m c y hsr h1 h63 hbytes hbase
  unfold Oper.wp execOp
  simp only [ho, resolve, invoke, builtin, Sem.run_bind, Sem.run_pure, Result.andThen_ok, List.map_toArray, List.map_cons, List.map_nil, hs, hx, hr]
  exact h v' w' h2 h3 h5
theorem from_alloc {w : World} {A : Option Addr} {n : Nat} {f : Nat → Value} (h : From w A n f) (o : Obj) : From (w.alloc o) A n f := by
  rcases h with h | ⟨ad, e, h⟩
  · exact .inl h
  · exact .inr ⟨ad, e, fun j hj => (World.cell?_of_block (Below.heap_alloc w o _ (World.block_lt_of_cell? w _ (h j hj)))).trans (h j hj)⟩
theorem from_new' (w : World) (x : Value) (t : Nat) {g : Nat} (hg : g = w.heap.size) : From (w.alloc (.cells #[x] t)) (some ⟨g, 0, none⟩) 1 (fun _ => x) := by rw [hg]; exact from_new w x t

end Go.Proofs.YthgenmoiendakaaDoor


/-
  clapperref04.Of: the document's code of any text with any key.
-/
namespace Go.Proofs.YthgenmoiendakaaDoor
open Go.RowKit

/-- What the reference's sum is taken to do. -/
def RSum : Prop := ∀ (A : Option Addr) (n c : Nat) (y : Nat → Nat), (∀ j, y j < 256) → n ≤ 1048576 → ∀ w : World, Src w A n y w.heap.size →
  Calls Tryd.prog 45 #[.slice A n c] w fun e w' => e = .returned (.agg (dgst y n)) ∧ Below w.heap.size w w'

theorem from_row {w : World} {g e n : Nat} {f : Nat → Value} (h : w.rowIs g e n f) : From w (some ⟨g, 0, none⟩) n f := .inr ⟨_, rfl, fun j hj => by rw [Addr.add_mid, Nat.zero_add]; exact h.cell hj⟩
set_option maxRecDepth 100000 in
set_option maxHeartbeats 8000000 in
theorem rmac_calls (RS : RSum) (A B : Option Addr) (n c m d : Nat) (y t : Nat → Nat) (hy : ∀ j, y j < 256) (ht : ∀ j, t j < 256) (hn : n ≤ 100000) (hm : m ≤ 100000) (w : World) (hS : Src w A n y w.heap.size) (hT : Src w B m t w.heap.size) :
    Calls Tryd.prog 35 #[.slice A n c, .slice B m d] w fun e w' => e = .returned (.agg (macD y n t m)) ∧ Below w.heap.size w w' := by
  obtain ⟨i8, hi8, hz0, hz1, hz2⟩ := info_parts infoB3
  have HI := veil (And.intro hi8 (And.intro hz0 (And.intro hz1 hz2)))
  clear hi8 hz0 hz1 hz2
  have HB := veil (show ∀ W : World, Src W A n y W.heap.size → Calls Tryd.prog 46 #[.slice A n c, .int .u8 54] W fun e w' => ∃ g cap, e = .returned (.slice (some ⟨g, 0, none⟩) 64 cap) ∧ Own w' W.heap.size 5 (.slice (some ⟨g, 0, none⟩) 64 cap) 64 (kx (kb y n) 54) ∧ Below W.heap.size W w' from
    fun W h => block_calls A n c y hy (by omega) 54 (by decide) W h (RS A n c y hy (by omega) W h))
  have HC := veil (show ∀ W : World, Src W A n y W.heap.size → Calls Tryd.prog 46 #[.slice A n c, .int .u8 92] W fun e w' => ∃ g cap, e = .returned (.slice (some ⟨g, 0, none⟩) 64 cap) ∧ Own w' W.heap.size 5 (.slice (some ⟨g, 0, none⟩) 64 cap) 64 (kx (kb y n) 92) ∧ Below W.heap.size W w' from
    fun W h => block_calls A n c y hy (by omega) 92 (by decide) W h (RS A n c y hy (by omega) W h))
  have HIn := veil (fun (C : Option Addr) (e : Nat) (W : World) (h : Src W C (64 + m) (macIn y n t) W.heap.size) => RS C (64 + m) e _ (macIn_lt hy ht n) (by omega) W h)
  have HOut := veil (fun (C : Option Addr) (e : Nat) (W : World) (h : Src W C 96 (macOut y n t m) W.heap.size) => RS C 96 e _ (macOut_lt hy n t m) (by omega) W h)
  have HS := veil (And.intro hS hT)
  clear RS hy ht hS hT
  go_enter Tryd.func35, Tryd.ntmps35
  go_upto_region 1 with (fail)
  rw [zeros32]
  have hR : (w.alloc (.cells (arrOf 32 (fun _ => .int .u8 0)) 26)).rowIs w.heap.size 26 32 (fun _ => .int .u8 0) := row_made w 32 26 _ rfl
  have hB : Below w.heap.size w (w.alloc (.cells (arrOf 32 (fun _ => .int .u8 0)) 26)) := (Below.refl _ _).alloc (Nat.le_refl _) _
  obtain ⟨gR, hgR⟩ : ∃ gR, gR = w.heap.size := ⟨_, rfl⟩
  rw [← hgR] at hR
  generalize w.alloc (.cells (arrOf 32 (fun _ => .int .u8 0)) 26) = w1 at *
  have hS1 := src_now HS.out.1 hB hB.size
  have hB1 := veil hB
  clear hB
  obtain ⟨D, hD⟩ : ∃ D, D = dgst (macIn y n t) (64 + m) := ⟨_, rfl⟩
  have HSZ := veil (And.intro (dgst_size (macIn y n t) (64 + m)) (And.intro (show (dgst (macIn y n t) (64 + m)).all (·.oneCell') = true from arrOf_one fun _ _ => rfl) (show (Tryd.prog.info? 26).map (·.size) = some (dgst (macIn y n t) (64 + m)).size by rw [dgst_size]; exact infoD)))
  rw [← hD] at HSZ HIn
  have HD := veil hD
  have hRl := hR.lt
  have HRw := veil (And.intro hR (And.intro hgR hS1))
  clear hD hR hS1
  rw [← hgR]
  clear hgR
  go_upto_region 2 with (first
    | ((with_reducible refine (HB.out w1 ?hs).mono ?_); (· exact HRw.out.2.2); rintro e w2 ⟨g2, c2, rfl, hO2, hb2⟩)
    | ((with_reducible refine at_slot 9 ?_); refine wpList_append_from _ rfl _ _ 40 rfl w1.heap.size 5 i8 (.int .u8 0) 1 Tryd.underlying40 HI.out.1 HI.out.2.1 HI.out.2.2.1 HI.out.2.2.2 rfl (.slice (some ⟨g2, 0, none⟩) 64 c2) 64 _ rfl hO2 B m d rfl _ (from_now HS.out.2 (hB1.out.trans (hb2.mono hB1.out.size))) (fun _ => rfl) (by unfold maxLen; omega) (by omega) hb2.size ?_; intro v3 w3 hO3 hg3 hat3; replace hO3 := in_cells hO3; obtain ⟨g3, c3, rfl, -, -, -⟩ := hO3.pre (by omega); have hs3 : Src w3 (some ⟨g3, 0, none⟩) (64 + m) (macIn y n t) w3.heap.size := own_src hO3)
    | ((with_reducible refine (HIn.out (some ⟨g3, 0, none⟩) c3 w3 hs3).mono ?_); rintro e w4 ⟨rfl, hb4⟩)
    | ((with_reducible refine at_none ?_); refine wpList_store_row rfl 26 _ _ rfl w4.heap.size D rfl rfl 26 _ (heap_alloc_last w4 _) HSZ.out.2.2 (by rw [HSZ.out.1]; rfl) HSZ.out.2.1 ?_; rw [World.setRow_alloc_new]))
  have hb3 : Below w1.heap.size w1 w3 := hb2.grown hg3 hb2.size (fun k e => (hO2.lt e).1)
  have hB4 := hb3.trans (hb4.mono hb3.size)
  have hR5 := (row_below HRw.out.1 hB4 HRw.out.1.lt).alloc (.cells D 26)
  have hB5 := (hB1.out.trans (hB4.mono hB1.out.size)).alloc (hB1.out.trans (hB4.mono hB1.out.size)).size (.cells D 26)
  have hD5 : (w4.alloc (.cells D 26)).rowIs w4.heap.size 26 32 (fun j => .int .u8 (dByte (shaSt (macIn y n t) (64 + m)) j : Nat)) := by rw [HD.out]; exact row_made w4 32 26 _ rfl
  have HG := veil HRw.out.2.1
  have hlt5 : gR < w4.heap.size := by have := hB4.size; omega
  have hlt6 : w4.heap.size < (w4.alloc (.cells D 26)).heap.size := by simp
  generalize w4.alloc (.cells D 26) = w5 at *
  generalize hg5 : w4.heap.size = g5 at *
  clear hb2 hO2 hO3 hg3 hat3 hs3 hb3 hb4 hB4 HB HIn HRw hg5
  obtain ⟨F, hF⟩ : ∃ F, F = macD y n t m := ⟨_, rfl⟩
  have HF := veil (show F.size = 32 ∧ F.all (·.oneCell') = true ∧ (Tryd.prog.info? 26).map (·.size) = some F.size from by
    rw [hF]; exact ⟨dgst_size _ _, arrOf_one fun _ _ => rfl, by show _ = some (dgst _ _).size; rw [dgst_size]; exact infoD⟩)
  have HS5 := veil (src_now HS.out.1 hB5 hB5.size)
  have HN := veil (And.intro hR5 hB5)
  have HC5 := veil (HC.out w5.drew HS5.out)
  have HOut' := veil (show ∀ (C : Option Addr) (e : Nat) (W : World), Src W C 96 (macOut y n t m) W.heap.size → Calls Tryd.prog 45 #[.slice C 96 e] W fun e W' => e = .returned (.agg F) ∧ Below W.heap.size W W' from by rw [hF]; exact HOut.out)
  have hoF : ∀ v ∈ F.toList, v.oneCell' = true := fun v hv => (Array.all_eq_true_iff_forall_mem.1 HF.out.2.1) v (by simpa using hv)
  have hiF : (Tryd.prog.info? 26).map (·.size) = some F.toList.length := by rw [Array.length_toList]; exact HF.out.2.2
  have HFF := veil hF
  have HD5 := veil hD5
  have hS0 : But gR w5 w5 := But.refl _ _
  clear hF hR5 hB5 hD5 HC HOut HS HD HSZ
  go_region_held3 (fun w' => But gR w5 w')
    (first
      | with_reducible assumption
      | exact hS0
      | exact hS0.drew
      | exact hS0.drew.below hb6
      | exact hS0.drew.below hb7
      | exact hS0.drew.below hb9
      | exact But.setCells _ 0 _ (hS0.drew.below hb9))
    (first
      | (go_at_call 46; refine HC5.out.mono ?_; rintro e w6 ⟨g6, c6, rfl, hO6, hb6⟩)
      | ((with_reducible refine at_slotR 14 ?_); refine step_append_from _ rfl _ _ 40 rfl w5.heap.size 5 i8 (.int .u8 0) 1 Tryd.underlying40 HI.out.1 HI.out.2.1 HI.out.2.2.1 HI.out.2.2.2 rfl (.slice (some ⟨g6, 0, none⟩) 64 c6) 64 _ rfl hO6 (some ⟨g5, 0, none⟩) 32 32 rfl _ (from_row (row_below (row_drewN HD5.out 1) hb6 hlt6)) (fun _ => rfl) (by unfold maxLen; omega) (by omega) hb6.size ?_; intro v7 w7 hO7 hg7 _ _; have hb7 := hb6.grown hg7 hb6.size (fun k e => (hO6.lt e).1); replace hO7 := in_cells hO7; obtain ⟨g7, c7, rfl, -, -, -⟩ := hO7.pre (by omega); have hs7 : Src w7 (some ⟨g7, 0, none⟩) 96 (macOut y n t m) w7.heap.size := own_src hO7; clear hg7)
      | (go_at_call 45; (with_reducible refine (HOut'.out (some ⟨g7, 0, none⟩) c7 w7 hs7).mono ?_); rintro e w8 ⟨rfl, hb8⟩; have hb9 := hb7.trans (hb8.mono hb7.size); have hN' := veil (row_below (row_drewN HN.out.1 1) hb9 (Nat.lt_trans hlt5 hlt6)); have hth := there_row hN'.out (show F.toList.length = 32 by rw [Array.length_toList]; exact HF.out.1)))
  rename (But _ _ _) => hHeld
  clear hS0 hoF hiF hth
  go_wp2
  exact bodyPost_ret (results_cell_row rfl _ _ gR 26 F (0, 0) _ rfl (blk_setCells hN'.out HF.out.1) Tryd.underlying26 rfl HF.out.2.2) rfl ⟨by rw [HFF.out], HN.out.2.trans (But.new hHeld (B := w.heap.size) (Nat.le_of_eq HG.out.symm) HN.out.2.size)⟩
end Go.Proofs.YthgenmoiendakaaDoor


/-
  mac.masked: the sum of a block, each byte exclusive-ored with one, and of parts behind it.
-/
namespace Go.Proofs.YthgenmoiendakaaDoor
open Go.RowKit

theorem cat_assoc (a b c : Nat → Nat) (n m : Nat) : cat (cat a n b) (n + m) c = cat a n (cat b m c) := by
  funext i
  unfold cat
  by_cases h1 : i < n
  · have h2 : i < n + m := by omega
    simp only [h1, h2, if_true]
  · by_cases h2 : i < n + m
    · have h3 : i - n < m := by omega
      simp only [h1, h2, h3, if_true, if_false]
    · have h3 : ¬ i - n < m := by omega
      simp only [h1, h2, h3, if_false]
      congr 1; omega
theorem lenN_mono {L : Nat → Nat} {i j : Nat} (h : i ≤ j) : lenN L i ≤ lenN L j := by
  induction j with
  | zero => obtain rfl : i = 0 := by omega
            exact Nat.le_refl _
  | succ j ih =>
    by_cases e : i = j + 1
    · subst e; exact Nat.le_refl _
    · have := ih (by omega)
      show _ ≤ lenN L j + L j
      omega
theorem Parts3.call {W W' : World} {AL : Option Addr} {nl : Nat} {A : Nat → Option Addr} {L C : Nat → Nat} {Y : Nat → Nat → Nat} (h : Parts3 W AL nl A L C Y) (hb : Below W.heap.size W W') : Parts3 W' AL nl A L C Y where
  row := h.row.imp id fun ⟨b, o, e, hlt, hc⟩ => ⟨b, o, e, by have := hb.size; omega, fun r hr => (hb.cell (p := ⟨b, o + r, none⟩) hlt).trans (hc r hr)⟩
  src := fun r hr => ((h.src r hr).at (g' := W'.heap.size) hb.size).below hb
  cap := h.cap
  lt := h.lt
set_option maxRecDepth 100000 in
set_option maxHeartbeats 8000000 in
theorem masked_calls (k : Nat → Nat) (hk : ∀ j, k j < 256) (x : Nat) (hx : x < 256) (AL : Option Addr) (nl cl : Nat) (A : Nat → Option Addr) (L C : Nat → Nat) (Y : Nat → Nat → Nat) (hnl : nl ≤ 100000) (hT : lenN L nl ≤ 100000) (w : World) (hK : KT w) (hP : Parts3 w AL nl A L C Y) :
    Calls Tryd.prog 58 #[.agg (arrOf 64 fun j => .int .u8 (k j : Nat)), .int .u8 (x : Int), .slice AL nl cl] w fun e w' => e = .returned (.agg (dgst (cat (fun j => k j ^^^ x) 64 (textN L Y nl)) (64 + lenN L nl))) ∧ Below w.heap.size w w' := by
  obtain ⟨F, hF⟩ : ∃ F, F = arrOf 64 fun j => Value.int .u8 (k j : Nat) := ⟨_, rfl⟩
  rw [← hF]
  have HF := veil hF
  have HK := veil hK
  have HP := veil hP
  have HX := veil (And.intro hx hk)
  have HT := veil hT
  have hg0 := hK.lt
  clear hF hK hP hx hk hT
  go_enter Tryd.func58, Tryd.ntmps58
  go_upto_region 1 with (fail)
  rw [zeros32]
  have hB0 : (w.alloc (.cells F 70)).rowIs w.heap.size 70 64 (fun j => Value.int .u8 (k j : Nat)) := by rw [HF.out]; exact row_made w 64 70 _ rfl
  have hb0 : Below w.heap.size w (w.alloc (.cells F 70)) := (Below.refl _ _).alloc (Nat.le_refl _) _
  have hz0 : (w.alloc (.cells F 70)).heap.size = w.heap.size + 1 := by simp
  generalize w.alloc (.cells F 70) = w0 at *
  have hR1 := row_made w0 32 26 (fun _ => Value.int .u8 0) rfl
  rw [hz0] at hR1
  have hB1 := hB0.alloc (.cells (arrOf 32 (fun _ => .int .u8 0)) 26)
  have hb1 := hb0.alloc hb0.size (.cells (arrOf 32 (fun _ => .int .u8 0)) 26)
  generalize w0.alloc (.cells (arrOf 32 (fun _ => .int .u8 0)) 26) = w1 at *
  clear hB0 hb0 hz0
  go_wp2
  go_loopw [11] (fun v wr => ∃ i : Nat, i ≤ 64 ∧ v = .int .i64 (i : Int) ∧ wr.rowIs w.heap.size 70 64 (fun j => .int .u8 ((if j < i then k j ^^^ x else k j : Nat) : Int)) ∧ wr.rowIs (w.heap.size + 1) 26 32 (fun _ => .int .u8 0) ∧ Below w.heap.size w wr)
    (fun v _ => 64 - (intOf v).toNat)
  case atStart => exact ⟨0, by omega, rfl, hB1, hR1, hb1⟩
  case round =>
    obtain ⟨i, hi, rfl, hRB, hR, hB⟩ := hrel
    by_cases hlt : i < 64
    · obtain ⟨c, hc⟩ : ∃ c, c = k i := ⟨_, rfl⟩
      have c0 := hRB.cell hlt
      have f0 := hRB.frozen i
      rw [if_neg (Nat.lt_irrefl i), ← hc] at c0
      have hxor := xor8 c x (by rw [hc]; exact HX.out.2 i) HX.out.1
      have HC := veil hc
      clear hc
      go_wp2
      go_roundw
      case rel =>
        refine ⟨i + 1, by omega, by go_num, (hRB.set i _).congr fun q hq => ?_, row_far hR (by omega) _, below_set hB (Nat.le_refl _) _⟩
        by_cases h : q = i
        · rw [if_pos h, if_pos (by omega), HC.out, h]
        · rw [if_neg h]
          by_cases h2 : q < i
          · rw [if_pos h2, if_pos (by omega)]
          · rw [if_neg h2, if_neg (by omega)]
      case measure => simp [intOf]; omega
    · have e64 : i = 64 := by omega
      have hRB : wr.rowIs w.heap.size 70 64 (fun j => .int .u8 ((k j ^^^ x : Nat) : Int)) := hRB.congr fun p hp => by rw [if_pos (by omega)]
      have hd : decide ((i : Int) < 64) = false := by simp; omega
      clear e64 hlt hi
      go_wp2_with fail
      refine (new_calls wr).mono ?_
      rintro e w2 ⟨rfl, hC, hb2⟩
      have hRB2 := row_below hRB hb2 hRB.lt
      have hR2 := row_below hR hb2 hR.lt
      have hB2 := hB.trans (hb2.mono hB.size)
      have hC2 := hC (fun _ => 0)
      have hgH := hC2.lt
      have hHR := hR.lt
      generalize wr.heap.size = gH at *
      clear hRB hR hB hC hb2
      have hS2 : Src w2 (some ⟨w.heap.size, 0, none⟩) 64 (fun j => k j ^^^ x) gH := .inr ⟨_, 0, rfl, hRB2.lt, by omega, fun j hj => by rw [Nat.zero_add]; exact hRB2.cell hj⟩
      go_wp2_with fail
      refine (write_calls gH (fun _ => 0) 0 _ 64 64 (fun j => k j ^^^ x) (fun j => xor8_lt (HX.out.2 j) HX.out.1) (by decide) (by decide) (by omega) w2 (kt_now HK.out hB2) hC2 hS2).mono ?_
      rintro e w3 ⟨rfl, hH3, hb3⟩
      rw [Nat.zero_add, cat_none] at hH3
      have hR3 := row_but hR2 hb3 (by omega)
      have hB3 := but_below hB2 hb3 (by omega)
      clear hRB2 hR2 hB2 hC2 hS2 hb3
      have hH3 : HashIs w3 gH (cat (fun j => k j ^^^ x) 64 (textN L Y 0)) (64 + lenN L 0) := hH3.congr fun i hi => by unfold cat; rw [if_pos hi]
      go_wp2
      go_loopw [27] (fun v wr => ∃ i : Nat, i ≤ nl ∧ v = .int .i64 (i : Int) ∧ HashIs wr gH (cat (fun j => k j ^^^ x) 64 (textN L Y i)) (64 + lenN L i) ∧ wr.rowIs (w.heap.size + 1) 26 32 (fun _ => .int .u8 0) ∧ Below w.heap.size w wr)
        (fun v _ => nl - (intOf v).toNat)
      case atStart => exact ⟨0, by omega, rfl, hH3, hR3, hB3⟩
      case round =>
        obtain ⟨i, hi, rfl, hH, hR, hB⟩ := hrel
        by_cases hlt : i < nl
        · have hd2 : decide ((i : Int) < (nl : Int)) = true := by simp; omega
          have hd1 : decide (i < nl) = true := by simp; omega
          have hii : (i : Int) < (nl : Int) := by omega
          obtain ⟨bl, ol, hAL, hbl, hcl⟩ := HP.out.row.resolve_left (by omega)
          have cr : wr.cell? ⟨bl, ol + i, none⟩ = some (.slice (A i) (L i) (C i)) := (hB.cell (p := ⟨bl, ol + i, none⟩) hbl).trans (hcl i hlt)
          clear hcl
          subst hAL
          go_wp2_with fail
          have hL1 := lenN_mono (L := L) (show i + 1 ≤ nl by omega)
          have hT := HT.out
          have hL2 : lenN L (i + 1) = lenN L i + L i := rfl
          refine (write_calls gH _ (64 + lenN L i) (A i) (L i) (C i) (Y i) (HP.out.lt i) (HP.out.cap i hlt) (by omega) (by omega) wr (kt_now HK.out hB) hH (src_now (HP.out.src i hlt) hB (by omega))).mono ?_
          rintro e w4 ⟨rfl, hH4, hb4⟩
          rw [cat_assoc, Nat.add_assoc] at hH4
          have hH5 : HashIs w4 gH (cat (fun j => k j ^^^ x) 64 (textN L Y (i + 1))) (64 + lenN L (i + 1)) := hH4
          clear hH4
          have hR4 := row_but hR hb4 (by omega)
          have hB4 := but_below hB hb4 (by omega)
          clear hR hB hH hb4 cr hT hL1 hL2
          go_wp2
          go_roundw
          case rel => exact ⟨i + 1, by omega, by go_num, hH5, hR4, hB4⟩
          case measure => simp [intOf]; omega
        · obtain rfl : i = nl := by omega
          go_wp2_with fail
          have hT := HT.out
          refine (hsum_calls gH _ _ (by omega) wr (kt_now HK.out hB) hH).mono ?_
          rintro e w4 ⟨rfl, hb4⟩
          have hR4 := row_below hR hb4 hR.lt
          have hB4 := hB.trans (hb4.mono hB.size)
          obtain ⟨y, hy⟩ : ∃ y, y = cat (fun j => k j ^^^ x) 64 (textN L Y i) := ⟨_, rfl⟩
          obtain ⟨n, hn⟩ : ∃ n, n = 64 + lenN L i := ⟨_, rfl⟩
          rw [← hy, ← hn]
          have HN := veil (blkOf hR4)
          have HZ := veil (And.intro (dgst_size y n) (And.intro (show (dgst y n).all (·.oneCell') = true from arrOf_one fun _ _ => rfl) (show (Tryd.prog.info? 26).map (·.size) = some (dgst y n).size by rw [dgst_size]; exact infoD)))
          obtain ⟨D, hD⟩ : ∃ D, D = dgst y n := ⟨_, rfl⟩
          rw [← hD] at HZ ⊢
          have HD := veil (show D = dgst (cat (fun j => k j ^^^ x) 64 (textN L Y i)) (64 + lenN L i) by rw [hD, hy, hn])
          clear hD hR4 hR hB hH hb4 hy hn hT hH3 hR3 hB3
          go_wp2_with ((with_reducible refine at_none ?_); refine wpList_store_row rfl 26 _ _ rfl (w.heap.size + 1) D rfl rfl 26 _ HN.out HZ.out.2.2 (by rw [HZ.out.1, arrOf_size]) HZ.out.2.1 ?_)
          exact bodyPost_ret (results_cell_row rfl _ _ (w.heap.size + 1) 26 D (0, 0) _ rfl (setRow_heap w4 (w.heap.size + 1) _ D 26 (0, 0) HN.out) Tryd.underlying26 rfl HZ.out.2.2) rfl ⟨by rw [HD.out], below_setRow hB4 (by omega) _⟩
end Go.Proofs.YthgenmoiendakaaDoor


/-
  mac.blockOf: a key's block.
-/
namespace Go.Proofs.YthgenmoiendakaaDoor
open Go.RowKit

/-- copy into the beginning of a row that is known whole, out of any slice (the empty one, too). -/
theorem wpList_copy_from {P : Program} {w : World} {ops : Array Oper} {rest : List Oper} {o : Oper} {a : Act} {Q : Exit → Act → World → Prop} (hgd : o.guard = none) (d s : Operand) (dT sT : TypeId)
    (ho : o.op = .call { callee := .builtin .copy, args := #[d, s], argTypes := #[dT, sT] }) (elem : TypeId) (hu : P.underlying dT = some (.slice elem)) (hsz : (P.info? elem).map (·.size) = some 1)
    (g dLen dCap : Nat) (A : Option Addr) (m c : Nat) (hd : a.eval d = .slice (some ⟨g, 0, none⟩) dLen dCap) (hs : a.eval s = .slice A m c)
    (t n : Nat) (f : Nat → Value) (hrow : w.rowIs g t n f) (hm : m ≤ dLen) (hfit : m ≤ n) (v : Nat → Value) (hsrc : From w A m v)
    (h1 : ∀ j, j < m → (v j).oneCell' = true)
    (h : ∀ w', But g w w' → w'.rowIs g t n (fun j => if j < m then v j else f j) → wpList P ops Q rest (a.put o.dst (goInt (m : Nat))) w') : wpList P ops Q (o :: rest) a w := by
  rcases hsrc with h0 | ⟨ad, rfl, hc⟩
  · subst h0
    exact wpList_copy_nothing hgd d s dT sT ho elem hu hsz _ A dLen dCap 0 c hd hs (by simp) (h w (But.refl _ _) (hrow.congr fun j _ => by rw [if_neg (by omega)]))
  · refine wpList_copy_row hgd d s dT sT ho elem hu hsz g 0 dLen dCap ad m c hd hs t n f hrow m (Nat.min_eq_left hm).symm v hc (by omega) h1 fun w' hb hr => h w' hb (hr.congr fun j _ => ?_)
    by_cases e : j < m
    · rw [if_pos ⟨by omega, by omega⟩, if_pos e]; rfl
    · rw [if_neg (by omega), if_neg e]
theorem info64 : (Tryd.prog.info? 70).map (·.size) = some 64 := by kernel_rfl
theorem zB64 : (#[.int .u8 0, .int .u8 0, .int .u8 0, .int .u8 0, .int .u8 0, .int .u8 0, .int .u8 0, .int .u8 0, .int .u8 0, .int .u8 0, .int .u8 0, .int .u8 0, .int .u8 0, .int .u8 0, .int .u8 0, .int .u8 0, .int .u8 0, .int .u8 0, .int .u8 0, .int .u8 0, .int .u8 0, .int .u8 0, .int .u8 0, .int .u8 0, .int .u8 0, .int .u8 0, .int .u8 0, .int .u8 0, .int .u8 0, .int .u8 0, .int .u8 0, .int .u8 0, .int .u8 0, .int .u8 0, .int .u8 0, .int .u8 0, .int .u8 0, .int .u8 0, .int .u8 0, .int .u8 0, .int .u8 0, .int .u8 0, .int .u8 0, .int .u8 0, .int .u8 0, .int .u8 0, .int .u8 0, .int .u8 0, .int .u8 0, .int .u8 0, .int .u8 0, .int .u8 0, .int .u8 0, .int .u8 0, .int .u8 0, .int .u8 0, .int .u8 0, .int .u8 0, .int .u8 0, .int .u8 0, .int .u8 0, .int .u8 0, .int .u8 0, .int .u8 0] : Array Value) = arrOf 64 (fun _ => .int .u8 0) := rfl

set_option maxRecDepth 100000 in
set_option maxHeartbeats 8000000 in
theorem blockOf_calls (A : Option Addr) (n c : Nat) (y : Nat → Nat) (hy : ∀ j, y j < 256) (hnc : n ≤ c) (hn : n ≤ 1048576) (w : World) (hK : KT w) (hS : Src w A n y w.heap.size) :
    Calls Tryd.prog 57 #[.slice A n c] w fun e w' => e = .returned (.agg (arrOf 64 fun j => .int .u8 (kb y n j : Nat))) ∧ Below w.heap.size w w' := by
  have HK := veil hK
  have HS := veil hS
  have HY := veil hy
  have hg0 := hK.lt
  clear hK hS hy
  go_enter Tryd.func57, Tryd.ntmps57
  go_upto_region 2 with (fail)
  rw [zB64]
  have hN0 := row_made w 64 70 (fun _ => Value.int .u8 0) rfl
  have hb0 : Below w.heap.size w (w.alloc (.cells (arrOf 64 (fun _ => .int .u8 0)) 70)) := (Below.refl _ _).alloc (Nat.le_refl _) _
  have hz0 : (w.alloc (.cells (arrOf 64 (fun _ => .int .u8 0)) 70)).heap.size = w.heap.size + 1 := by simp
  generalize w.alloc (.cells (arrOf 64 (fun _ => .int .u8 0)) 70) = w0 at *
  have hR1 := row_made w0 64 70 (fun _ => Value.int .u8 0) rfl
  rw [hz0] at hR1
  have hN1 := hN0.alloc (.cells (arrOf 64 (fun _ => .int .u8 0)) 70)
  have hb1 := hb0.alloc hb0.size (.cells (arrOf 64 (fun _ => .int .u8 0)) 70)
  have hz1 : (w0.alloc (.cells (arrOf 64 (fun _ => .int .u8 0)) 70)).heap.size = w.heap.size + 1 + 1 := by simp [hz0]
  generalize w0.alloc (.cells (arrOf 64 (fun _ => .int .u8 0)) 70) = w1 at *
  clear hN0 hb0 hz0
  have hzle : w.heap.size + 1 < w1.heap.size := by omega
  by_cases hlong : n > 64
  · have hil : (64 : Int) < (n : Int) := by omega
    go_wp2_with fail
    refine (sum_calls A n c y HY.out hnc hn w1 (kt_now HK.out hb1) (src_now HS.out hb1 (by omega))).mono ?_
    rintro e w3 ⟨rfl, hb3⟩
    have HZ := veil (And.intro (dgst_size y n) (And.intro (show (dgst y n).all (·.oneCell') = true from arrOf_one fun _ _ => rfl) (show (Tryd.prog.info? 26).map (·.size) = some (dgst y n).size by rw [dgst_size]; exact infoD)))
    have hR3 := row_below hR1 hb3 (by omega)
    have hN3 := row_below hN1 hb3 (by omega)
    have hB3 := hb1.trans (hb3.mono (by omega))
    have hz3 := hb3.size
    obtain ⟨D, hD⟩ : ∃ D, D = dgst y n := ⟨_, rfl⟩
    rw [← hD] at HZ ⊢
    have HD := veil hD
    clear hD hR1 hN1 hb1 hb3
    go_upto_region 4 with ((with_reducible refine at_none ?_); refine wpList_store_row rfl 26 _ _ rfl w3.heap.size D rfl rfl 26 _ (heap_alloc_last w3 _) HZ.out.2.2 (by rw [HZ.out.1]; rfl) HZ.out.2.1 ?_; rw [World.setRow_alloc_new])
    have hD4 : (w3.alloc (.cells D 26)).rowIs w3.heap.size 26 32 (fun j => .int .u8 (dByte (shaSt y n) j : Nat)) := by rw [HD.out]; exact row_made w3 32 26 _ rfl
    have hR4 := hR3.alloc (.cells D 26)
    have hN4 := hN3.alloc (.cells D 26)
    have hB4 := hB3.alloc hB3.size (.cells D 26)
    generalize w3.alloc (.cells D 26) = w4 at *
    generalize w3.heap.size = g4 at *
    obtain ⟨t, ht⟩ : ∃ t, t = fun j => dByte (shaSt y n) j := ⟨_, rfl⟩
    have HSR := veil (show From w4 (some ⟨g4, 0, none⟩) 32 (fun j => .int .u8 (t j : Nat)) from .inr ⟨_, rfl, fun j hj => by rw [Addr.add_mid, Nat.zero_add, ht]; exact hD4.cell hj⟩)
    have HT := veil (show ∀ j, j < 64 → (if j < 32 then Value.int .u8 (t j : Nat) else .int .u8 0) = .int .u8 (kb y n j : Nat) from fun j _ => by
      unfold kb upTo
      rw [if_pos hlong, ht]
      split <;> rfl)
    have HR := veil hR4
    have HN := veil hN4
    have HB := veil hB4
    clear hR4 hN4 hB4 hD4 ht hR3 hN3 hB3 hil
    obtain ⟨E, hE⟩ : ∃ E, E = arrOf 64 (fun j => Value.int .u8 (kb y n j : Nat)) := ⟨_, rfl⟩
    have hEs : E.size = 64 := by rw [hE, arrOf_size]
    have hE1 : E.all (·.oneCell') = true := by rw [hE]; exact arrOf_one fun _ _ => rfl
    have HEI := veil (And.intro hEs (And.intro hE1 (show (Tryd.prog.info? 70).map (·.size) = some E.size by rw [hEs]; exact info64)))
    have HE := veil hE
    clear hE hEs hE1
    go_wp2_with (first
      | ((with_reducible refine at_slot 13 ?_); refine wpList_copy_from rfl _ _ 40 40 rfl 5 Tryd.underlying40 infoB (w.heap.size + 1) 64 64 (some ⟨g4, 0, none⟩) 32 32 rfl rfl 70 64 _ HR.out (by omega) (by omega) (fun j => .int .u8 (t j : Nat)) HSR.out (fun _ _ => rfl) ?_; intro w6 hb6 hr6; have hr6 : w6.rowIs (w.heap.size + 1) 70 64 (fun j => Value.int .u8 (kb y n j : Nat)) := hr6.congr HT.out; have hR6 := blkOf hr6; rw [← HE.out] at hR6; have hR6 := veil hR6; have hN6 := veil (blkOf (row_but HN.out hb6 (by omega))); have hB6 := veil (HB.out.trans (But.new hb6 (B := w.heap.size) (by omega) HB.out.size)); clear hb6 hr6)
      | ((with_reducible refine at_slot 14 ?_); refine wpList_load_row rfl 70 _ rfl (w.heap.size + 1) rfl 70 E (0, 0) _ hR6.out Tryd.underlying70 rfl HEI.out.2.2 ?_)
      | ((with_reducible refine at_none ?_); refine wpList_store_row rfl 70 _ _ rfl w.heap.size E rfl rfl 70 _ hN6.out HEI.out.2.2 (by rw [HEI.out.1, arrOf_size]) HEI.out.2.1 ?_))
    exact bodyPost_ret (results_cell_row rfl _ _ w.heap.size 70 E (0, 0) _ rfl (setRow_heap w6 w.heap.size _ E 70 (0, 0) hN6.out) Tryd.underlying70 rfl HEI.out.2.2) rfl ⟨by rw [HE.out], below_setRow hB6.out (Nat.le_refl _) _⟩
  · have hil : ¬ ((64 : Int) < (n : Int)) := by omega
    have HSR := veil (from_now HS.out hb1)
    have HT := veil (show ∀ j, j < 64 → (if j < n then Value.int .u8 (y j : Nat) else .int .u8 0) = .int .u8 (kb y n j : Nat) from fun j _ => by
      unfold kb upTo
      rw [if_neg hlong]
      split <;> rfl)
    have HR := veil hR1
    have HN := veil hN1
    have HB := veil hb1
    clear hR1 hN1 hb1
    obtain ⟨E, hE⟩ : ∃ E, E = arrOf 64 (fun j => Value.int .u8 (kb y n j : Nat)) := ⟨_, rfl⟩
    have hEs : E.size = 64 := by rw [hE, arrOf_size]
    have hE1 : E.all (·.oneCell') = true := by rw [hE]; exact arrOf_one fun _ _ => rfl
    have HEI := veil (And.intro hEs (And.intro hE1 (show (Tryd.prog.info? 70).map (·.size) = some E.size by rw [hEs]; exact info64)))
    have HE := veil hE
    clear hE hEs hE1
    go_wp2_with (first
      | ((with_reducible refine at_slot 13 ?_); refine wpList_copy_from rfl _ _ 40 40 rfl 5 Tryd.underlying40 infoB (w.heap.size + 1) 64 64 A n c rfl rfl 70 64 _ HR.out (by omega) (by omega) (fun j => .int .u8 (y j : Nat)) HSR.out (fun _ _ => rfl) ?_; intro w6 hb6 hr6; have hr6 : w6.rowIs (w.heap.size + 1) 70 64 (fun j => Value.int .u8 (kb y n j : Nat)) := hr6.congr HT.out; have hR6 := blkOf hr6; rw [← HE.out] at hR6; have hR6 := veil hR6; have hN6 := veil (blkOf (row_but HN.out hb6 (by omega))); have hB6 := veil (HB.out.trans (But.new hb6 (B := w.heap.size) (by omega) HB.out.size)); clear hb6 hr6)
      | ((with_reducible refine at_slot 14 ?_); refine wpList_load_row rfl 70 _ rfl (w.heap.size + 1) rfl 70 E (0, 0) _ hR6.out Tryd.underlying70 rfl HEI.out.2.2 ?_)
      | ((with_reducible refine at_none ?_); refine wpList_store_row rfl 70 _ _ rfl w.heap.size E rfl rfl 70 _ hN6.out HEI.out.2.2 (by rw [HEI.out.1, arrOf_size]) HEI.out.2.1 ?_))
    exact bodyPost_ret (results_cell_row rfl _ _ w.heap.size 70 E (0, 0) _ rfl (setRow_heap w6 w.heap.size _ E 70 (0, 0) hN6.out) Tryd.underlying70 rfl HEI.out.2.2) rfl ⟨by rw [HE.out], below_setRow hB6.out (Nat.le_refl _) _⟩
end Go.Proofs.YthgenmoiendakaaDoor


/-
  mac.Of: the code of a text in parts.
-/
namespace Go.Proofs.YthgenmoiendakaaDoor
open Go.RowKit

theorem text_one (t : Nat → Nat) : textN (fun _ => 32) (fun _ => t) 1 = t := cat_none _ t
/-- One part of 32 bytes in a block of its own. -/
theorem parts_one {W : World} {b g : Nat} {t : Nat → Nat} (ht : ∀ j, t j < 256) (hb : W.cell? ⟨b, 0, none⟩ = some (.slice (some ⟨g, 0, none⟩) 32 32)) (hg : g < W.heap.size) (hc : ∀ j, j < 32 → W.cell? ⟨g, j, none⟩ = some (.int .u8 (t j : Nat))) :
    Parts3 W (some ⟨b, 0, none⟩) 1 (fun _ => some ⟨g, 0, none⟩) (fun _ => 32) (fun _ => 32) (fun _ => t) where
  row := .inr ⟨b, 0, rfl, World.block_lt_of_cell? W _ hb, fun r hr => by obtain rfl : r = 0 := by omega
                                                                         exact hb⟩
  src := fun r hr => .inr ⟨g, 0, rfl, hg, by omega, fun j hj => by rw [Nat.zero_add]; exact hc j hj⟩
  cap := fun _ _ => Nat.le_refl _
  lt := fun _ => ht
set_option maxRecDepth 100000 in
set_option maxHeartbeats 8000000 in
theorem ofmac_calls (K : Option Addr) (n c : Nat) (y : Nat → Nat) (hy : ∀ j, y j < 256) (hnc : n ≤ c) (hn : n ≤ 1048576) (AL : Option Addr) (nl cl : Nat) (A : Nat → Option Addr) (L C : Nat → Nat) (Y : Nat → Nat → Nat) (hnl : nl ≤ 100000) (hT : lenN L nl ≤ 100000)
    (w : World) (hK : KT w) (hS : Src w K n y w.heap.size) (hP : Parts3 w AL nl A L C Y) :
    Calls Tryd.prog 42 #[.slice K n c, .slice AL nl cl] w fun e w' => e = .returned (.agg (macD y n (textN L Y nl) (lenN L nl))) ∧ Below w.heap.size w w' := by
  have HK := veil hK
  have HS := veil hS
  have HY := veil hy
  have HP := veil hP
  have HT := veil (And.intro hT hnl)
  have hg0 := hK.lt
  clear hK hS hy hP hT hnl
  go_enter Tryd.func42, Tryd.ntmps42
  go_upto_region 1 with (fail)
  rw [zeros32]
  have hR1 := row_made w 32 26 (fun _ => Value.int .u8 0) rfl
  have hb1 : Below w.heap.size w (w.alloc (.cells (arrOf 32 (fun _ => .int .u8 0)) 26)) := (Below.refl _ _).alloc (Nat.le_refl _) _
  generalize w.alloc (.cells (arrOf 32 (fun _ => .int .u8 0)) 26) = w1 at *
  go_wp2_with fail
  refine (blockOf_calls K n c y HY.out hnc hn w1 (kt_now HK.out hb1) (src_now HS.out hb1 hb1.size)).mono ?_
  rintro e w2 ⟨rfl, hb2⟩
  have hR2 := row_below hR1 hb2 hR1.lt
  have hB2 := hb1.trans (hb2.mono hb1.size)
  have hlt2 := hR2.lt
  obtain ⟨E, hE⟩ : ∃ E, E = arrOf 64 (fun j => Value.int .u8 (kb y n j : Nat)) := ⟨_, rfl⟩
  have hEs : E.size = 64 := by rw [hE, arrOf_size]
  have hE1 : E.all (·.oneCell') = true := by rw [hE]; exact arrOf_one fun _ _ => rfl
  have HEI := veil (And.intro hEs (And.intro hE1 (show (Tryd.prog.info? 70).map (·.size) = some E.size by rw [hEs]; exact info64)))
  rw [← hE]
  have HE := veil hE
  clear hE hEs hE1 hR1 hb1 hb2
  have HM1 := veil (fun W (hk : KT W) (hp : Parts3 W AL nl A L C Y) => masked_calls (kb y n) (kb_lt HY.out n) 54 (by decide) AL nl cl A L C Y HT.out.2 HT.out.1 W hk hp)
  have HM2 := veil (fun W g d (t : Nat → Nat) (ht : ∀ j, t j < 256) (hk : KT W) (hp : Parts3 W (some ⟨g, 0, none⟩) 1 (fun _ => some ⟨d, 0, none⟩) (fun _ => 32) (fun _ => 32) (fun _ => t)) =>
    masked_calls (kb y n) (kb_lt HY.out n) 92 (by decide) (some ⟨g, 0, none⟩) 1 1 (fun _ => some ⟨d, 0, none⟩) (fun _ => 32) (fun _ => 32) (fun _ => t) (by decide) (by decide) W hk hp)
  rw [← HE.out] at HM1 HM2
  go_upto_region 2 with ((with_reducible refine at_none ?_); refine wpList_store_row rfl 70 _ _ rfl w2.heap.size E rfl rfl 70 _ (heap_alloc_last w2 _) HEI.out.2.2 (by rw [HEI.out.1]; rfl) HEI.out.2.1 ?_; rw [World.setRow_alloc_new])
  have hE3 : (w2.alloc (.cells E 70)).heap[w2.heap.size]? = some (.cells E 70 (0, 0)) := heap_alloc_last w2 _
  have hR3 := hR2.alloc (.cells E 70)
  have hB3 := hB2.alloc hB2.size (.cells E 70)
  have hlt3 : w2.heap.size < (w2.alloc (.cells E 70)).heap.size := by simp
  generalize w2.alloc (.cells E 70) = w3 at *
  generalize hg5 : w2.heap.size = g5 at *
  clear hR2 hB2 hg5
  obtain ⟨D, hD⟩ : ∃ D, D = dgst (macIn y n (textN L Y nl)) (64 + lenN L nl) := ⟨_, rfl⟩
  have HZ := veil (And.intro (dgst_size (macIn y n (textN L Y nl)) (64 + lenN L nl)) (And.intro (show (dgst (macIn y n (textN L Y nl)) (64 + lenN L nl)).all (·.oneCell') = true from arrOf_one fun _ _ => rfl) (show (Tryd.prog.info? 26).map (·.size) = some (dgst (macIn y n (textN L Y nl)) (64 + lenN L nl)).size by rw [dgst_size]; exact infoD)))
  have HM1' := veil (show ∀ W, KT W → Parts3 W AL nl A L C Y → Calls Tryd.prog 58 #[.agg E, .int .u8 54, .slice AL nl cl] W fun e W' => e = .returned (.agg D) ∧ Below W.heap.size W W' from by rw [hD]; exact HM1.out)
  rw [← hD] at HZ
  have HD := veil hD
  have HE3 := veil hE3
  have H3 := veil (And.intro hR3 hB3)
  clear hD HM1 hE3 hR3 hB3
  go_upto_region 3 with (first
    | ((with_reducible refine at_slot 9 ?_); refine wpList_load_row rfl 70 _ rfl g5 rfl 70 E (0, 0) _ HE3.out Tryd.underlying70 rfl HEI.out.2.2 ?_)
    | (go_at_call 58; refine (HM1'.out w3 (kt_now HK.out H3.out.2) (HP.out.call H3.out.2)).mono ?_; rintro e w4 ⟨rfl, hb4⟩)
    | ((with_reducible refine at_none ?_); refine wpList_store_row rfl 26 _ _ rfl w4.heap.size D rfl rfl 26 _ (heap_alloc_last w4 _) HZ.out.2.2 (by rw [HZ.out.1]; rfl) HZ.out.2.1 ?_; rw [World.setRow_alloc_new]))
  have hE5 : (w4.alloc (.cells D 26)).heap[g5]? = some (.cells E 70 (0, 0)) := ((Below.heap_alloc _ _ _ (by have := hb4.size; omega)).trans (hb4.block g5 hlt3)).trans HE3.out
  have hR5 := (row_below H3.out.1 hb4 (by omega)).alloc (.cells D 26)
  have hB5 := (H3.out.2.trans (hb4.mono H3.out.2.size)).alloc (H3.out.2.trans (hb4.mono H3.out.2.size)).size (.cells D 26)
  have hD5 : (w4.alloc (.cells D 26)).rowIs w4.heap.size 26 32 (fun j => .int .u8 (dByte (shaSt (macIn y n (textN L Y nl)) (64 + lenN L nl)) j : Nat)) := by rw [HD.out]; exact row_made w4 32 26 _ rfl
  have hlt4 : g5 < w4.heap.size := by have := hb4.size; omega
  have hlt5 : w4.heap.size < (w4.alloc (.cells D 26)).heap.size := by simp
  generalize w4.alloc (.cells D 26) = w5 at *
  generalize hg6 : w4.heap.size = g6 at *
  clear hb4 H3 HE3 HM1' hg6
  obtain ⟨t, ht⟩ : ∃ t, t = fun j => dByte (shaSt (macIn y n (textN L Y nl)) (64 + lenN L nl)) j := ⟨_, rfl⟩
  have hD5 : w5.rowIs g6 26 32 (fun j => .int .u8 (t j : Nat)) := by rw [ht]; exact hD5
  obtain ⟨F, hF⟩ : ∃ F, F = macD y n (textN L Y nl) (lenN L nl) := ⟨_, rfl⟩
  have HF := veil (show F.size = 32 ∧ F.all (·.oneCell') = true ∧ (Tryd.prog.info? 26).map (·.size) = some F.size from by
    rw [hF]; exact ⟨dgst_size _ _, arrOf_one fun _ _ => rfl, by show _ = some (dgst _ _).size; rw [dgst_size]; exact infoD⟩)
  have HM3 := veil (show ∀ W g, KT W → But w.heap.size w5 W → W.cell? ⟨g, 0, none⟩ = some (.slice (some ⟨g6, 0, none⟩) 32 32) → Calls Tryd.prog 58 #[.agg E, .int .u8 92, .slice (some ⟨g, 0, none⟩) 1 1] W fun e W' => e = .returned (.agg F) ∧ Below W.heap.size W W' from fun W g hk hbt hc => by
    have h := HM2.out W g g6 t (fun j => by rw [ht]; exact dByte_lt _ j) hk (parts_one (fun j => by rw [ht]; exact dByte_lt _ j) hc (by have := hbt.size; omega) (fun j hj => (World.cell?_of_block (a := ⟨g6, j, none⟩) (hbt.block g6 hlt5 (by simp; omega))).trans (hD5.cell hj)))
    rw [text_one, ht] at h
    rw [hF]
    exact h)
  have HFF := veil hF
  have hrg : w5.rangeAt g5 0 E.toList := fun j v hv => by
    rw [Nat.zero_add, cell_of_row w5 g5 j E 70 (0, 0) hE5]
    simpa using hv
  have HN := veil hR5
  have hoF : ∀ v ∈ F.toList, v.oneCell' = true := fun v hv => (Array.all_eq_true_iff_forall_mem.1 HF.out.2.1) v (by simpa using hv)
  have hiF : (Tryd.prog.info? 26).map (·.size) = some F.toList.length := by rw [Array.length_toList]; exact HF.out.2.2
  have HK5 := veil (And.intro (kt_now HK.out hB5) hB5)
  have hu := Tryd.underlying70
  have hii : (Tryd.prog.info? 70).map (·.size) = some E.toList.length := by rw [Array.length_toList]; exact HEI.out.2.2
  have hl64 : E.toList.length = 64 := by rw [Array.length_toList]; exact HEI.out.1
  have hone : ∀ v ∈ E.toList, v.oneCell' = true := fun v hv => (Array.all_eq_true_iff_forall_mem.1 HEI.out.2.1) v (by simpa using hv)
  have hT : E.toList.toArray = E := by simp
  obtain ⟨Z, hZ⟩ : ∃ Z, Z = E.toList := ⟨_, rfl⟩
  rw [← hZ] at hii hl64 hone hT hrg
  have hg5 : g5 < w5.heap.size := by omega
  clear hZ hF ht hD5 HM2 hE5 hR5 hB5 HE HD HZ HEI
  have hS0 : w5.rangeAt g5 0 Z ∧ But w.heap.size w5 w5 := ⟨hrg, But.refl _ _⟩
  go_region_held3 (fun w' => w'.rangeAt g5 0 Z ∧ But w.heap.size w5 w')
    (first
      | with_reducible assumption
      | exact hS0
      | exact keepD hS0
      | exact keepD (keepA hg5 hS0)
      | exact keepC hb' hgW (by assumption)
      | exact keepS (Nat.ne_of_gt hlt2) (by assumption))
    (first
      | (go_at_call 58; have hgW := (show g5 < (w5.alloc (.cells #[.slice (some ⟨g6, 0, none⟩) 32 32] 40)).drew.heap.size from by simp [World.drew]; omega); refine (HM3.out _ w5.heap.size ((HK5.out.1.alloc _).drew) (But.alloc (But.refl _ w5) _).drew (by rw [World.cell?_drew, World.cell?_alloc_mark]; rfl)).mono ?_; rintro e w' ⟨rfl, hb'⟩; have hN' := veil (row_below (row_drewN (HN.out.alloc (.cells #[.slice (some ⟨g6, 0, none⟩) 32 32] 40)) 1) hb' (by omega)); have hth := there_row hN'.out (show F.toList.length = 32 by rw [Array.length_toList]; exact HF.out.1)))
  rename (_ ∧ But _ _ _) => hHeld
  clear hu hrg hT hone hl64 hii hS0 hoF hiF hth
  go_wp2
  exact bodyPost_ret (results_cell_row rfl _ _ w.heap.size 26 F (0, 0) _ rfl (blk_setCells hN'.out HF.out.1) Tryd.underlying26 rfl HF.out.2.2) rfl ⟨by rw [HFF.out], HK5.out.2.trans (But.new hHeld.2 (B := w.heap.size) (Nat.le_refl _) HK5.out.2.size)⟩
end Go.Proofs.YthgenmoiendakaaDoor
