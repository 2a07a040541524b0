/-
  Of SBits HBase SWords HRot HWords HMix HWrite HPad HSum SSumA M1.
-/
import Derived.Test.YtihophdbkjhopaaDoorRows
import Derived.WalkKit
import Derived.Deep.MidRow
import Derived.Deep.WholeRow
import Derived.ChangeKeysEq
import Derived.WalkSpells
import Derived.WalkLawsBesides
import Derived.Deep.LoopGhost
import Derived.BigQuiet
import Derived.Deep.QuietTactic
import Derived.Deep.RegionWith
import Derived.Deep.Cut
import Derived.Deep.CutRange
import Derived.Deep.RegionHeld3
import Derived.StillTailTactics
import Derived.IntWalk
import Derived.Laws.CopyOwn
import Derived.Deep.OwnRows
import Derived.Deep.CutBlock
import Derived.Test.YtihophdbkjhopaaDoorZL6
import Derived.Test.YtihophdbkjhopaaDoorZL1
import Derived.Test.YtihophdbkjhopaaDoorZL2
set_option maxRecDepth 1000000
set_option maxHeartbeats 20000000
namespace Go.Proofs.YtihophdbkjhopaaDoor
theorem wrap32 (n : Int) : IntKind.u32.wrap n = n % 4294967296:=by simp [IntKind.wrap,IntKind.signed,IntKind.bits]
section
variable (a b : Nat) (ha : a < 4294967296) (hb : b < 4294967296)
include ha hb
theorem ofInt32 : (BitVec.ofInt 32 (a : Int)).toNat = a ∧ (BitVec.ofInt 32 (b : Int)).toNat = b:=by
 constructor <;> (rw [BitVec.ofInt_natCast,BitVec.toNat_ofNat]; exact Nat.mod_eq_of_lt (by omega))
theorem and32 : bits .and .u32 (a : Int) (b : Int) = ((a &&& b : Nat) : Int):=by
 have hx : a &&& b < 2 ^ 32:=Nat.and_lt_two_pow _ (by omega)
 show IntKind.u32.wrap ((BitVec.ofInt 32 (a : Int) &&& BitVec.ofInt 32 (b : Int)).toNat : Int) = _
 rw [BitVec.toNat_and,(ofInt32 a b ha hb).1,(ofInt32 a b ha hb).2,wrap32]
 omega
theorem or32 : bits .or .u32 (a : Int) (b : Int) = ((a ||| b : Nat) : Int):=by
 have hx : a ||| b < 2 ^ 32:=Nat.or_lt_two_pow (by omega) (by omega)
 show IntKind.u32.wrap ((BitVec.ofInt 32 (a : Int) ||| BitVec.ofInt 32 (b : Int)).toNat : Int) = _
 rw [BitVec.toNat_or,(ofInt32 a b ha hb).1,(ofInt32 a b ha hb).2,wrap32]
 omega
theorem xor32 : bits .xor .u32 (a : Int) (b : Int) = ((a ^^^ b : Nat) : Int):=by
 have hx : a ^^^ b < 2 ^ 32:=Nat.xor_lt_two_pow (by omega) (by omega)
 show IntKind.u32.wrap ((BitVec.ofInt 32 (a : Int) ^^^ BitVec.ofInt 32 (b : Int)).toNat : Int) = _
 rw [BitVec.toNat_xor,(ofInt32 a b ha hb).1,(ofInt32 a b ha hb).2,wrap32]
 omega
end
theorem not_bit {x : Nat} (hx : x < 2 ^ 32) (i : Nat) : (4294967295 - x).testBit i = (decide (i < 32) && !x.testBit i):=by
 have h:=Nat.testBit_two_pow_sub_succ hx i
 rwa [show 2 ^ 32 - (x + 1) = 4294967295 - x by omega] at h
theorem rot_or {x n : Nat} (hn : n ≤ 32) (hx : x < 2 ^ 32) : rot x n = (x / 2 ^ n) ||| (x * 2 ^ (32 - n) % 2 ^ 32):=by
 have hp : 0 < 2 ^ n:=Nat.pow_pos (by omega)
 have e : 2 ^ 32 = 2 ^ (32 - n) * 2 ^ n:=by rw [← Nat.pow_add]; congr 1; omega
 have hq : x / 2 ^ n < 2 ^ (32 - n):=by rw [Nat.div_lt_iff_lt_mul hp,← e]; exact hx
 have h1 : x * 2 ^ (32 - n) % 2 ^ 32 = 2 ^ (32 - n) * (x % 2 ^ n):=by rw [e,Nat.mul_comm x,Nat.mul_mod_mul_left]
 rw [h1,Nat.or_comm,← Nat.two_pow_add_eq_or_of_lt hq]
 unfold rot
 omega
/-! ### all is below 2^32 -/
theorem ad_lt (x y : Nat) : ad x y < 2 ^ 32:=Nat.mod_lt _ (by decide)
theorem shr_lt {x : Nat} (n : Nat) (hx : x < 2 ^ 32) : x / 2 ^ n < 2 ^ 32:=Nat.lt_of_le_of_lt (Nat.div_le_self _ _) hx
theorem wt_lt {m : Nat → Nat} (hm : ∀ t,t < 16 → m t < 2 ^ 32) (t : Nat) : wt m t < 2 ^ 32:=by
 by_cases h : t < 16
 ·
  rw [wt_lo m h]; exact hm t h
 ·
  rw [wt_hi m h]; exact ad_lt _ _
structure St.Ok (s : St) : Prop where
 a : s.a < 2 ^ 32
 b : s.b < 2 ^ 32
 c : s.c < 2 ^ 32
 d : s.d < 2 ^ 32
 e : s.e < 2 ^ 32
 f : s.f < 2 ^ 32
 g : s.g < 2 ^ 32
 h : s.h < 2 ^ 32
theorem stepN_ok {s : St} (h : s.Ok) (k w : Nat) : (stepN s k w).Ok:=⟨ad_lt _ _,h.a,h.b,h.c,ad_lt _ _,h.e,h.f,h.g⟩
theorem roundsN_ok {m : Nat → Nat} {s : St} (h : s.Ok) : ∀ t,(roundsN m s t).Ok
 | 0 => h
 | t + 1 => stepN_ok (roundsN_ok h t) _ _
theorem blockN_ok (m : Nat → Nat) (s : St) : (blockN m s).Ok:=⟨ad_lt _ _,ad_lt _ _,ad_lt _ _,ad_lt _ _,ad_lt _ _,ad_lt _ _,ad_lt _ _,ad_lt _ _⟩
theorem blocksN_ok (text : Nat → Nat) : ∀ n,(blocksN text n).Ok
 | 0 => by constructor <;> (show _ < _; simp [blocksN])
 | n + 1 => blockN_ok _ _
theorem zfd {f g : Nat → Nat} : ∀ n,(∀ i,i < 64 * n → f i = g i) → blocksN f n = blocksN g n
 | 0,_ => rfl
 | n + 1,h => by
  have ih:=zfd n fun i hi => h i (by omega)
  have hw : ∀ t,t < 16 → word f (64 * n + 4 * t) = word g (64 * n + 4 * t):=by
   intro t ht
   unfold word
   rw [h _ (by omega),h _ (by omega),h _ (by omega),h _ (by omega)]
  have hs : ∀ k,sched (fun t => word f (64 * n + 4 * t)) k = sched (fun t => word g (64 * n + 4 * t)) k:=by
   intro k
   induction k with
   | zero => simp only [sched]
   | succ k ihk =>
    simp only [sched]
    rw [ihk]
    by_cases hk : k < 16
    ·
     simp only [if_pos hk]; rw [hw k hk]
    ·
     simp only [if_neg hk]
  have hr : ∀ s k,roundsN (fun t => word f (64 * n + 4 * t)) s k = roundsN (fun t => word g (64 * n + 4 * t)) s k:=by
   intro s k
   induction k with
   | zero => simp only [roundsN]
   | succ k ihk =>
    simp only [roundsN]
    rw [ihk]; unfold wt; rw [hs]
  simp only [blocksN]
  rw [ih]; unfold blockN; rw [hr]
end Go.Proofs.YtihophdbkjhopaaDoor
namespace Go.Proofs.YtihophdbkjhopaaDoor
open Go.RowKit
open Go.Value renaming int → vI
open Go.IntKind renaming u64 → vU
open Go.Act renaming put → aP
open List renaming setIfInBounds_toArray → lA, set_cons_zero → lZ, set_cons_succ → lS
def St.at (s : St) (j : Nat) : Nat:=match j with | 0 => s.a | 1 => s.b | 2 => s.c | 3 => s.d | 4 => s.e | 5 => s.f | 6 => s.g | _ => s.h
def hcells (s : St) (blk : Nat → Nat) (len : Nat) : Nat → Value:=fun j => if j < 8 then .int .u32 (s.at j : Nat) else if j < 72 then .int .u8 (blk (j - 8) : Nat) else .int .i64 (len : Int)
def HRow (w : World) (g : Nat) (s : St) (blk : Nat → Nat) (len : Nat) : Prop:=w.rowIs g 111 73 (hcells s blk len)
section
variable {w w' : World} {g B len : Nat} {s : St} {blk : Nat → Nat}
theorem HRow.lt (h : HRow w g s blk len) : g < w.heap.size:=World.rowIs.lt h
theorem HRow.below (h : HRow w g s blk len) (hb : Below B w w') (hlt : g < B) : HRow w' g s blk len:=zaa h hb hlt
theorem HRow.call (h : HRow w g s blk len) (hb : Below w.heap.size w w') : HRow w' g s blk len:=zaa h hb h.lt
theorem HRow.alloc (h : HRow w g s blk len) (o : Obj) : HRow (w.alloc o) g s blk len:=World.rowIs.alloc h o
theorem HRow.drew (h : HRow w g s blk len) : HRow w.drew g s blk len:=h
theorem HRow.drewN (h : HRow w g s blk len) (k : Nat) : HRow (w.drewN k) g s blk len:=h
theorem HRow.of_block (h : HRow w g s blk len) (e : w'.heap[g]? = w.heap[g]?) : HRow w' g s blk len:=World.rowIs.of_block h e
theorem HRow.state (h : HRow w g s blk len) {j : Nat} (hj : j < 8) : w.cell? ⟨g,j,none⟩ = some (.int .u32 (s.at j : Nat)):=by
 rw [World.rowIs.cell h (show j < 73 by omega),hcells,if_pos hj]
theorem HRow.byte (h : HRow w g s blk len) {j : Nat} (hj : j < 64) : w.cell? ⟨g,8 + j,none⟩ = some (.int .u8 (blk j : Nat)):=by
 rw [World.rowIs.cell h (show 8 + j < 73 by omega),hcells,if_neg (by omega),if_pos (by omega),show 8 + j - 8 = j by omega]
theorem HRow.length (h : HRow w g s blk len) : w.cell? ⟨g,72,none⟩ = some (.int .i64 (len : Int)):=by
 rw [World.rowIs.cell h (show 72 < 73 by omega),hcells,if_neg (by omega),if_neg (by omega)]
theorem HRow.block (h : HRow w g s blk len) : w.rangeAt g 8 ((List.range 64).map fun j => Value.int .u8 (blk j : Nat)):=by
 intro j v hv
 have hj : j < 64:=by simpa using (List.getElem?_eq_some_iff.1 hv).1
 rw [h.byte hj,← hv]
 simp [hj]
theorem HRow.words (h : HRow w g s blk len) : w.rangeAt g 0 ((List.range 8).map fun j => Value.int .u32 (s.at j : Nat)):=by
 intro j v hv
 have hj : j < 8:=by simpa using (List.getElem?_eq_some_iff.1 hv).1
 rw [Nat.zero_add,h.state hj,← hv]
 simp [hj]
end
structure KT (w : World) : Prop where
 lt : 0 < w.heap.size
 cell : ∀ j,j < 64 → w.cell? ⟨0,j,none⟩ = some (.int .u32 (kc j : Nat))
section
variable {w w' : World} {B : Nat}
theorem KT.of_block (h : KT w) (e : w'.heap[0]? = w.heap[0]?) (hs : w.heap.size ≤ w'.heap.size) : KT w' :=
 ⟨Nat.lt_of_lt_of_le h.lt hs,fun j hj => (World.cell?_of_block (w:=w) (a:=⟨0,j,none⟩) e).trans (h.cell j hj)⟩
theorem KT.below (h : KT w) (hb : Below B w w') (hB : 0 < B) : KT w':=h.of_block (hb.block 0 hB) hb.size
theorem KT.call (h : KT w) (hb : Below w.heap.size w w') : KT w':=h.below hb h.lt
theorem KT.alloc (h : KT w) (o : Obj) : KT (w.alloc o):=h.of_block (Below.heap_alloc _ _ _ h.lt) (by simp)
theorem KT.drew (h : KT w) : KT w.drew:=⟨h.lt,h.cell⟩
theorem KT.drewN (h : KT w) (k : Nat) : KT (w.drewN k):=⟨h.lt,h.cell⟩
theorem KT.far {b i : Nat} (h : KT w) (hne : 0 ≠ b) (v : Value) : KT (w.setCell ⟨b,i,none⟩ v):=h.of_block (Below.heap_setCell _ _ _ _ hne) (by simp [World.setCell])
theorem KT.grown {r : Nat} (h : KT w) (hg : w.grownBy w' (some r)) (hne : 0 ≠ r) : KT w':=h.of_block (hg.block 0 h.lt (by simpa using hne)) hg.size
end
theorem veil32 {p : Prop} (h : p) : Hid p:=h
theorem neg_and : ∀ n : Fin 32,n.1 ≠ 0 → bits .and .u64 (IntKind.u64.wrap (-(n.1 : Int))) 31 = 32 - (n.1 : Int):=by decide
theorem rot_bits {x n : Nat} (hx : x < 2 ^ 32) (hn : n < 32) : bits .or .u32 ((x : Int) * 2 ^ (32 - n) % 4294967296) ((x : Int) / 2 ^ (32 - (32 - n))) = ((rot x n : Nat) : Int):=by
 have e : 32 - (32 - n) = n:=by omega
 have e1 : (x : Int) * 2 ^ (32 - n) % 4294967296 = ((x * 2 ^ (32 - n) % 2 ^ 32 : Nat) : Int):=by
  rw [Int.natCast_emod,Int.natCast_mul,Int.natCast_pow]; rfl
 have e2 : (x : Int) / 2 ^ n = ((x / 2 ^ n : Nat) : Int):=by
  rw [Int.natCast_ediv,Int.natCast_pow]; rfl
 rw [e,e1,e2,or32 _ _ (Nat.mod_lt _ (by decide)) (shr_lt n hx),rot_or (by omega) hx,Nat.or_comm]
theorem ret_u32 {a : Int} {b : Nat} (h : a = (b : Int)) : Ending.returned (.int .u32 a) = .returned (.int .u32 (b : Nat)):=by rw [h]
theorem rotl_calls (x n : Nat) (hx : x < 2 ^ 32) (h0 : n ≠ 0) (hn : n < 32) (w : World) :
  Calls Tryd.prog 89 #[.int .u32 (x : Int),.int .i64 (-(n : Int))] w fun e w' => e = .returned (.int .u32 (rot x n : Nat)) ∧ w' = w:=by
 have k1:=neg_and ⟨n,hn⟩ h0
 simp only at k1
 go_enter Tryd.func89,Tryd.ntmps89
 go_wp2
 go_ret
 exact ⟨ret_u32 (rot_bits hx hn),rfl⟩
theorem zaq (x n : Nat) (hx : x < 2 ^ 32) (h0 : n ≠ 0) (hn : n < 32) (w : World) :
  Calls Tryd.prog 88 #[.int .u32 (x : Int),.int .i64 (n : Int)] w fun e w' => e = .returned (.int .u32 (rot x n : Nat)) ∧ w' = w:=by
 go_enter Tryd.func88,Tryd.ntmps88
 go_wp2_with (go_at_call 89; refine (rotl_calls x n hx h0 hn _).mono ?_; rintro e w' ⟨rfl,rfl⟩)
 go_ret
 exact ⟨rfl,rfl⟩
theorem bigOne_calls (x : Nat) (hx : x < 2 ^ 32) (w : World) :
  Calls Tryd.prog 76 #[.int .u32 (x : Int)] w fun e w' => e = .returned (.int .u32 (bs1 x : Nat)) ∧ w' = w:=by
 have k1:=xor32 (rot x 6) (rot x 11) (zbe (by omega) hx) (zbe (by omega) hx)
 have k2:=xor32 (rot x 6 ^^^ rot x 11) (rot x 25) (Nat.xor_lt_two_pow (n:=32) (zbe (by omega) hx) (zbe (by omega) hx)) (zbe (by omega) hx)
 have H1 : Hid (∀ W,Calls Tryd.prog 88 #[.int .u32 (x : Int),.int .i64 6] W fun e w' => e = .returned (.int .u32 (rot x 6 : Nat)) ∧ w' = W):=veil32 (fun W => zaq x 6 hx (by decide) (by decide) W)
 have H2 : Hid (∀ W,Calls Tryd.prog 88 #[.int .u32 (x : Int),.int .i64 11] W fun e w' => e = .returned (.int .u32 (rot x 11 : Nat)) ∧ w' = W):=veil32 (fun W => zaq x 11 hx (by decide) (by decide) W)
 have H3 : Hid (∀ W,Calls Tryd.prog 88 #[.int .u32 (x : Int),.int .i64 25] W fun e w' => e = .returned (.int .u32 (rot x 25 : Nat)) ∧ w' = W):=veil32 (fun W => zaq x 25 hx (by decide) (by decide) W)
 go_enter Tryd.func76,Tryd.ntmps76
 go_wp2_with (go_at_call 88; (first | ((with_reducible refine (H1.out _).mono ?_); rintro e w' ⟨rfl,rfl⟩) | ((with_reducible refine (H2.out _).mono ?_); rintro e w' ⟨rfl,rfl⟩) | ((with_reducible refine (H3.out _).mono ?_); rintro e w' ⟨rfl,rfl⟩)))
 go_ret
 exact ⟨rfl,rfl⟩
theorem bigZero_calls (x : Nat) (hx : x < 2 ^ 32) (w : World) :
  Calls Tryd.prog 78 #[.int .u32 (x : Int)] w fun e w' => e = .returned (.int .u32 (bs0 x : Nat)) ∧ w' = w:=by
 have k1:=xor32 (rot x 2) (rot x 13) (zbe (by omega) hx) (zbe (by omega) hx)
 have k2:=xor32 (rot x 2 ^^^ rot x 13) (rot x 22) (Nat.xor_lt_two_pow (n:=32) (zbe (by omega) hx) (zbe (by omega) hx)) (zbe (by omega) hx)
 have H1 : Hid (∀ W,Calls Tryd.prog 88 #[.int .u32 (x : Int),.int .i64 2] W fun e w' => e = .returned (.int .u32 (rot x 2 : Nat)) ∧ w' = W):=veil32 (fun W => zaq x 2 hx (by decide) (by decide) W)
 have H2 : Hid (∀ W,Calls Tryd.prog 88 #[.int .u32 (x : Int),.int .i64 13] W fun e w' => e = .returned (.int .u32 (rot x 13 : Nat)) ∧ w' = W):=veil32 (fun W => zaq x 13 hx (by decide) (by decide) W)
 have H3 : Hid (∀ W,Calls Tryd.prog 88 #[.int .u32 (x : Int),.int .i64 22] W fun e w' => e = .returned (.int .u32 (rot x 22 : Nat)) ∧ w' = W):=veil32 (fun W => zaq x 22 hx (by decide) (by decide) W)
 go_enter Tryd.func78,Tryd.ntmps78
 go_wp2_with (go_at_call 88; (first | ((with_reducible refine (H1.out _).mono ?_); rintro e w' ⟨rfl,rfl⟩) | ((with_reducible refine (H2.out _).mono ?_); rintro e w' ⟨rfl,rfl⟩) | ((with_reducible refine (H3.out _).mono ?_); rintro e w' ⟨rfl,rfl⟩)))
 go_ret
 exact ⟨rfl,rfl⟩
theorem smallOne_calls (x : Nat) (hx : x < 2 ^ 32) (w : World) :
  Calls Tryd.prog 86 #[.int .u32 (x : Int)] w fun e w' => e = .returned (.int .u32 (sg1 x : Nat)) ∧ w' = w:=by
 obtain ⟨q,hq⟩ : ∃ q,q = x / 2 ^ 10:=⟨_,rfl⟩
 have hql : q < 2 ^ 32:=by rw [hq]; exact shr_lt 10 hx
 have k3 : (x : Int) / 1024 = (q : Int):=by rw [hq,Int.natCast_ediv]; rfl
 have HQ:=veil32 hq
 clear hq
 have k1:=xor32 (rot x 17) (rot x 19) (zbe (by omega) hx) (zbe (by omega) hx)
 have k2:=xor32 (rot x 17 ^^^ rot x 19) (q) (Nat.xor_lt_two_pow (n:=32) (zbe (by omega) hx) (zbe (by omega) hx)) (hql)
 have H1 : Hid (∀ W,Calls Tryd.prog 88 #[.int .u32 (x : Int),.int .i64 17] W fun e w' => e = .returned (.int .u32 (rot x 17 : Nat)) ∧ w' = W):=veil32 (fun W => zaq x 17 hx (by decide) (by decide) W)
 have H2 : Hid (∀ W,Calls Tryd.prog 88 #[.int .u32 (x : Int),.int .i64 19] W fun e w' => e = .returned (.int .u32 (rot x 19 : Nat)) ∧ w' = W):=veil32 (fun W => zaq x 19 hx (by decide) (by decide) W)
 go_enter Tryd.func86,Tryd.ntmps86
 go_wp2_with (go_at_call 88; (first | ((with_reducible refine (H1.out _).mono ?_); rintro e w' ⟨rfl,rfl⟩) | ((with_reducible refine (H2.out _).mono ?_); rintro e w' ⟨rfl,rfl⟩)))
 go_ret
 exact ⟨by unfold sg1; rw [← HQ.out]; rfl,rfl⟩
theorem smallZero_calls (x : Nat) (hx : x < 2 ^ 32) (w : World) :
  Calls Tryd.prog 87 #[.int .u32 (x : Int)] w fun e w' => e = .returned (.int .u32 (sg0 x : Nat)) ∧ w' = w:=by
 obtain ⟨q,hq⟩ : ∃ q,q = x / 2 ^ 3:=⟨_,rfl⟩
 have hql : q < 2 ^ 32:=by rw [hq]; exact shr_lt 3 hx
 have k3 : (x : Int) / 8 = (q : Int):=by rw [hq,Int.natCast_ediv]; rfl
 have HQ:=veil32 hq
 clear hq
 have k1:=xor32 (rot x 7) (rot x 18) (zbe (by omega) hx) (zbe (by omega) hx)
 have k2:=xor32 (rot x 7 ^^^ rot x 18) (q) (Nat.xor_lt_two_pow (n:=32) (zbe (by omega) hx) (zbe (by omega) hx)) (hql)
 have H1 : Hid (∀ W,Calls Tryd.prog 88 #[.int .u32 (x : Int),.int .i64 7] W fun e w' => e = .returned (.int .u32 (rot x 7 : Nat)) ∧ w' = W):=veil32 (fun W => zaq x 7 hx (by decide) (by decide) W)
 have H2 : Hid (∀ W,Calls Tryd.prog 88 #[.int .u32 (x : Int),.int .i64 18] W fun e w' => e = .returned (.int .u32 (rot x 18 : Nat)) ∧ w' = W):=veil32 (fun W => zaq x 18 hx (by decide) (by decide) W)
 go_enter Tryd.func87,Tryd.ntmps87
 go_wp2_with (go_at_call 88; (first | ((with_reducible refine (H1.out _).mono ?_); rintro e w' ⟨rfl,rfl⟩) | ((with_reducible refine (H2.out _).mono ?_); rintro e w' ⟨rfl,rfl⟩)))
 go_ret
 exact ⟨by unfold sg0; rw [← HQ.out]; rfl,rfl⟩
theorem xor_all {x : Nat} (hx : x < 2 ^ 32) : bits .xor .u32 IntKind.u32.max (x : Int) = ((4294967295 - x : Nat) : Int):=by
 have h:=xor32 4294967295 x (by decide) hx
 have e : 4294967295 ^^^ x = 4294967295 - x:=by
  apply Nat.eq_of_testBit_eq
  intro i
  rw [Nat.testBit_xor,not_bit hx,show (4294967295 : Nat) = 2 ^ 32 - 1 from rfl,Nat.testBit_two_pow_sub_one]
  by_cases h : i < 32
  ·
   simp [h]
  ·
   have h32 : 2 ^ 32 ≤ 2 ^ i:=Nat.pow_le_pow_right (by omega) (by omega)
   rw [Nat.testBit_lt_two_pow (Nat.lt_of_lt_of_le hx h32)]
   simp [h]
 rw [e] at h
 exact h
theorem choice_calls (x y z : Nat) (hx : x < 2 ^ 32) (hy : y < 2 ^ 32) (hz : z < 2 ^ 32) (w : World) :
  Calls Tryd.prog 77 #[.int .u32 (x : Int),.int .u32 (y : Int),.int .u32 (z : Int)] w fun e w' => e = .returned (.int .u32 (chN x y z : Nat)) ∧ w' = w:=by
 have k1:=and32 x y hx hy
 have k2:=xor_all hx
 have k3:=and32 (4294967295 - x) z (by omega) hz
 have k4:=xor32 (x &&& y) ((4294967295 - x) &&& z) (Nat.lt_of_le_of_lt Nat.and_le_left hx) (Nat.lt_of_le_of_lt Nat.and_le_left (by omega))
 go_enter Tryd.func77,Tryd.ntmps77
 go_wp2
 go_ret
 exact ⟨rfl,rfl⟩
theorem majority_calls (x y z : Nat) (hx : x < 2 ^ 32) (hy : y < 2 ^ 32) (hz : z < 2 ^ 32) (w : World) :
  Calls Tryd.prog 79 #[.int .u32 (x : Int),.int .u32 (y : Int),.int .u32 (z : Int)] w fun e w' => e = .returned (.int .u32 (majN x y z : Nat)) ∧ w' = w:=by
 have k1:=and32 x y hx hy
 have k2:=and32 x z hx hz
 have k3:=and32 y z hy hz
 have l1 : x &&& y < 2 ^ 32:=Nat.lt_of_le_of_lt Nat.and_le_left hx
 have l2 : x &&& z < 2 ^ 32:=Nat.lt_of_le_of_lt Nat.and_le_left hx
 have l3 : y &&& z < 2 ^ 32:=Nat.lt_of_le_of_lt Nat.and_le_left hy
 have k4:=xor32 (x &&& y) (x &&& z) l1 l2
 have k5:=xor32 ((x &&& y) ^^^ (x &&& z)) (y &&& z) (Nat.xor_lt_two_pow (n:=32) l1 l2) l3
 clear l1 l2 l3 hx hy hz
 go_enter Tryd.func79,Tryd.ntmps79
 go_wp2
 go_ret
 exact ⟨rfl,rfl⟩
theorem info8 : (Tryd.prog.info? 109).map (·.size) = some 64:=by kernel_rfl
theorem info32 : (Tryd.prog.info? 125).map (·.size) = some 64:=by kernel_rfl
theorem zeros64 : (#[.int .u32 0,.int .u32 0,.int .u32 0,.int .u32 0,.int .u32 0,.int .u32 0,.int .u32 0,.int .u32 0,.int .u32 0,.int .u32 0,.int .u32 0,.int .u32 0,.int .u32 0,.int .u32 0,.int .u32 0,.int .u32 0,.int .u32 0,.int .u32 0,.int .u32 0,.int .u32 0,.int .u32 0,.int .u32 0,.int .u32 0,.int .u32 0,.int .u32 0,.int .u32 0,.int .u32 0,.int .u32 0,.int .u32 0,.int .u32 0,.int .u32 0,.int .u32 0,.int .u32 0,.int .u32 0,.int .u32 0,.int .u32 0,.int .u32 0,.int .u32 0,.int .u32 0,.int .u32 0,.int .u32 0,.int .u32 0,.int .u32 0,.int .u32 0,.int .u32 0,.int .u32 0,.int .u32 0,.int .u32 0,.int .u32 0,.int .u32 0,.int .u32 0,.int .u32 0,.int .u32 0,.int .u32 0,.int .u32 0,.int .u32 0,.int .u32 0,.int .u32 0,.int .u32 0,.int .u32 0,.int .u32 0,.int .u32 0,.int .u32 0,.int .u32 0] : Array Value) = arrOf 64 (fun _ => .int .u32 0):=rfl
def pwb (blk : Nat → Nat) (j : Nat) : Nat → Nat
 | 0 => 0
 | m + 1 => pwb blk j m * 256 + blk (4 * j + m)
theorem pwb_lt {blk : Nat → Nat} (h : ∀ j,blk j < 256) (j : Nat) : ∀ m,pwb blk j m < 256 ^ m
 | 0 => by simp [pwb]
 | m + 1 => by
  have ih:=pwb_lt h j m
  have hb:=h (4 * j + m)
  show pwb blk j m * 256 + blk (4 * j + m) < 256 ^ (m + 1)
  rw [Nat.pow_succ]; omega
def pw (blk : Nat → Nat) (k j : Nat) : Nat:=pwb blk j (min (k - 4 * j) 4)
theorem pw_zero (blk : Nat → Nat) (j : Nat) : pw blk 0 j = 0:=by unfold pw; rw [Nat.zero_sub,Nat.zero_min]; rfl
theorem pw_step {blk : Nat → Nat} {k : Nat} (j : Nat) : pw blk (k + 1) j = if j = k / 4 then pw blk k j * 256 + blk k else pw blk k j:=by
 unfold pw
 by_cases h : j = k / 4
 ·
  rw [if_pos h,show min (k + 1 - 4 * j) 4 = min (k - 4 * j) 4 + 1 by omega]
  show pwb blk j _ * 256 + blk (4 * j + _) = _
  rw [show 4 * j + min (k - 4 * j) 4 = k by omega]
 ·
  rw [if_neg h,show min (k + 1 - 4 * j) 4 = min (k - 4 * j) 4 by omega]
theorem pw_lt {blk : Nat → Nat} (h : ∀ j,blk j < 256) (k : Nat) : pw blk k (k / 4) < 16777216:=by
 unfold pw
 have:=pwb_lt h (k / 4) (min (k - 4 * (k / 4)) 4)
 have h2 : 256 ^ min (k - 4 * (k / 4)) 4 ≤ 256 ^ 3:=Nat.pow_le_pow_right (by omega) (by omega)
 have h3 : (256 : Nat) ^ 3 = 16777216:=by decide
 omega
theorem pw_all {blk : Nat → Nat} {j : Nat} (hj : j < 16) : pw blk 64 j = word blk (4 * j):=by
 unfold pw
 rw [show min (64 - 4 * j) 4 = 4 by omega]
 show (((0 * 256 + blk (4 * j + 0)) * 256 + blk (4 * j + 1)) * 256 + blk (4 * j + 2)) * 256 + blk (4 * j + 3) = _
 unfold word
 rw [Nat.add_zero]
 omega
theorem pw_none {blk : Nat → Nat} {j : Nat} (hj : 16 ≤ j) : pw blk 64 j = 0:=by
 unfold pw
 rw [show min (64 - 4 * j) 4 = 0 by omega]; rfl
theorem or_byte {x y : Nat} (hx : x < 16777216) (hy : y < 256) : bits .or .u32 ((x : Int) * 256) (y : Int) = ((x * 256 + y : Nat) : Int):=by
 have h:=or32 (x * 256) y (by omega) (by omega)
 rw [show x * 256 = 2 ^ 8 * x by omega,← Nat.two_pow_add_eq_or_of_lt (show y < 2 ^ 8 by omega)] at h
 rw [show x * 256 = 2 ^ 8 * x by omega,← h]
 rw [Int.natCast_mul,Int.mul_comm]; rfl
theorem words_calls (g : Nat) (s : St) (blk : Nat → Nat) (len : Nat) (hblk : ∀ j,blk j < 256) (w : World) (hH : HRow w g s blk len) :
  Calls Tryd.prog 75 #[.pointer (some ⟨g,0,none⟩)] w fun e w' => e = .returned (.agg (arrOf 64 fun t => .int .u32 (wt (fun t => word blk (4 * t)) t : Nat))) ∧ Below w.heap.size w w':=by
 go_enter Tryd.func75,Tryd.ntmps75
 go_upto_region 2 with (fail)
 rw [zeros64]
 have hN0 : ((w.alloc (.cells (arrOf 64 (fun _ => .int .u32 0)) 125)).alloc (.cells (arrOf 64 (fun _ => .int .u32 0)) 125)).rowIs w.heap.size 125 64 (fun _ => .int .u32 0):=(zci w 64 125 (fun _ => .int .u32 0) rfl).alloc _
 have hR : ((w.alloc (.cells (arrOf 64 (fun _ => .int .u32 0)) 125)).alloc (.cells (arrOf 64 (fun _ => .int .u32 0)) 125)).rowIs (w.heap.size + 1) 125 64 (fun _ => .int .u32 0):=zci _ 64 125 (fun _ => .int .u32 0) (by simp)
 have hb : Below w.heap.size w ((w.alloc (.cells (arrOf 64 (fun _ => .int .u32 0)) 125)).alloc (.cells (arrOf 64 (fun _ => .int .u32 0)) 125)):=((Below.refl _ _).alloc (by simp) _).alloc (by simp) _
 have hH1:=(hH.alloc (.cells (arrOf 64 (fun _ => .int .u32 0)) 125)).alloc (.cells (arrOf 64 (fun _ => .int .u32 0)) 125)
 generalize ((w.alloc (.cells (arrOf 64 (fun _ => .int .u32 0)) 125)).alloc (.cells (arrOf 64 (fun _ => .int .u32 0)) 125)) = w1 at *
 have HB:=veil hH1.block
 obtain ⟨B,hB⟩ : ∃ B,B = ((List.range 64).map fun j => Value.int .u8 (blk j : Nat)).toArray:=⟨_,rfl⟩
 have HBB:=veil hB
 clear hB
 go_wp2_with ((with_reducible refine zac 10 ?_); refine wpList_load_mid rfl 109 _ rfl g 8 rfl ((List.range 64).map fun j => Value.int .u8 (blk j : Nat)) _ HB.out Tryd.underlying109 rfl info8 ?_; rw [← HBB.out])
 go_loopw [11] (fun c wr => ∃ k : Nat,k ≤ 64 ∧ c = .int .i64 k ∧ wr.rowIs (w.heap.size + 1) 125 64 (fun j => .int .u32 (pw blk k j : Nat)) ∧ wr.rowIs w.heap.size 125 64 (fun _ => .int .u32 0) ∧ Below w.heap.size w wr)
  (fun c _ => 64 - (intOf c).toNat)
 case atStart => exact ⟨0,by omega,rfl,hR.congr fun j _ => by rw [pw_zero]; rfl,hN0,hb⟩
 case round =>
  obtain ⟨k,hk,rfl,hR,hN0,hb⟩:=hrel
  by_cases hlt : k < 64
  ·
   have hBk : B[k]? = some (.int .u8 (blk k : Nat)):=by rw [HBB.out]; simp [hlt]
   have hst:=fun j => pw_step (blk:=blk) (k:=k) j
   have hx:=pw_lt hblk k
   have hy:=hblk k
   obtain ⟨q,hq⟩ : ∃ q,q = k / 4:=⟨_,rfl⟩
   rw [← hq] at hst hx
   have hq16 : q < 16:=by omega
   have hqi : (k : Int) / 4 = (q : Int):=by omega
   obtain ⟨x,hxx⟩ : ∃ x,x = pw blk k q:=⟨_,rfl⟩
   obtain ⟨y,hyy⟩ : ∃ y,y = blk k:=⟨_,rfl⟩
   have c1:=hR.cell (show q < 64 by omega)
   have f1:=hR.frozen q
   rw [← hxx] at hx c1
   rw [← hyy] at hy hBk
   have ko:=or_byte hx hy
   have HS:=veil hst
   have HX:=veil hxx
   have HY:=veil hyy
   have HQ:=veil hq
   have kx:=fun W => zbn (P:=Tryd.prog) (t:=109) (cs:=B) (v:=.int .u8 (y : Int)) Tryd.underlying109 (by kernel_rfl) (fun W => run_part_plain (P:=Tryd.prog) W (e:=5) (by kernel_rfl) (xs:=B) (off:=k) hBk) hlt .i64 W
   clear hst hxx hyy hq hBk
   go_wp2
   go_roundw
   case rel =>
    refine ⟨k + 1,by omega,by go_num,(hR.set q _).congr fun j hj => ?_,zan hN0 (by omega) _,zab hb (by omega) _⟩
    by_cases h : j = q
    ·
     subst h
     rw [if_pos rfl,HS.out,if_pos rfl,← HX.out,← HY.out]
     rfl
    ·
     rw [if_neg h,HS.out,if_neg h]
   case measure => simp [intOf]; omega
  ·
   have e64 : k = 64:=by omega
   have hR:=e64 ▸ hR
   have HK:=veil e64
   have hkf : decide ((k : Int) < 64) = false:=by simp; omega
   clear e64 hlt hk
   have hm : ∀ t,t < 16 → word blk (4 * t) < 2 ^ 32:=fun t _ => by
    unfold word
    have h0:=hblk (4 * t); have h1:=hblk (4 * t + 1); have h2:=hblk (4 * t + 2); have h3:=hblk (4 * t + 3)
    omega
   have hR : wr.rowIs (w.heap.size + 1) 125 64 (fun j => .int .u32 ((if j < 16 then wt (fun t => word blk (4 * t)) j else 0 : Nat) : Int)):=hR.congr fun j _ => by
    by_cases h : j < 16
    ·
     rw [if_pos h,wt_lo _ h,pw_all h]
    ·
     rw [if_neg h,pw_none (by omega)]
   have hW:=fun t => wt_lt (m:=fun t => word blk (4 * t)) hm t
   obtain ⟨m,hm0⟩ : ∃ m,m = fun t => word blk (4 * t):=⟨_,rfl⟩
   rw [← hm0] at hR hW
   have HM0:=veil hm0
   clear hm0
   have HM:=veil hm
   have HW:=veil hW
   have HBL:=veil hblk
   clear hm hW hblk
   go_wp2
   go_loopw [6] (fun c wr => ∃ t : Nat,16 ≤ t ∧ t ≤ 64 ∧ c = .int .i64 t ∧ wr.rowIs (w.heap.size + 1) 125 64 (fun j => .int .u32 ((if j < t then wt m j else 0 : Nat) : Int)) ∧ wr.rowIs w.heap.size 125 64 (fun _ => .int .u32 0) ∧ Below w.heap.size w wr)
    (fun c _ => 64 - (intOf c).toNat)
   case atStart => exact ⟨16,by omega,by omega,rfl,hR,hN0,hb⟩
   case round =>
    obtain ⟨t,ht16,ht,rfl,hR,hN0,hb⟩:=hrel
    by_cases hlt : t < 64
    ·
     obtain ⟨t16,e16⟩ : ∃ t16,t = t16 + 16:=⟨t - 16,by omega⟩
     have cell : ∀ d,0 < d → d ≤ 16 → wr.cell? ⟨w.heap.size + 1,t - d,none⟩ = some (.int .u32 (wt m (t - d) : Nat)):=fun d h0 h1 => by
      rw [hR.cell (show t - d < 64 by omega),if_pos (by omega)]
     have c2:=cell 2 (by omega) (by omega)
     have c7:=cell 7 (by omega) (by omega)
     have c15:=cell 15 (by omega) (by omega)
     have c16:=cell 16 (by omega) (by omega)
     have cT : wr.cell? ⟨w.heap.size + 1,t,none⟩ = some (.int .u32 0):=by
      rw [hR.cell hlt,if_neg (by omega)]; rfl
     have fT:=hR.frozen t
     have hwt:=wt_hi m (show ¬ t < 16 by omega)
     have l2:=HW.out (t - 2)
     have l7:=HW.out (t - 7)
     have l15:=HW.out (t - 15)
     have l16:=HW.out (t - 16)
     obtain ⟨x2,hx2⟩ : ∃ x,x = wt m (t - 2):=⟨_,rfl⟩
     obtain ⟨x7,hx7⟩ : ∃ x,x = wt m (t - 7):=⟨_,rfl⟩
     obtain ⟨x15,hx15⟩ : ∃ x,x = wt m (t - 15):=⟨_,rfl⟩
     obtain ⟨x16,hx16⟩ : ∃ x,x = wt m (t - 16):=⟨_,rfl⟩
     rw [← hx2] at c2 hwt l2
     rw [← hx7] at c7 hwt l7
     rw [← hx15] at c15 hwt l15
     rw [← hx16] at c16 hwt l16
     have i2 : (t : Int) - 2 = ((t - 2 : Nat) : Int):=by omega
     have i7 : (t : Int) - 7 = ((t - 7 : Nat) : Int):=by omega
     have i15 : (t : Int) - 15 = ((t - 15 : Nat) : Int):=by omega
     have i16 : (t : Int) - 16 = ((t - 16 : Nat) : Int):=by omega
     have b2 : t - 2 < 64:=by omega
     have b7 : t - 7 < 64:=by omega
     have b15 : t - 15 < 64:=by omega
     have b16 : t - 16 < 64:=by omega
     generalize t - 2 = t2 at *
     generalize t - 7 = t7 at *
     generalize t - 15 = t15 at *
     generalize t - 16 = t16' at *
     have a1 : ∀ x y : Nat,((x : Int) + (y : Int)) % 4294967296 = ((ad x y : Nat) : Int):=fun x y => by unfold ad; rw [Int.natCast_emod,Int.natCast_add]; rfl
     have a2 : ∀ x y : Nat,IntKind.u32.wrap ((x : Int) + (y : Int)) = ((ad x y : Nat) : Int):=fun x y => by rw [wrap32]; exact a1 x y
     have w2 : IntKind.i64.wrap (t2 : Int) = (t2 : Int):=IntWalk.i64_in _ (by omega)
     have w7 : IntKind.i64.wrap (t7 : Int) = (t7 : Int):=IntWalk.i64_in _ (by omega)
     have w15 : IntKind.i64.wrap (t15 : Int) = (t15 : Int):=IntWalk.i64_in _ (by omega)
     have w16 : IntKind.i64.wrap (t16' : Int) = (t16' : Int):=IntWalk.i64_in _ (by omega)
     have j2 : (t2 : Int) < 64:=by omega
     have j7 : (t7 : Int) < 64:=by omega
     have j15 : (t15 : Int) < 64:=by omega
     have j16 : (t16' : Int) < 64:=by omega
     have jT : (t : Int) < 64:=by omega
     have K1:=veil (fun W => smallOne_calls x2 l2 W)
     have K2:=veil (fun W => smallZero_calls x15 l15 W)
     have HT:=veil hwt
     have HH:=veil (And.intro hx2 (And.intro hx7 (And.intro hx15 hx16)))
     have E16:=veil e16
     clear cell hwt hx2 hx7 hx15 hx16 e16 l2 l15 l7 l16
     go_wp2
     go_still_tail 23,(by kernel_rfl)
     still_call (by first | ((with_reducible refine (K1.out _).mono ?_); rintro e w' ⟨rfl,rfl⟩; exact ⟨rfl,rfl⟩))
     repeat still_step
     still_call (by first | ((with_reducible refine (K2.out _).mono ?_); rintro e w' ⟨rfl,rfl⟩; exact ⟨rfl,rfl⟩))
     repeat still_step
     refine wpStill_nil ?_
     have hR2:=hR.drew
     have hN2:=hN0.drew
     have hb2:=hb.drew
     have cT2 : wr.drew.cell? ⟨w.heap.size + 1,t,none⟩ = some (.int .u32 0):=cT
     have fT2 : wr.drew.frozen? ⟨w.heap.size + 1,t,none⟩ = false:=fT
     change wpList _ _ _ _ _ wr.drew
     generalize wr.drew = w2 at *
     clear c2 c7 c15 c16 cT fT hR hN0 hb
     go_wp2
     go_roundw
     case rel =>
      refine ⟨t + 1,by omega,by omega,by go_num,(hR2.set t _).congr fun j hj => ?_,zan hN2 (by omega) _,zab hb2 (by omega) _⟩
      by_cases h : j = t
      ·
       subst h
       rw [if_pos rfl,if_pos (by omega),HT.out]
      ·
       rw [if_neg h]
       by_cases h2 : j < t
       ·
        rw [if_pos h2,if_pos (by omega)]
       ·
        rw [if_neg h2,if_neg (by omega)]
     case measure => simp [intOf]; omega
    ·
     have e64 : t = 64:=by omega
     have hR:=e64 ▸ hR
     have hR : wr.rowIs (w.heap.size + 1) 125 64 (fun j => .int .u32 (wt m j : Nat)):=hR.congr fun j hj => by rw [if_pos hj]
     have htf : decide ((t : Int) < 64) = false:=by simp; omega
     clear HM HB HBB e64 hlt ht ht16
     have hA:=veil (blkOf hR)
     have hN:=veil (blkOf hN0)
     obtain ⟨A,hA2⟩ : ∃ A,A = arrOf 64 (fun j => .int .u32 (wt m j : Nat)):=⟨_,rfl⟩
     rw [← hA2] at hA
     have HE:=veil hA2
     have hs : A.size = 64:=by rw [hA2,zah]
     have h1 : A.all (·.oneCell') = true:=by rw [hA2]; exact zbm fun _ _ => rfl
     have h2 : (Tryd.prog.info? 125).map (·.size) = some A.size:=by rw [hs]; exact info32
     have HZ:=veil (And.intro hs (And.intro h1 h2))
     clear hs h1 h2 hA2
     go_wp2_with (first
      | ((with_reducible refine zac 54 ?_); refine wpList_load_row rfl 125 _ rfl (w.heap.size + 1) rfl 125 A (0,0) _ hA.out Tryd.underlying125 rfl HZ.out.2.2 ?_)
      | ((with_reducible refine zag ?_); refine wpList_store_row rfl 125 _ _ rfl w.heap.size A rfl rfl 125 _ hN.out HZ.out.2.2 (by rw [HZ.out.1,zah]) HZ.out.2.1 ?_))
     exact bodyPost_ret (results_cell_row rfl _ _ w.heap.size 125 A (0,0) _ rfl (setRow_heap wr w.heap.size _ A 125 (0,0) hN.out) Tryd.underlying125 rfl HZ.out.2.2) rfl ⟨by rw [HE.out,HM0.out],zcr hb (Nat.le_refl _) _⟩
theorem infoS : (Tryd.prog.info? 108).map (·.size) = some 8:=by kernel_rfl
theorem ad_mod (x y : Nat) : ((x : Int) + (y : Int)) % 4294967296 = ((ad x y : Nat) : Int):=by unfold ad; rw [Int.natCast_emod,Int.natCast_add]; rfl
theorem ad_wrap (x y : Nat) : IntKind.u32.wrap ((x : Int) + (y : Int)) = ((ad x y : Nat) : Int):=by rw [wrap32]; exact ad_mod x y
def stArr (s : St) : Array Value:=arrOf 8 fun j => .int .u32 (s.at j : Nat)
theorem stList (s : St) : ((List.range 8).map fun j => Value.int .u32 (s.at j : Nat)).toArray = stArr s:=rfl
theorem addSt_at (s r : St) (j : Nat) : (addSt s r).at j = ad (s.at j) (r.at j):=by
 unfold St.at addSt
 split <;> rfl
theorem mix_calls (g : Nat) (s : St) (blk : Nat → Nat) (len : Nat) (hs : s.Ok) (hblk : ∀ j,blk j < 256) (w : World) (hK : KT w) (hH : HRow w g s blk len) :
  Calls Tryd.prog 53 #[.pointer (some ⟨g,0,none⟩)] w fun e w' => e = .returned (.tuple #[]) ∧ HRow w' g (blockN (fun t => word blk (4 * t)) s) blk len ∧ But g w w':=by
 go_enter Tryd.func53,Tryd.ntmps53
 go_wp2_with fail
 refine (words_calls g s blk len hblk w hH).mono ?_
 rintro e w1 ⟨rfl,hb1⟩
 have hm : ∀ t,t < 16 → word blk (4 * t) < 2 ^ 32:=fun t _ => by
  unfold word
  have h0:=hblk (4 * t); have h1:=hblk (4 * t + 1); have h2:=hblk (4 * t + 2); have h3:=hblk (4 * t + 3)
  omega
 obtain ⟨m,hm0⟩ : ∃ m,m = fun t => word blk (4 * t):=⟨_,rfl⟩
 have hW:=fun t => wt_lt (m:=fun t => word blk (4 * t)) hm t
 rw [← hm0] at hW ⊢
 obtain ⟨A,hA⟩ : ∃ A,A = arrOf 64 (fun j => .int .u32 (wt m j : Nat)):=⟨_,rfl⟩
 rw [← hA]
 have hAs : A.size = 64:=by rw [hA,zah]
 have hA1 : A.all (·.oneCell') = true:=by rw [hA]; exact zbm fun _ _ => rfl
 have HZ:=veil (And.intro hAs (And.intro hA1 (show (Tryd.prog.info? 125).map (·.size) = some A.size by rw [hAs]; exact info32)))
 have HA:=veil (show ∀ j,j < 64 → A[j]? = some (.int .u32 (wt m j : Nat)) from fun j hj => by rw [hA,zbc _ hj])
 have HM:=veil (show (fun t => word blk (4 * t)) = m from hm0.symm)
 have HS:=veil hs
 have HW:=veil hW
 have hK1:=hK.call hb1
 have hH1:=hH.call hb1
 clear hm hm0 hW hA hAs hA1 hs hblk hK hH
 go_upto_region 1 with (first
  | ((with_reducible refine zag ?_); refine wpList_store_row rfl 125 _ _ rfl w1.heap.size A rfl rfl 125 _ (heap_alloc_last w1 _) HZ.out.2.2 (by rw [HZ.out.1]; rfl) HZ.out.2.1 ?_; rw [World.setRow_alloc_new]))
 have hA2 : (w1.alloc (.cells A 125)).heap[w1.heap.size]? = some (.cells A 125 (0,0)):=heap_alloc_last w1 _
 have hK2:=hK1.alloc (.cells A 125)
 have hH2:=hH1.alloc (.cells A 125)
 have hb2:=hb1.alloc hb1.size (.cells A 125)
 generalize w1.alloc (.cells A 125) = w2 at *
 generalize w1.heap.size = bA at *
 have HA2:=veil hA2
 clear hA2
 have HB:=veil hH2.words
 have HS1:=veil (show (stArr s).all (·.oneCell') = true from zbm fun _ _ => rfl)
 have HSL:=veil (stList s)
 clear hK1 hH1 hb1
 go_upto_region 2 with (first
  | ((with_reducible refine zac 23 ?_); refine wpList_load_mid rfl 108 _ rfl g 0 rfl _ _ HB.out Tryd.underlying108 rfl (by simpa using infoS) ?_; rw [HSL.out]; generalize hSA : stArr s = SA; have HSA:=veil hSA; clear hSA)
  | ((with_reducible refine zag ?_); refine wpList_store_row rfl 108 _ _ rfl w2.heap.size (stArr s) rfl (congrArg Value.agg HSA.out.symm) 108 _ (heap_alloc_last w2 _) infoS rfl HS1.out ?_; rw [World.setRow_alloc_new]))
 have hR3 : (w2.alloc (.cells (stArr s) 108)).rowIs w2.heap.size 108 8 (fun j => .int .u32 (s.at j : Nat)):=zci w2 8 _ _ rfl
 have hK3:=hK2.alloc (.cells (stArr s) 108)
 have hH3:=hH2.alloc (.cells (stArr s) 108)
 have hb3:=hb2.alloc hb2.size (.cells (stArr s) 108)
 have hA3 : (w2.alloc (.cells (stArr s) 108)).heap[bA]? = some (.cells A 125 (0,0)):=(Below.heap_alloc _ _ _ (Array.getElem?_eq_some_iff.1 HA2.out).1).trans HA2.out
 generalize w2.alloc (.cells (stArr s) 108) = w3 at *
 generalize w2.heap.size = bS at *
 have HA3:=veil hA3
 have d0 : w3.cell? ⟨bS,0,none⟩ = some (.int .u32 (s.a : Nat)):=hR3.cell (by decide)
 have d1 : w3.cell? ⟨bS,1,none⟩ = some (.int .u32 (s.b : Nat)):=hR3.cell (by decide)
 have d2 : w3.cell? ⟨bS,2,none⟩ = some (.int .u32 (s.c : Nat)):=hR3.cell (by decide)
 have d3 : w3.cell? ⟨bS,3,none⟩ = some (.int .u32 (s.d : Nat)):=hR3.cell (by decide)
 have d4 : w3.cell? ⟨bS,4,none⟩ = some (.int .u32 (s.e : Nat)):=hR3.cell (by decide)
 have d5 : w3.cell? ⟨bS,5,none⟩ = some (.int .u32 (s.f : Nat)):=hR3.cell (by decide)
 have d6 : w3.cell? ⟨bS,6,none⟩ = some (.int .u32 (s.g : Nat)):=hR3.cell (by decide)
 have d7 : w3.cell? ⟨bS,7,none⟩ = some (.int .u32 (s.h : Nat)):=hR3.cell (by decide)
 clear hK2 hH2 hb2 HA2 hA3 hR3 HB HS1 HSL HSA
 go_quiet (fail)
 have hK4:=hK3.drewN nq
 have hH4:=hH3.drewN nq
 have hb4:=zaz hb3 nq
 have hA4 : (w3.drewN nq).heap[bA]? = some (.cells A 125 (0,0)):=HA3.out
 generalize w3.drewN nq = w4 at *
 have HA4:=veil hA4
 clear hK3 hH3 hb3 HA3 hA4 d0 d1 d2 d3 d4 d5 d6 d7
 have sI:=ad_mod
 have sW:=ad_wrap
 go_wp2_with ((with_reducible refine zac 40 ?_); refine wpList_load_row rfl 125 _ rfl bA rfl 125 A (0,0) _ HA4.out Tryd.underlying125 rfl HZ.out.2.2 ?_)
 clear HA4
 go_loopw [4,5,6,7,8,9,10,11,41] (fun v4 v5 v6 v7 v8 v9 v10 v11 v41 wr => ∃ t a b c d e f q h : Nat,t ≤ 64 ∧ Hid (roundsN m s t = ⟨a,b,c,d,e,f,q,h⟩) ∧
   v41 = .int .i64 (t : Int) ∧ v4 = .int .u32 (a : Int) ∧ v5 = .int .u32 (b : Int) ∧ v6 = .int .u32 (c : Int) ∧ v7 = .int .u32 (d : Int) ∧ v8 = .int .u32 (e : Int) ∧ v9 = .int .u32 (f : Int) ∧ v10 = .int .u32 (q : Int) ∧ v11 = .int .u32 (h : Int) ∧
   KT wr ∧ HRow wr g s blk len ∧ Below w.heap.size w wr)
  (fun _ _ _ _ _ _ _ _ v41 _ => 64 - (intOf v41).toNat)
 case atStart => exact ⟨0,s.a,s.b,s.c,s.d,s.e,s.f,s.g,s.h,by omega,rfl,rfl,rfl,rfl,rfl,rfl,rfl,rfl,rfl,rfl,hK4,hH4,hb4⟩
 case round =>
  obtain ⟨t,a,b,c,d,e,f,q,h,ht,hr,rfl,rfl,rfl,rfl,rfl,rfl,rfl,rfl,rfl,hK,hH,hb⟩:=hrel
  have hok : (⟨a,b,c,d,e,f,q,h⟩ : St).Ok:=hr.out ▸ roundsN_ok HS.out t
  by_cases hlt : t < 64
  ·
   have ck:=hK.cell t hlt
   have kx:=fun W => zbn (P:=Tryd.prog) (t:=125) (cs:=A) (v:=.int .u32 (wt m t : Nat)) Tryd.underlying125 (by kernel_rfl) (fun W => run_part_plain (P:=Tryd.prog) W (e:=107) (by kernel_rfl) (xs:=A) (off:=t) (HA.out t hlt)) hlt .i64 W
   obtain ⟨x,hx⟩ : ∃ x,x = wt m t:=⟨_,rfl⟩
   obtain ⟨k,hk⟩ : ∃ k,k = kc t:=⟨_,rfl⟩
   rw [← hk] at ck
   rw [← hx] at kx
   have K1:=veil (fun W => bigOne_calls e hok.e W)
   have K2:=veil (fun W => choice_calls e f q hok.e hok.f hok.g W)
   have K3:=veil (fun W => bigZero_calls a hok.a W)
   have K4:=veil (fun W => majority_calls a b c hok.a hok.b hok.c W)
   have jt : (t : Int) < 64:=by omega
   have wt64 : IntKind.i64.wrap (t : Int) = (t : Int):=IntWalk.i64_in _ (by omega)
   have HX:=veil (And.intro hx hk)
   clear hx hk hok
   go_wp2
   refine wp_region_still_lit (by kernel_rfl) (by kernel_rfl) ?_
   repeat still_step
   still_call (by first | ((with_reducible refine (K1.out _).mono ?_); rintro e w' ⟨rfl,rfl⟩; exact ⟨rfl,rfl⟩))
   repeat still_step
   still_call (by first | ((with_reducible refine (K2.out _).mono ?_); rintro e w' ⟨rfl,rfl⟩; exact ⟨rfl,rfl⟩))
   repeat still_step
   refine wpStill_nil ?_
   change Exit.then _ _ _ _ wr.drew
   have hK':=hK.drew
   have hH':=hH.drew
   have hb':=hb.drew
   generalize wr.drew = w5 at *
   clear hK hH hb ck kx
   obtain ⟨y1,hy1⟩ : ∃ y,y = ad (ad (ad (ad h (bs1 e)) (chN e f q)) k) x:=⟨_,rfl⟩
   rw [← hy1]
   have HY1:=veil hy1
   clear hy1
   go_wp2_with (first
    | (go_at_call 78; ((with_reducible refine (K3.out _).mono ?_); rintro e w' ⟨rfl,rfl⟩))
    | (go_at_call 79; ((with_reducible refine (K4.out _).mono ?_); rintro e w' ⟨rfl,rfl⟩)))
   go_roundw
   case rel =>
    refine ⟨t + 1,_,_,_,_,_,_,_,_,by omega,?_,by go_num,rfl,rfl,rfl,rfl,rfl,rfl,rfl,rfl,hK',hH',hb'⟩
    show roundsN m s (t + 1) = _
    show stepN (roundsN m s t) (kc t) (wt m t) = _
    rw [hr.out,← HX.out.1,← HX.out.2,HY1.out]
    rfl
   case measure => simp [intOf]; omega
  ·
   have e64 : t = 64:=by omega
   have htf : decide ((t : Int) < 64) = false:=by simp; omega
   have hr:=e64 ▸ hr
   obtain ⟨r,hrr⟩ : ∃ r : St,r = ⟨a,b,c,d,e,f,q,h⟩:=⟨_,rfl⟩
   have hB : blockN m s = addSt s r:=by unfold blockN; rw [hr.out,hrr]
   have kx : ∀ j : Nat,j < 8 → ∀ W,(Instr.index 108 (.agg #[.int .u32 (a : Int),.int .u32 (b : Int),.int .u32 (c : Int),.int .u32 (d : Int),.int .u32 (e : Int),.int .u32 (f : Int),.int .u32 (q : Int),.int .u32 (h : Int)]) (.int .i64 (j : Int))).run Tryd.prog W = .ok (.int .u32 (r.at j : Nat)) W:=fun j hj W =>
    zbn (P:=Tryd.prog) (t:=108) (v:=.int .u32 (r.at j : Nat)) Tryd.underlying108 (by kernel_rfl) (fun W => run_part_plain (P:=Tryd.prog) W (e:=107) (by kernel_rfl) (off:=j) (by rw [hrr]; exact zbc (n:=8) (fun i => .int .u32 (St.at ⟨a,b,c,d,e,f,q,h⟩ i : Nat)) hj)) hj .i64 W
   have KX:=veil kx
   have HB:=veil hB
   have HR:=veil hrr
   have hH8 : wr.rowIs g 111 73 (fun i => hcells s blk len i):=hH
   have hbt : But g w wr:=But.of_below hb
   clear kx hB hrr e64 hlt ht hr hok hH hb
   go_wp2
   go_loopw [89] (fun v89 wr => ∃ j : Nat,j ≤ 8 ∧ v89 = .int .i64 (j : Int) ∧ wr.rowIs g 111 73 (fun i => if i < j then .int .u32 ((addSt s r).at i : Nat) else hcells s blk len i) ∧ But g w wr)
    (fun v89 _ => 8 - (intOf v89).toNat)
   case atStart => exact ⟨0,by omega,rfl,hH8.congr fun i _ => by rw [if_neg (by omega)],hbt⟩
   case round =>
    obtain ⟨j,hj,rfl,hH,hb⟩:=hrel
    by_cases hlt : j < 8
    ·
     have kj:=KX.out j hlt
     have cj : wr.cell? ⟨g,j,none⟩ = some (.int .u32 (s.at j : Nat)):=by
      rw [hH.cell (show j < 73 by omega),if_neg (by omega),hcells,if_pos hlt]
     have fj:=hH.frozen j
     have jj : (j : Int) < 8:=by omega
     have wj : IntKind.i64.wrap (j : Int) = (j : Int):=IntWalk.i64_in _ (by omega)
     obtain ⟨x,hx⟩ : ∃ x,x = s.at j:=⟨_,rfl⟩
     obtain ⟨y,hy⟩ : ∃ y,y = r.at j:=⟨_,rfl⟩
     rw [← hx] at cj
     rw [← hy] at kj
     have HX:=veil (And.intro hx hy)
     clear hx hy
     go_wp2
     go_still_tail 11,(by kernel_rfl)
     have hH':=hH.drew
     have hb':=But.drew hb
     have cj' : wr.drew.cell? ⟨g,j,none⟩ = some (.int .u32 (x : Nat)):=cj
     have fj' : wr.drew.frozen? ⟨g,j,none⟩ = false:=fj
     change wpList _ _ _ _ _ wr.drew
     generalize wr.drew = w5 at *
     clear cj fj hH hb
     go_wp2
     go_roundw
     case rel =>
      refine ⟨j + 1,by omega,by go_num,(hH'.set j _).congr fun i hi => ?_,But.set hb' _ _⟩
      by_cases h : i = j
      ·
       subst h
       rw [if_pos rfl,if_pos (by omega),addSt_at,← HX.out.1,← HX.out.2]
      ·
       rw [if_neg h]
       by_cases h2 : i < j
       ·
        rw [if_pos h2,if_pos (by omega)]
       ·
        rw [if_neg h2,if_neg (by omega)]
     case measure => simp [intOf]; omega
    ·
     have e8 : j = 8:=by omega
     have hjf : decide ((j : Int) < 8) = false:=by simp; omega
     have hH : HRow wr g (blockN m s) blk len:=hH.congr fun i hi => by
      rw [e8,HB.out]
      unfold hcells
      by_cases h : i < 8
      ·
       rw [if_pos h,if_pos h]
      ·
       rw [if_neg h,if_neg h,if_neg h]
     clear e8 hlt hj
     go_wp2
     go_end0
     exact ⟨rfl,by rw [HM.out]; exact hH,hb⟩
theorem zck {P : Program} {w : World} {ops : Array Oper} {rest : List Oper} {o : Oper} {a : Act} {Q : Exit → Act → World → Prop} (hgd : o.guard = none) (d s : Operand) (dT sT : TypeId)
  (ho : o.op = .call { callee:=.builtin .copy,args:=#[d,s],argTypes:=#[dT,sT] }) (elem : TypeId) (hu : P.underlying dT = some (.slice elem)) (hsz : (P.info? elem).map (·.size) = some 1)
  (g off dLen dCap : Nat) (ad : Addr) (sLen sCap : Nat) (hd : a.eval d = .slice (some ⟨g,off,none⟩) dLen dCap) (hs : a.eval s = .slice (some ad) sLen sCap)
  (t n : Nat) (f : Nat → Value) (hrow : w.rowIs g t n f) (m : Nat) (hm : m = Nat.min sLen dLen) (v : Nat → Value) (hsrc : ∀ j,j < m → w.cell? (ad.add j) = some (v j)) (hfit : off + m ≤ n)
  (h1 : ∀ j,j < m → (v j).oneCell' = true)
  (h : ∀ w',But g w w' → w'.rowIs g t n (fun j => if off ≤ j ∧ j < off + m then v (j - off) else f j) → wpList P ops Q rest (a.put o.dst (goInt (m : Nat))) w') : wpList P ops Q (o :: rest) a w:=by
 have hcs : ((List.range m).map v).length = m:=by simp
 have hk:=wpList_copy_own (P:=P) (w:=w) (ops:=ops) (rest:=rest) (o:=o) (a:=a) (Q:=Q) hgd d s dT sT ho elem hu hsz g off dLen dCap ad sLen sCap hd hs (arrOf n f) t (blkOf hrow) ((List.range m).map v) (by rw [hcs,hm])
  (fun j u hu => by
   have hj : j < m:=by have:=(List.getElem?_eq_some_iff.1 hu).1; simpa using this
   rw [hsrc j hj,← hu]; simp [hj]) (by rw [hcs,zah]; exact hfit) (fun u hu => by
   simp at hu; obtain ⟨j,hj,rfl⟩:=hu; exact h1 j hj)
 rw [hcs] at hk
 refine hk (h _ ⟨rfl,rfl,rfl,by simp [World.setRow],fun k _ hne => zaj w _ (by simpa using hne)⟩ ?_)
 refine row_setRow hrow (by simp [zah]; omega) fun i hi => ?_
 have hl : (arrOf n f).toList.length = n:=by simp [zah]
 by_cases c1 : i < off
 ·
  rw [if_neg (by omega)]
  simp only [List.getElem?_toArray]
  rw [List.getElem?_append_left (by simp [hl]; omega),List.getElem?_take_of_lt c1]
  simpa using zbc f hi
 ·
  by_cases c2 : i < off + m
  ·
   rw [if_pos ⟨by omega,c2⟩]
   simp only [List.getElem?_toArray]
   rw [List.getElem?_append_right (by simp [hl]; omega),List.getElem?_append_left (by simp [hl]; omega)]
   simp [hl,show min off n = off by omega,show i - off < m by omega]
  ·
   rw [if_neg (by omega)]
   simp only [List.getElem?_toArray]
   rw [List.getElem?_append_right (by simp [hl]; omega),List.getElem?_append_right (by simp [hl]; omega),List.getElem?_drop]
   rw [show off + m + (i - (List.take off (arrOf n f).toList).length - ((List.range m).map v).length) = i by simp [hl]; omega]
   simpa using zbc f hi
theorem blockN_congr {m m' : Nat → Nat} (h : ∀ t,t < 16 → m t = m' t) (s : St) : blockN m s = blockN m' s:=by
 have hs : ∀ k,sched m k = sched m' k:=by
  intro k
  induction k with
  | zero => simp only [sched]
  | succ k ihk =>
   simp only [sched]
   rw [ihk]
   by_cases hk : k < 16
   ·
    simp only [if_pos hk]; rw [h k hk]
   ·
    simp only [if_neg hk]
 have hr : ∀ k,roundsN m s k = roundsN m' s k:=by
  intro k
  induction k with
  | zero => simp only [roundsN]
  | succ k ihk =>
   simp only [roundsN]
   rw [ihk]; unfold wt; rw [hs]
 unfold blockN; rw [hr]
structure HOk (b : Nat → Nat) (L : Nat) (s : St) (blk : Nat → Nat) : Prop where
 s : s = blocksN b (L / 64)
 pre : ∀ j,j < L % 64 → blk j = b (64 * (L / 64) + j)
 lt : ∀ j,blk j < 256
theorem HOk.part {b : Nat → Nat} {L m : Nat} {s : St} {blk : Nat → Nat} (h : HOk b L s blk) (hm : L % 64 + m < 64) (hb : ∀ i,L ≤ i → i < L + m → b i < 256) :
  HOk b (L + m) s (fun j => if L % 64 ≤ j ∧ j < L % 64 + m then b (L + (j - L % 64)) else blk j):=by
 have e1 : (L + m) / 64 = L / 64:=by omega
 refine ⟨by rw [e1]; exact h.s,fun j hj => ?_,fun j => ?_⟩
 ·
  rw [e1]
  by_cases c : j < L % 64
  ·
   rw [if_neg (by omega),h.pre j c]
  ·
   rw [if_pos (by omega)]; congr 1; omega
 ·
  show (if _ then _ else _) < 256
  split
  ·
   exact hb _ (by omega) (by omega)
  ·
   exact h.lt j
theorem HOk.full {b : Nat → Nat} {L m : Nat} {s : St} {blk : Nat → Nat} (h : HOk b L s blk) (hm : L % 64 + m = 64) (hb : ∀ i,L ≤ i → i < L + m → b i < 256) :
  HOk b (L + m) (blockN (fun t => word (fun j => if L % 64 ≤ j ∧ j < L % 64 + m then b (L + (j - L % 64)) else blk j) (4 * t)) s) (fun j => if L % 64 ≤ j ∧ j < L % 64 + m then b (L + (j - L % 64)) else blk j):=by
 have e1 : (L + m) / 64 = L / 64 + 1:=by omega
 have e2 : ∀ j,j < 64 → (if L % 64 ≤ j ∧ j < L % 64 + m then b (L + (j - L % 64)) else blk j) = b (64 * (L / 64) + j):=fun j hj => by
  by_cases c : j < L % 64
  ·
   rw [if_neg (by omega),h.pre j c]
  ·
   rw [if_pos (by omega)]; congr 1; omega
 refine ⟨?_,fun j hj => by omega,fun j => ?_⟩
 ·
  rw [e1]
  show _ = blockN (fun t => word b (64 * (L / 64) + 4 * t)) (blocksN b (L / 64))
  rw [← h.s]
  refine blockN_congr (fun t ht => ?_) s
  show word _ (4 * t) = word b (64 * (L / 64) + 4 * t)
  unfold word
  dsimp only
  rw [e2 _ (by omega),e2 _ (by omega),e2 _ (by omega),e2 _ (by omega)]
  rfl
 ·
  show (if _ then _ else _) < 256
  split
  ·
   exact hb _ (by omega) (by omega)
  ·
   exact h.lt j
theorem HOk.congr {b b' : Nat → Nat} {L : Nat} {s : St} {blk : Nat → Nat} (h : HOk b L s blk) (e : ∀ i,i < L → b i = b' i) : HOk b' L s blk :=
 ⟨by rw [h.s]; exact zfd _ (fun i hi => e i (by omega)),fun j hj => by rw [h.pre j hj,e _ (by omega)],h.lt⟩
def HashIs (w : World) (g : Nat) (b : Nat → Nat) (L : Nat) : Prop:=∃ s blk,HOk b L s blk ∧ HRow w g s blk L
section
variable {w w' : World} {g B L : Nat} {b b' : Nat → Nat}
theorem HashIs.lt (h : HashIs w g b L) : g < w.heap.size:=by obtain ⟨_,_,_,h⟩:=h; exact h.lt
theorem HashIs.of_block (h : HashIs w g b L) (e : w'.heap[g]? = w.heap[g]?) : HashIs w' g b L:=by obtain ⟨s,k,o,h⟩:=h; exact ⟨s,k,o,h.of_block e⟩
theorem HashIs.call (h : HashIs w g b L) (hb : Below w.heap.size w w') : HashIs w' g b L:=h.of_block (hb.block g h.lt)
theorem HashIs.below (h : HashIs w g b L) (hb : Below B w w') (hlt : g < B) : HashIs w' g b L:=h.of_block (hb.block g hlt)
theorem HashIs.but {r : Nat} (h : HashIs w g b L) (k : But r w w') (hne : g ≠ r) : HashIs w' g b L:=h.of_block (k.block g h.lt (by simpa using hne))
theorem HashIs.alloc (h : HashIs w g b L) (o : Obj) : HashIs (w.alloc o) g b L:=h.of_block (Below.heap_alloc _ _ _ h.lt)
theorem HashIs.drew (h : HashIs w g b L) : HashIs w.drew g b L:=h
theorem HashIs.congr (h : HashIs w g b L) (e : ∀ i,i < L → b i = b' i) : HashIs w g b' L:=by obtain ⟨s,k,o,h⟩:=h; exact ⟨s,k,o.congr e,h⟩
theorem HashIs.len (h : HashIs w g b L) : w.cell? ⟨g,72,none⟩ = some (.int .i64 (L : Int)):=by obtain ⟨_,_,_,h⟩:=h; exact h.length
end
def cat (b : Nat → Nat) (len : Nat) (y : Nat → Nat) : Nat → Nat:=fun i => if i < len then b i else y (i - len)
def Src (w : World) (A : Option Addr) (n : Nat) (y : Nat → Nat) (g : Nat) : Prop:=n = 0 ∨ ∃ b o,A = some ⟨b,o,none⟩ ∧ b < w.heap.size ∧ b ≠ g ∧ ∀ j,j < n → w.cell? ⟨b,o + j,none⟩ = some (.int .u8 (y j : Nat))
section
variable {w w' : World} {A : Option Addr} {n g B : Nat} {y : Nat → Nat}
theorem Src.below (h : Src w A n y g) (hb : Below w.heap.size w w') : Src w' A n y g:=by
 rcases h with h | ⟨b,o,ha,hlt,hne,hc⟩
 ·
  exact .inl h
 ·
  exact .inr ⟨b,o,ha,Nat.lt_of_lt_of_le hlt hb.size,hne,fun j hj => (hb.cell (p:=⟨b,o + j,none⟩) hlt).trans (hc j hj)⟩
theorem Src.but (h : Src w A n y g) (hb : But g w w') : Src w' A n y g:=by
 rcases h with h | ⟨b,o,ha,hlt,hne,hc⟩
 ·
  exact .inl h
 ·
  exact .inr ⟨b,o,ha,Nat.lt_of_lt_of_le hlt hb.size,hne,fun j hj => (World.cell?_of_block (w:=w) (a:=⟨b,o + j,none⟩) (hb.block b hlt (by simpa using hne))).trans (hc j hj)⟩
theorem Src.congr {y' : Nat → Nat} (h : Src w A n y g) (e : ∀ j,j < n → y j = y' j) : Src w A n y' g:=by
 rcases h with h | ⟨b,o,ha,hlt,hne,hc⟩
 ·
  exact .inl h
 ·
  exact .inr ⟨b,o,ha,hlt,hne,fun j hj => by rw [hc j hj,e j hj]⟩
end
theorem sliceAt_arr (g fl : Nat) (hf : fl < 64) (w : World) : (Instr.sliceAt 109 (.pointer (some ⟨g,8,none⟩)) (some (.int .i64 (fl : Int))) none none).run Tryd.prog w = .ok (.slice (some ⟨g,8 + fl,none⟩) (64 - fl) (64 - fl)) w:=by
 have e1 : Tryd.prog.arrayLen 109 = 64:=by kernel_rfl
 have e2 : ((sizeOf (Tryd.prog.elem 109)).run Tryd.prog w) = .ok 1 w:=by kernel_rfl
 rw [run_sliceAt_array_l w 109 ⟨g,8,none⟩ (by kernel_rfl) .i64 (fl : Int) (by omega) (by rw [e1]; omega),e2,e1]
 have h64 : ¬ 64 = fl:=by omega
 simp [slicedAt,Result.andThen,h64,Addr.add_mid]
def tailAt (b o m c : Nat) : Option Addr:=if c = m then some ⟨b,o,none⟩ else some ⟨b,o + m,none⟩
theorem slice_from (b o r c m : Nat) (hm : m ≤ r) (w : World) : (Instr.slice 29 (.slice (some ⟨b,o,none⟩) r c) (some (.int .i64 (m : Int))) none none).run Tryd.prog w = .ok (.slice (tailAt b o m c) (r - m) (c - m)) w:=by
 have e2 : ((sizeOf (Tryd.prog.elem 29)).run Tryd.prog w) = .ok 1 w:=by kernel_rfl
 rw [run_slice_l w 29 (some ⟨b,o,none⟩) r c (by kernel_rfl) .i64 (m : Int) (by omega) (by omega),e2]
 by_cases h : c = m
 ·
  simp [sliced,Result.andThen,tailAt,h]
 ·
  simp [sliced,Result.andThen,tailAt,h,Addr.add_mid]
theorem sliceAt_from (b o r c m : Nat) (hm : m ≤ r) (w : World) : (Instr.sliceAt 29 (.slice (some ⟨b,o,none⟩) r c) (some (.int .i64 (m : Int))) none none).run Tryd.prog w = .ok (.slice (tailAt b o m c) (r - m) (c - m)) w:=by
 rw [run_sliceAt_slice w 29 _ _ _ _ (by kernel_rfl)]
 exact slice_from b o r c m hm w
theorem Src.tail {w : World} {b o r c m g : Nat} {y : Nat → Nat} (h : Src w (some ⟨b,o,none⟩) r y g) (hm : m ≤ r) (hc : r ≤ c) : Src w (tailAt b o m c) (r - m) (fun j => y (m + j)) g:=by
 by_cases h0 : r - m = 0
 ·
  exact .inl h0
 ·
  rcases h with h | ⟨b',o',e,hlt,hne,hcl⟩
  ·
   omega
  ·
   simp only [Option.some.injEq,Addr.mk.injEq] at e
   obtain ⟨rfl,rfl,_⟩:=e
   refine .inr ⟨b,o + m,by unfold tailAt; rw [if_neg (by omega)],hlt,hne,fun j hj => ?_⟩
   rw [Nat.add_assoc]
   exact hcl (m + j) (by omega)
def lenOf : Value → Nat | .slice _ r _ => r | _ => 0
theorem infoB : (Tryd.prog.info? 5).map (·.size) = some 1:=by kernel_rfl
theorem write_calls (g : Nat) (b : Nat → Nat) (L : Nat) (A : Option Addr) (n c : Nat) (y : Nat → Nat) (hy : ∀ j,y j < 256) (hnc : n ≤ c) (hLn : L + n ≤ 4611686018427387904) (hg : g ≠ 0)
  (w : World) (hK : KT w) (hH : HashIs w g b L) (hS : Src w A n y g) :
  Calls Tryd.prog 28 #[.pointer (some ⟨g,0,none⟩),.slice A n c] w fun e w' => e = .returned (.tuple #[]) ∧ HashIs w' g (cat b L y) (L + n) ∧ But g w w':=by
 obtain ⟨T,hT⟩ : ∃ T,T = cat b L y:=⟨_,rfl⟩
 have hH : HashIs w g T L:=hH.congr fun i hi => by rw [hT]; unfold cat; rw [if_pos hi]
 have hTy : ∀ i,T (L + i) = y i:=fun i => by rw [hT]; unfold cat; rw [if_neg (by omega),Nat.add_sub_cancel_left]
 have HT:=veil hT
 have HTy:=veil hTy
 have HY:=veil hy
 have HG:=veil hg
 clear hT hTy hy hg
 go_enter Tryd.func28,Tryd.ntmps28
 go_wp2
 go_loopw [1] (fun v wr => ∃ (A : Option Addr) (k r c : Nat),k + r = n ∧ r ≤ c ∧ v = .slice A r c ∧ Src wr A r (fun j => y (k + j)) g ∧ HashIs wr g T (L + k) ∧ But g w wr ∧ KT wr)
  (fun v _ => lenOf v)
 case atStart => exact ⟨A,0,n,c,by omega,hnc,rfl,hS.congr fun j _ => by rw [Nat.zero_add],hH,But.refl _ _,hK⟩
 case round =>
  obtain ⟨A,k,r,c,hkr,hrc,rfl,hS,hH,hB,hK⟩:=hrel
  by_cases h0 : r = 0
  ·
   subst h0
   go_wp2
   go_end0
   exact ⟨rfl,by rw [← HT.out,show n = k by omega]; exact hH,hB⟩
  ·
   obtain ⟨bb,o,rfl,hlt,hne,hc⟩ : ∃ b o,A = some ⟨b,o,none⟩ ∧ b < wr.heap.size ∧ b ≠ g ∧ ∀ j,j < r → wr.cell? ⟨b,o + j,none⟩ = some (.int .u8 (y (k + j) : Nat)):=hS.resolve_left h0
   obtain ⟨s,blk,hok,hrow⟩:=hH
   obtain ⟨N,hN⟩ : ∃ N,N = L + k:=⟨_,rfl⟩
   rw [← hN] at hok hrow
   obtain ⟨fl,hfl⟩ : ∃ fl,fl = N % 64:=⟨_,rfl⟩
   have hfi : (N : Int) % 64 = (fl : Int):=by omega
   have hf64 : fl < 64:=by omega
   obtain ⟨m,hm⟩ : ∃ m,m = Nat.min r (64 - fl):=⟨_,rfl⟩
   have hm0 : 0 < m:=by rw [hm]; show 0 < min r (64 - fl); omega
   have hmr : m ≤ r:=by rw [hm]; exact Nat.min_le_left _ _
   have hmf : fl + m ≤ 64:=by rw [hm]; show fl + min r (64 - fl) ≤ 64; omega
   have cL:=hrow.length
   have fL:=World.rowIs.frozen hrow 72
   have hr0 : (0 : Int) < (r : Int):=by omega
   have hN0 : N ≤ 4611686018427387904:=by omega
   have hNm : N + m ≤ 4611686018427387904:=by omega
   have HR:=veil hrow
   have HC:=veil hc
   have HM:=veil hm
   have HF:=veil hfl
   have HN:=veil hN
   have HK:=veil hok
   have HB2:=veil hne
   clear hrow hc hm hfl hN hok hne h0
   have q1:=fun W => sliceAt_arr g fl hf64 W
   have q2:=fun W => slice_from bb o r c m hmr W
   have q3:=fun W => sliceAt_from bb o r c m hmr W
   clear cL fL
   have hsrc : ∀ j,j < m → wr.cell? ((⟨bb,o,none⟩ : Addr).add j) = some (.int .u8 (y (k + j) : Nat)):=fun j hj => by
    rw [Addr.add_mid]; exact HC.out j (by omega)
   have HSRC:=veil hsrc
   have cL:=HR.out.length
   clear hsrc
   go_upto_region 3 with ((with_reducible refine zac 20 ?_); refine zck rfl _ _ 29 29 rfl 5 Tryd.underlying29 infoB g (8 + fl) (64 - fl) (64 - fl) ⟨bb,o,none⟩ r c rfl rfl 111 73 _ HR.out m HM.out (fun j => .int .u8 (y (k + j) : Nat)) HSRC.out (by omega) (fun _ _ => rfl) ?_; intro w2 hb2 hr2)
   have hTn : ∀ j,T (N + j) = y (k + j):=fun j => by rw [HN.out,Nat.add_assoc]; exact HTy.out _
   obtain ⟨blk',hblk'⟩ : ∃ blk' : Nat → Nat,blk' = fun j => if N % 64 ≤ j ∧ j < N % 64 + m then T (N + (j - N % 64)) else blk j:=⟨_,rfl⟩
   have hr2 : HRow w2 g s blk' N:=hr2.congr fun j hj => by
    unfold hcells
    rw [hblk',← HF.out]
    dsimp only
    by_cases c1 : 8 + fl ≤ j ∧ j < 8 + fl + m
    ·
     rw [if_pos c1,if_neg (by omega),if_pos (by omega),if_pos (by omega),hTn,show j - 8 - fl = j - (8 + fl) by omega]
    ·
     rw [if_neg c1]
     by_cases c2 : j < 8
     ·
      rw [if_pos c2,if_pos c2]
     ·
      rw [if_neg c2,if_neg c2]
      by_cases c3 : j < 72
      ·
       rw [if_pos c3,if_pos c3,if_neg (by omega)]
      ·
       rw [if_neg c3,if_neg c3]
   have HBLK:=veil hblk'
   have hS2:=hS.but hb2
   have hK2:=hK.grown hb2 HG.out.symm
   have hB2:=But.trans hB hb2
   have cL:=hr2.length
   have fL:=World.rowIs.frozen hr2 72
   clear hb2 hblk' hTn hS hK hB HSRC HR HC
   have hNi : (N : Int) + (m : Int) = ((N + m : Nat) : Int):=by omega
   obtain ⟨N2,hN2⟩ : ∃ N2,N2 = N + m:=⟨_,rfl⟩
   rw [← hN2] at hNi hNm
   have HN2:=veil hN2
   clear hN2
   have hr3 : HRow (w2.setCell ⟨g,72,none⟩ (.int .i64 (N2 : Int))) g s blk' N2:=(World.rowIs.set hr2 72 _).congr fun j hj => by
    unfold hcells
    by_cases h : j = 72
    ·
     subst h; rfl
    ·
     rw [if_neg h]
     by_cases c2 : j < 8
     ·
      rw [if_pos c2,if_pos c2]
     ·
      rw [if_neg c2,if_neg c2,if_pos (by omega),if_pos (by omega)]
   have hbs : But g w2 (w2.setCell ⟨g,72,none⟩ (.int .i64 (N2 : Int))):=But.set (But.refl _ _) _ _
   have hS3:=(hS2.but hbs).tail hmr hrc
   have hK3:=hK2.grown hbs HG.out.symm
   have hB3:=But.trans hB2 hbs
   have hTb : ∀ i,N ≤ i → i < N + m → T i < 256:=fun i h1 h2 => by
    obtain ⟨d,rfl⟩ : ∃ d,i = N + d:=⟨i - N,by omega⟩
    rw [HN.out,Nat.add_assoc,HTy.out]; exact HY.out _
   have HTB:=veil hTb
   have HH3:=veil (And.intro hS3 (And.intro hK3 (And.intro hB3 hr3)))
   clear hTb hS3 hK3 hB3 hr3 hbs hS2 hK2 hB2
   have HSZ:=veil (show lenOf (.slice (tailAt bb o m c) (r - m) (c - m)) < lenOf (.slice (some ⟨bb,o,none⟩) r c) by show r - m < r; omega)
   by_cases hful : fl + m = 64
   ·
    have hq : (fl : Int) + (m : Int) = 64:=by omega
    have hok2:=HK.out.full (m:=m) (by rw [← HF.out]; exact hful) HTB.out
    rw [← HBLK.out,← HN2.out] at hok2
    have HO:=veil hok2
    clear hok2
    go_upto_region 6 with (fail)
    clear cL fL hr2 q1 q2 q3
    generalize w2.setCell ⟨g,72,none⟩ (.int .i64 (N2 : Int)) = w3 at *
    go_wp2_with ((with_reducible refine (mix_calls g s blk' N2 (HK.out.s ▸ blocksN_ok _ _) HO.out.lt _ HH3.out.2.1 HH3.out.2.2.2).mono ?_); rintro e w4 ⟨rfl,hr4,hb4⟩)
    go_roundw
    case rel =>
     refine ⟨_,k + m,r - m,c - m,by omega,by omega,rfl,((HH3.out.1).but hb4).congr fun j _ => by rw [Nat.add_assoc],⟨blockN (fun t => word blk' (4 * t)) s,blk',?_,?_⟩,But.trans HH3.out.2.2.1 hb4,HH3.out.2.1.grown hb4 HG.out.symm⟩
     ·
      rw [← Nat.add_assoc,← HN.out,← HN2.out]; exact HO.out
     ·
      rw [← Nat.add_assoc,← HN.out,← HN2.out]; exact hr4
    case measure => exact HSZ.out
   ·
    have hq : ¬ ((fl : Int) + (m : Int) = 64):=by omega
    have hok2:=HK.out.part (m:=m) (by rw [← HF.out]; omega) HTB.out
    rw [← HBLK.out,← HN2.out] at hok2
    have HO:=veil hok2
    clear hok2
    go_wp2
    go_roundw
    case rel =>
     refine ⟨_,k + m,r - m,c - m,by omega,by omega,rfl,(HH3.out.1).congr fun j _ => by rw [Nat.add_assoc],⟨s,blk',?_,?_⟩,HH3.out.2.2.1,HH3.out.2.1⟩
     ·
      rw [← Nat.add_assoc,← HN.out,← HN2.out]; exact HO.out
     ·
      rw [← Nat.add_assoc,← HN.out,← HN2.out]; exact HH3.out.2.2.2
    case measure => exact HSZ.out
theorem infoB3 : (Tryd.prog.info? 5).map (fun i => (i.zero,i.size,i.bytes)) = some (some (.int .u8 0),1,1):=by kernel_rfl
def padB (len : Nat) (i : Nat) : Nat:=padded (fun _ => 0) len (len + i)
def padN (len : Nat) : Nat:=64 * nBlocks len - len
theorem padN_eq (len : Nat) : padN len = 9 + (64 - (len + 9) % 64) % 64:=by unfold padN nBlocks; omega
theorem padN_all (len : Nat) : len + padN len = 64 * nBlocks len:=by unfold padN nBlocks; omega
theorem padB_lt (len i : Nat) : padB len i < 256:=by
 unfold padB padded
 rw [if_neg (by omega)]
 split
 ·
  omega
 ·
  split
  ·
   omega
  ·
   exact Nat.mod_lt _ (by omega)
theorem cat_pad (b : Nat → Nat) (len : Nat) : cat b len (padB len) = padded b len:=by
 funext i
 unfold cat padB
 by_cases h : i < len
 ·
  rw [if_pos h]; unfold padded; rw [if_pos h]
 ·
  rw [if_neg h,show len + (i - len) = i by omega]; unfold padded; rw [if_neg h,if_neg h]
def padK (len k : Nat) (j : Nat) : Nat:=if j = 0 then 128 else if j + k < padN len then 0 else padB len j
theorem padK_all (len j : Nat) (hj : j < padN len) : padK len 8 j = padB len j:=by
 unfold padK
 by_cases h : j = 0
 ·
  subst h; rw [if_pos rfl]; unfold padB padded; rw [if_neg (by omega),if_pos (by omega)]
 ·
  rw [if_neg h]
  by_cases h2 : j + 8 < padN len
  ·
   rw [if_pos h2]; unfold padB padded
   have:=padN_all len
   rw [if_neg (by omega),if_neg (by omega),if_pos (by omega)]
  ·
   rw [if_neg h2]
theorem padB_last {len k : Nat} (hk : k < 8) : padB len (padN len - 1 - k) = 8 * len / 256 ^ k % 256:=by
 have h1:=padN_eq len
 have h2:=padN_all len
 unfold padB padded
 rw [if_neg (by omega),if_neg (by omega),if_neg (by omega),show 64 * nBlocks len - 1 - (len + (padN len - 1 - k)) = k by omega]
theorem byte_shift (x k : Nat) : (x : Int) / 2 ^ (8 * k) % 256 = ((x / 256 ^ k % 256 : Nat) : Int):=by
 rw [Int.natCast_emod,Int.natCast_ediv,Int.natCast_pow,Nat.mul_comm 8 k,Nat.mul_comm k 8,Int.pow_mul]
 rfl
theorem padding_calls (len : Nat) (hl : len ≤ 288230376151711744) (w : World) :
  Calls Tryd.prog 55 #[.int .i64 (len : Int)] w fun e w' => e = .returned (.slice (some ⟨w.heap.size,0,none⟩) (padN len) (padN len)) ∧ w'.rowIs w.heap.size 5 (padN len) (fun j => .int .u8 (padB len j : Nat)) ∧ Below w.heap.size w w':=by
 have hP:=padN_eq len
 obtain ⟨P,hPP⟩ : ∃ P,P = padN len:=⟨_,rfl⟩
 rw [← hPP] at hP
 obtain ⟨o,ho⟩ : ∃ o,o = (len + 9) % 64:=⟨_,rfl⟩
 obtain ⟨z,hz⟩ : ∃ z,z = (64 - o) % 64:=⟨_,rfl⟩
 have e1 : ((len : Int) + 9) % 64 = (o : Int):=by omega
 have e2 : (64 - (o : Int)) % 64 = (z : Int):=by omega
 have e3 : 9 + (z : Int) = (P : Int):=by omega
 have ho64 : o < 64:=by omega
 have hz64 : z < 64:=by omega
 have hP9 : 9 ≤ P:=by omega
 have hP72 : P ≤ 72:=by omega
 have hmk:=fun W => run_make_row' (P:=Tryd.prog) 29 5 (.int .u8 0) 1 Tryd.underlying29 infoB3 rfl .i64 .i64 P (by omega) (by omega) W
 have HP:=veil hPP
 clear hP hz ho hPP
 go_enter Tryd.func55,Tryd.ntmps55
 go_upto_region 5 with (fail)
 have hR:=World.rowIs_made w (.int .u8 0) P 5
 have hb : Below w.heap.size w (w.alloc (.cells (madeCells #[.int .u8 0] P) 5)):=(Below.refl _ _).alloc (Nat.le_refl _) _
 generalize w.alloc (.cells (madeCells #[.int .u8 0] P) 5) = w1 at *
 generalize hgz : w.heap.size = g at *
 have HGZ:=veil hgz
 clear hgz hmk
 have c0:=hR.cell (show 0 < P by omega)
 have f0:=hR.frozen 0
 have hP0 : 0 < P:=by omega
 go_upto_region 6 with (fail)
 have hR1 : (w1.setCell ⟨g,0,none⟩ (.int .u8 128)).rowIs g 5 P (fun j => .int .u8 (padK len 0 j : Nat)):=(hR.set 0 _).congr fun j hj => by
  unfold padK
  by_cases h : j = 0
  ·
   rw [if_pos h,if_pos h]; rfl
  ·
   rw [if_neg h,if_neg h,if_pos (by rw [← HP.out]; omega)]; rfl
 have hb1 : Below g w (w1.setCell ⟨g,0,none⟩ (.int .u8 128)):=zab hb (Nat.le_refl _) _
 generalize w1.setCell ⟨g,0,none⟩ (.int .u8 128) = w2 at *
 have e4 : (len : Int) * 8 = ((8 * len : Nat) : Int):=by omega
 obtain ⟨bc,hbc⟩ : ∃ bc,bc = 8 * len:=⟨_,rfl⟩
 have hbl : bc ≤ 2305843009213693952:=by omega
 rw [← hbc] at e4
 have HBC:=veil hbc
 clear c0 f0 hR hb hbc
 go_wp2
 go_loopw [25] (fun v wr => ∃ k : Nat,k ≤ 8 ∧ v = .int .i64 (k : Int) ∧ wr.rowIs g 5 P (fun j => .int .u8 (padK len k j : Nat)) ∧ Below g w wr)
  (fun v _ => 8 - (intOf v).toNat)
 case atStart => exact ⟨0,by omega,rfl,hR1,hb1⟩
 case round =>
  obtain ⟨k,hk,rfl,hR,hb⟩:=hrel
  by_cases hlt : k < 8
  ·
   obtain ⟨d,hd⟩ : ∃ d,d = P - 1 - k:=⟨_,rfl⟩
   have hdP : d < P:=by omega
   have hdi : (P : Int) - 1 - (k : Int) = (d : Int):=by omega
   have c0:=hR.cell hdP
   have f0:=hR.frozen d
   have HD:=veil hd
   clear hd
   go_wp2
   go_roundw
   case rel =>
    refine ⟨k + 1,by omega,by go_num,(hR.set d _).congr fun j hj => ?_,zab hb (Nat.le_refl _) _⟩
    by_cases h : j = d
    ·
     rw [if_pos h,byte_shift]
     have hd:=HD.out
     unfold padK
     rw [if_neg (by omega),← HP.out,if_neg (by omega),h,hd,HP.out,padB_last hlt,HBC.out]
    ·
     rw [if_neg h]
     have hd:=HD.out
     unfold padK
     rw [← HP.out]
     by_cases h0 : j = 0
     ·
      rw [if_pos h0,if_pos h0]
     ·
      rw [if_neg h0,if_neg h0]
      by_cases h1 : j + k < P
      ·
       rw [if_pos h1,if_pos (by omega)]
      ·
       rw [if_neg h1,if_neg (by omega)]
   case measure => simp [intOf]; omega
  ·
   obtain rfl : k = 8:=by omega
   go_wp2
   go_ret
   exact ⟨by rw [HP.out,HGZ.out]; rfl,by rw [HGZ.out,← HP.out]; exact hR.congr (fun j hj => by rw [padK_all len j (by rw [← HP.out]; exact hj)]),by rw [HGZ.out]; exact hb⟩
/-! ### New,Len,Clone -/
def zH : Array Value:=arrOf 73 (hcells ⟨0,0,0,0,0,0,0,0⟩ (fun _ => 0) 0)
theorem zH_size : zH.size = 73:=zah _ _
theorem zero_hash (w : World) : (zeroValue 111).run Tryd.prog w = .ok (.agg zH) w:=(zero_of_info (P:=Tryd.prog) (t:=111) (v:=.agg zH) (n:=73) (by kernel_rfl)).1 w
theorem hok_none (b : Nat → Nat) : HOk b 0 (blocksN (fun _ => 0) 0) (fun _ => 0):=⟨rfl,fun _ h => by omega,fun _ => by decide⟩
theorem new_calls (w : World) :
  Calls Tryd.prog 27 #[] w fun e w' => e = .returned (.pointer (some ⟨w.heap.size,0,none⟩)) ∧ (∀ b,HashIs w' w.heap.size b 0) ∧ Below w.heap.size w w':=by
 have z1:=zero_hash
 have z2:=zH_size
 go_enter Tryd.func27,Tryd.ntmps27
 go_wp2
 generalize hX : Obj.cells _ 111 = X
 have hX2 : X = .cells (arrOf 73 (hcells (blocksN (fun _ => 0) 0) (fun _ => 0) 0)) 111:=by rw [← hX]; rfl
 clear hX
 subst hX2
 have hr : HRow (w.alloc (.cells (arrOf 73 (hcells (blocksN (fun _ => 0) 0) (fun _ => 0) 0)) 111)) w.heap.size (blocksN (fun _ => 0) 0) (fun _ => 0) 0:=zci w 73 111 _ rfl
 have hb : Below w.heap.size w (w.alloc (.cells (arrOf 73 (hcells (blocksN (fun _ => 0) 0) (fun _ => 0) 0)) 111)):=(Below.refl _ _).alloc (Nat.le_refl _) _
 go_ret
 exact ⟨rfl,fun b => ⟨_,_,hok_none b,hr⟩,hb⟩
theorem infoH : (Tryd.prog.info? 111).map (·.size) = some 73:=by kernel_rfl
theorem hone (s : St) (blk : Nat → Nat) (len : Nat) : (arrOf 73 (hcells s blk len)).all (·.oneCell') = true:=zbm fun j _ => by
 unfold hcells
 split
 ·
  rfl
 ·
  split <;> rfl
theorem clone_calls (g L : Nat) (b : Nat → Nat) (w : World) (hH : HashIs w g b L) :
  Calls Tryd.prog 54 #[.pointer (some ⟨g,0,none⟩)] w fun e w' => e = .returned (.pointer (some ⟨w.heap.size,0,none⟩)) ∧ HashIs w' w.heap.size b L ∧ Below w.heap.size w w':=by
 obtain ⟨s,blk,hok,hrow⟩:=hH
 have hg:=blkOf hrow
 obtain ⟨X,hX⟩ : ∃ X,X = arrOf 73 (hcells s blk L):=⟨_,rfl⟩
 rw [← hX] at hg
 have HG:=veil hg
 have HX:=veil (show X.size = 73 ∧ X.all (·.oneCell') = true from ⟨by rw [hX,zah],by rw [hX]; exact hone s blk L⟩)
 have HI:=veil (show (Tryd.prog.info? 111).map (·.size) = some X.size by rw [HX.out.1]; exact infoH)
 have HXX:=veil hX
 have z1:=zero_hash
 have HO:=veil hok
 clear hg hX hok hrow
 go_enter Tryd.func54,Tryd.ntmps54
 go_wp2_with (first
  | ((with_reducible refine zac 6 ?_); refine wpList_load_row rfl 111 _ rfl g rfl 111 X (0,0) _ HG.out Tryd.underlying111 rfl HI.out ?_)
  | ((with_reducible refine zag ?_); refine wpList_store_row rfl 111 _ _ rfl w.heap.size X rfl rfl 111 _ (heap_alloc_last w _) HI.out (by rw [HX.out.1,zH_size]) HX.out.2 ?_; rw [World.setRow_alloc_new]))
 go_ret
 refine ⟨rfl,⟨s,blk,HO.out,?_⟩,(Below.refl _ _).alloc (Nat.le_refl _) _⟩
 rw [HXX.out]
 exact zci w 73 111 _ rfl
def dByte (s : St) (i : Nat) : Nat:=s.at (i / 4) / 256 ^ (3 - i % 4) % 256
def dgst (b : Nat → Nat) (len : Nat) : Array Value:=arrOf 32 fun i => .int .u8 (dByte (shaSt b len) i : Nat)
theorem infoD : (Tryd.prog.info? 33).map (·.size) = some 32:=by kernel_rfl
theorem zeros32 : (#[.int .u8 0,.int .u8 0,.int .u8 0,.int .u8 0,.int .u8 0,.int .u8 0,.int .u8 0,.int .u8 0,.int .u8 0,.int .u8 0,.int .u8 0,.int .u8 0,.int .u8 0,.int .u8 0,.int .u8 0,.int .u8 0,.int .u8 0,.int .u8 0,.int .u8 0,.int .u8 0,.int .u8 0,.int .u8 0,.int .u8 0,.int .u8 0,.int .u8 0,.int .u8 0,.int .u8 0,.int .u8 0,.int .u8 0,.int .u8 0,.int .u8 0,.int .u8 0] : Array Value) = arrOf 32 (fun _ => .int .u8 0):=rfl
theorem shaSt_of {b : Nat → Nat} {L : Nat} {s : St} {blk : Nat → Nat} (h : HOk (cat b L (padB L)) (L + padN L) s blk) : s = shaSt b L:=by
 rw [h.s,padN_all,cat_pad,Nat.mul_div_cancel_left _ (by decide : 0 < 64)]
 rfl
theorem hsum_calls (g L : Nat) (b : Nat → Nat) (hL : L ≤ 1048576) (w : World) (hK : KT w) (hH : HashIs w g b L) :
  Calls Tryd.prog 29 #[.pointer (some ⟨g,0,none⟩)] w fun e w' => e = .returned (.agg (dgst b L)) ∧ Below w.heap.size w w':=by
 go_enter Tryd.func29,Tryd.ntmps29
 go_upto_region 1 with (fail)
 rw [zeros32]
 have hR0 : (w.alloc (.cells (arrOf 32 (fun _ => .int .u8 0)) 33)).rowIs w.heap.size 33 32 (fun _ => .int .u8 0):=zci w 32 33 _ rfl
 have hb0 : Below w.heap.size w (w.alloc (.cells (arrOf 32 (fun _ => .int .u8 0)) 33)):=(Below.refl _ _).alloc (Nat.le_refl _) _
 have hK0:=hK.alloc (.cells (arrOf 32 (fun _ => .int .u8 0)) 33)
 have hH0:=hH.alloc (.cells (arrOf 32 (fun _ => .int .u8 0)) 33)
 have hg0 : 0 < w.heap.size:=hK.lt
 generalize w.alloc (.cells (arrOf 32 (fun _ => .int .u8 0)) 33) = w1 at *
 generalize hgr : w.heap.size = gR at *
 have HGR:=veil hgr
 clear hgr hK hH
 go_wp2_with fail
 refine (clone_calls g L b w1 hH0).mono ?_
 rintro e w2 ⟨rfl,hC,hb2⟩
 have hR2:=zaa hR0 hb2 hR0.lt
 have hK2:=hK0.call hb2
 have hH2:=hH0.call hb2
 have hB2:=hb0.trans (hb2.mono (Nat.le_of_lt hR0.lt))
 have hgC : gR < w1.heap.size:=hR0.lt
 have hz2:=hC.lt
 generalize w1.heap.size = gC at *
 have cL:=hH2.len
 clear hR0 hK0 hH0 hb0 hb2
 go_wp2_with fail
 refine (padding_calls L (by omega) w2).mono ?_
 rintro e w3 ⟨rfl,hP,hb3⟩
 have hC3:=hC.call hb3
 have hK3:=hK2.call hb3
 have hR3:=zaa hR2 hb3 hR2.lt
 have hB3:=hB2.trans (hb3.mono (by omega))
 have hS3 : Src w3 (some ⟨w2.heap.size,0,none⟩) (padN L) (padB L) gC:=.inr ⟨_,0,rfl,hP.lt,by omega,fun j hj => by rw [Nat.zero_add]; exact hP.cell hj⟩
 clear hC hK2 hR2 hB2 hb3 cL hH2 hP
 go_wp2_with fail
 refine (write_calls gC b L _ (padN L) (padN L) (padB L) (padB_lt L) (Nat.le_refl _) (by have:=padN_eq L; omega) (by omega) w3 hK3 hC3 hS3).mono ?_
 rintro e w4 ⟨rfl,⟨s,blk,hok,hrow⟩,hb4⟩
 have hR4:=row_but hR3 hb4 (by omega)
 have hB4:=hB3.trans (But.new hb4 (B:=gR) (by omega) (by have:=hR3.lt; omega))
 obtain rfl:=shaSt_of hok
 clear hR3 hB3 hS3 hC3 hK3 hb4 hok
 obtain ⟨sh,hsh⟩ : ∃ sh,sh = shaSt b L:=⟨_,rfl⟩
 rw [← hsh] at hrow
 have HSH:=veil hsh
 clear hsh
 have hlt4 : gR < w4.heap.size:=hR4.lt
 go_upto_region 4 with (fail)
 rw [zeros32]
 have hO5 : (w4.alloc (.cells (arrOf 32 (fun _ => .int .u8 0)) 33)).rowIs w4.heap.size 33 32 (fun _ => .int .u8 0):=zci w4 32 33 _ rfl
 have hR5:=hR4.alloc (.cells (arrOf 32 (fun _ => .int .u8 0)) 33)
 have hB5:=hB4.alloc (by omega) (.cells (arrOf 32 (fun _ => .int .u8 0)) 33)
 have hw5:=veil (hrow.alloc (.cells (arrOf 32 (fun _ => .int .u8 0)) 33)).words
 generalize w4.alloc (.cells (arrOf 32 (fun _ => .int .u8 0)) 33) = w5 at *
 generalize hgo : w4.heap.size = gO at *
 have hgRO : gR < gO:=by omega
 clear hrow hR4 hB4 hgo
 have kx : ∀ j : Nat,j < 8 → ∀ W,(Instr.index 108 (.agg (stArr sh)) (.int .i64 (j : Int))).run Tryd.prog W = .ok (.int .u32 (sh.at j : Nat)) W:=fun j hj W =>
  zbn (P:=Tryd.prog) (t:=108) (v:=.int .u32 (sh.at j : Nat)) Tryd.underlying108 (by kernel_rfl) (fun W => run_part_plain (P:=Tryd.prog) W (e:=107) (by kernel_rfl) (off:=j) (zbc (n:=8) (fun i => .int .u32 (sh.at i : Nat)) hj)) hj .i64 W
 have KX:=veil kx
 have HSL:=veil (stList sh)
 clear kx
 go_wp2_with ((with_reducible refine zac 20 ?_); refine wpList_load_mid rfl 108 _ rfl gC 0 rfl _ _ hw5.out Tryd.underlying108 rfl (by simpa using infoS) ?_; rw [HSL.out]; generalize hSA : stArr sh = SA at *; have HSA:=veil hSA; clear hSA)
 clear hw5
 go_loopw [21] (fun v wr => ∃ i : Nat,i ≤ 8 ∧ v = .int .i64 (i : Int) ∧ wr.rowIs gO 33 32 (fun p => .int .u8 ((if p < 4 * i then dByte sh p else 0 : Nat) : Int)) ∧ wr.rowIs gR 33 32 (fun _ => .int .u8 0) ∧ Below gR w wr)
  (fun v _ => 8 - (intOf v).toNat)
 case atStart => exact ⟨0,by omega,rfl,hO5,hR5,hB5⟩
 case round =>
  obtain ⟨i,hi,rfl,hO,hR,hB⟩:=hrel
  by_cases hlt : i < 8
  ·
   have ki:=KX.out i hlt
   obtain ⟨x,hx⟩ : ∃ x,x = sh.at i:=⟨_,rfl⟩
   rw [← hx] at ki
   have HX:=veil hx
   have hd : decide ((i : Int) < 8) = true:=by simp; omega
   clear hx
   go_wp2
   go_loopw [25] (fun v wr => ∃ j : Nat,j ≤ 4 ∧ v = .int .i64 (j : Int) ∧ wr.rowIs gO 33 32 (fun p => .int .u8 ((if p < 4 * i + j then dByte sh p else 0 : Nat) : Int)) ∧ wr.rowIs gR 33 32 (fun _ => .int .u8 0) ∧ Below gR w wr)
    (fun v _ => 4 - (intOf v).toNat)
   case atStart => exact ⟨0,by omega,rfl,hO,hR,hB⟩
   case round =>
    obtain ⟨j,hj,rfl,hO,hR,hB⟩:=hrel
    by_cases hlj : j < 4
    ·
     obtain ⟨p,hp⟩ : ∃ p,p = 4 * i + j:=⟨_,rfl⟩
     have hp32 : p < 32:=by omega
     have hpi : (i : Int) * 4 + (j : Int) = (p : Int):=by omega
     have c0:=hO.cell hp32
     have f0:=hO.frozen p
     have HP:=veil hp
     clear hp
     go_wp2
     go_roundw
     case rel =>
      refine ⟨j + 1,by omega,by go_num,(hO.set p _).congr fun q hq => ?_,zan hR (by omega) _,zab hB (by omega) _⟩
      have hp:=HP.out
      by_cases h : q = p
      ·
       rw [if_pos h,if_pos (by omega),byte_shift]
       unfold dByte
       rw [show q / 4 = i by omega,show 3 - q % 4 = 3 - j by omega,← HX.out]
      ·
       rw [if_neg h]
       by_cases h2 : q < 4 * i + j
       ·
        rw [if_pos h2,if_pos (by omega)]
       ·
        rw [if_neg h2,if_neg (by omega)]
     case measure => simp [intOf]; omega
    ·
     have e4 : j = 4:=by omega
     have hjf : decide ((j : Int) < 4) = false:=by simp; omega
     have hO : wr.rowIs gO 33 32 (fun p => .int .u8 ((if p < 4 * (i + 1) then dByte sh p else 0 : Nat) : Int)):=hO.congr fun p _ => by rw [e4,show 4 * (i + 1) = 4 * i + 4 by omega]
     clear e4 hlj hj
     go_wp2
     go_roundw
     case rel => exact ⟨i + 1,by omega,by go_num,hO,hR,hB⟩
     case measure => simp [intOf]; omega
  ·
   have e8 : i = 8:=by omega
   have hif : decide ((i : Int) < 8) = false:=by simp; omega
   have hO : wr.rowIs gO 33 32 (fun p => .int .u8 (dByte sh p : Nat)):=hO.congr fun p hp => by rw [if_pos (by omega)]
   have HA:=veil (blkOf hO)
   have HN:=veil (blkOf hR)
   obtain ⟨D,hD⟩ : ∃ D,D = arrOf 32 (fun p => .int .u8 (dByte sh p : Nat)):=⟨_,rfl⟩
   rw [← hD] at HA
   have hs : D.size = 32:=by rw [hD,zah]
   have h1 : D.all (·.oneCell') = true:=by rw [hD]; exact zbm fun _ _ => rfl
   have HZ:=veil (And.intro hs (And.intro h1 (show (Tryd.prog.info? 33).map (·.size) = some D.size by rw [hs]; exact infoD)))
   have HD:=veil (show D = dgst b L by rw [hD,HSH.out]; rfl)
   clear hs h1 hD e8 hlt hi hO hR
   go_wp2_with (first
    | ((with_reducible refine zac 41 ?_); refine wpList_load_row rfl 33 _ rfl gO rfl 33 D (0,0) _ HA.out Tryd.underlying33 rfl HZ.out.2.2 ?_)
    | ((with_reducible refine zag ?_); refine wpList_store_row rfl 33 _ _ rfl gR D rfl rfl 33 _ HN.out HZ.out.2.2 (by rw [HZ.out.1,zah]) HZ.out.2.1 ?_))
   exact bodyPost_ret (results_cell_row rfl _ _ gR 33 D (0,0) _ rfl (setRow_heap wr gR _ D 33 (0,0) HN.out) Tryd.underlying33 rfl HZ.out.2.2) rfl ⟨by rw [HD.out],by rw [HGR.out]; exact zcr hB (Nat.le_refl _) _⟩
theorem dgst_size (b : Nat → Nat) (n : Nat) : (dgst b n).size = 32:=zah _ _
theorem Src.at {w : World} {A : Option Addr} {n g g' : Nat} {y : Nat → Nat} (h : Src w A n y g) (hg : w.heap.size ≤ g') : Src w A n y g':=by
 rcases h with h | ⟨b,o,ha,hlt,_,hc⟩
 ·
  exact .inl h
 ·
  exact .inr ⟨b,o,ha,hlt,by omega,hc⟩
theorem cat_none (b y : Nat → Nat) : cat b 0 y = y:=by funext i; unfold cat; rw [if_neg (by omega),Nat.sub_zero]
theorem sum_calls (A : Option Addr) (n c : Nat) (y : Nat → Nat) (hy : ∀ j,y j < 256) (hnc : n ≤ c) (hn : n ≤ 1048576) (w : World) (hK : KT w) (hS : Src w A n y w.heap.size) :
  Calls Tryd.prog 12 #[.slice A n c] w fun e w' => e = .returned (.agg (dgst y n)) ∧ Below w.heap.size w w':=by
 have hS0:=hS.at (Nat.le_refl w.heap.size)
 go_enter Tryd.func12,Tryd.ntmps12
 go_upto_region 1 with (fail)
 rw [zeros32]
 have hR0 : (w.alloc (.cells (arrOf 32 (fun _ => .int .u8 0)) 33)).rowIs w.heap.size 33 32 (fun _ => .int .u8 0):=zci w 32 33 _ rfl
 have hb0 : Below w.heap.size w (w.alloc (.cells (arrOf 32 (fun _ => .int .u8 0)) 33)):=(Below.refl _ _).alloc (Nat.le_refl _) _
 have hK0:=hK.alloc (.cells (arrOf 32 (fun _ => .int .u8 0)) 33)
 have hg0 : 0 < w.heap.size:=hK.lt
 have hS1:=(hS.at (g':=w.heap.size + 1) (by omega)).below hb0
 have hsz : (w.alloc (.cells (arrOf 32 (fun _ => .int .u8 0)) 33)).heap.size = w.heap.size + 1:=by simp
 generalize w.alloc (.cells (arrOf 32 (fun _ => .int .u8 0)) 33) = w1 at *
 generalize hgr : w.heap.size = gR at *
 have HGR:=veil hgr
 have HY:=veil hy
 clear hgr hK hS hS0 hy
 go_wp2_with fail
 refine (new_calls w1).mono ?_
 rintro e w2 ⟨rfl,hC,hb2⟩
 have hR2:=zaa hR0 hb2 hR0.lt
 have hK2:=hK0.call hb2
 have hB2:=hb0.trans (hb2.mono (by omega))
 have hS2:=hS1.below hb2
 rw [hsz] at hC ⊢
 have HC:=veil (hC (fun _ => 0))
 clear hR0 hK0 hb0 hb2 hS1 hC hsz
 go_wp2_with fail
 refine (write_calls (gR + 1) (fun _ => 0) 0 A n c y HY.out hnc (by omega) (by omega) w2 hK2 HC.out hS2).mono ?_
 rintro e w3 ⟨rfl,hH3,hb3⟩
 rw [Nat.zero_add,cat_none] at hH3
 have hR3:=row_but hR2 hb3 (by omega)
 have hK3:=hK2.grown hb3 (by omega)
 have hB3:=hB2.trans (But.new hb3 (B:=gR) (by omega) (by have:=hR2.lt; omega))
 clear hR2 hK2 hB2 hS2 HC hb3
 go_wp2_with fail
 refine (hsum_calls (gR + 1) n y hn w3 hK3 hH3).mono ?_
 rintro e w4 ⟨rfl,hb4⟩
 have hR4:=zaa hR3 hb4 hR3.lt
 have hB4:=hB3.trans (hb4.mono (by have:=hR3.lt; omega))
 have HN:=veil (blkOf hR4)
 have HZ:=veil (And.intro (dgst_size y n) (And.intro (show (dgst y n).all (·.oneCell') = true from zbm fun _ _ => rfl) (show (Tryd.prog.info? 33).map (·.size) = some (dgst y n).size by rw [dgst_size]; exact infoD)))
 obtain ⟨D,hD⟩ : ∃ D,D = dgst y n:=⟨_,rfl⟩
 rw [← hD] at HZ ⊢
 have HD:=veil hD
 clear hR3 hK3 hB3 hH3 hb4 hR4 hD
 go_wp2_with ((with_reducible refine zag ?_); refine wpList_store_row rfl 33 _ _ rfl gR D rfl rfl 33 _ HN.out HZ.out.2.2 (by rw [HZ.out.1,zah]) HZ.out.2.1 ?_)
 exact bodyPost_ret (results_cell_row rfl _ _ gR 33 D (0,0) _ rfl (setRow_heap w4 gR _ D 33 (0,0) HN.out) Tryd.underlying33 rfl HZ.out.2.2) rfl ⟨by rw [HD.out],by rw [HGR.out]; exact zcr hB4 (Nat.le_refl _) _⟩
section
variable {w wr w' : World} {gR gT gH gK N : Nat} {tx : Nat → Value} {st st' : Nat → Value}
end
def hst (s : St) : Nat → Value:=fun j => .int .u32 (s.at j : Nat)
def upTo (y : Nat → Nat) (n j : Nat) : Nat:=if j < n then y j else 0
def kb (y : Nat → Nat) (n : Nat) : Nat → Nat:=if n > 64 then upTo (fun j => dByte (shaSt y n) j) 32 else upTo y n
def kx (k : Nat → Nat) (x : Nat) (j : Nat) : Value:=.int .u8 ((k j ^^^ x : Nat) : Int)
end Go.Proofs.YtihophdbkjhopaaDoor
