/-
  Of Made2 SMath SSpec SBits HBase SWords HRot HWords HMix HWrite.
-/
import Derived.WalkKit
import Derived.Test.YthlbemnbmbmjhaaGreatDoorRows
import Derived.Deep.MidRow
import Derived.Deep.WholeRow
import Derived.ChangeKeysEq
import Derived.WalkSpells
import Derived.WalkLawsBesides
import Derived.Deep.LoopGhost
import Derived.BigQuiet
import Derived.Deep.QuietTactic
import Derived.Deep.RegionWith
import Derived.Deep.Cut
import Derived.Deep.CutRange
import Derived.Deep.RegionHeld3
import Derived.StillTailTactics
import Derived.IntWalk
import Derived.Laws.CopyOwn
import Derived.Test.YthlbemnbmbmjhaaGreatDoorZC2
import Derived.Test.YthlbemnbmbmjhaaGreatDoorZC1
set_option maxRecDepth 1000000
set_option maxHeartbeats 20000000
namespace Go.Proofs.YthlbemnbmbmjhaaGreatDoor
open Go.RowKit
open Go.Value renaming int → vI
open Go.IntKind renaming u64 → vU
open Go.Act renaming put → aP
open List renaming setIfInBounds_toArray → lA, set_cons_zero → lZ, set_cons_succ → lS
section
variable {P : Program} {Q : Exit → Act → World → Prop} {l : List Oper} {m : Nat} {a : Act} {w : World} {ty t : TypeId} {zs cells : Array Value} {d de : Tmp} {y : Operand}
theorem run_ext {o : Oper} {x : Operand} {i : Nat} {vs : Array Value} {v : Value} (ho : o.op = .extract x i) (hx : a.eval x = .tuple vs) (hv : vs[i]? = some v) (W : World) : (execOp a.eval o).run P W = .ok (.value v) W:=by
 unfold execOp
 simp only [ho]
 generalize a.eval = ρ at *
 rw [hx]
 simp [Instr.extract,go_sem,hv]
theorem zkd {i : Nat} {o : Oper} {ops : Array Oper} {v : Value} {K : Act → World → Prop} {a : Act} {w : World} (ho : ops[i]? = some o) (hg : o.guard = none) (he : (execOp a.eval o).run P w = .ok (.value v) w) (h : K (a.put o.dst v) w) : wpOp P ops Q i K a w:=by
 refine zbj ho hg ?_
 unfold Oper.wp
 rw [he,Oper.upon_value]
 exact h
theorem rest_var2 {v vx : Value} {z : Operand} {dx : Tmp} (ox oa os oe : Oper) (hlen : l.length = m + 4) (hox : l.toArray[m]? = some ox) (hoa : l.toArray[m + 1]? = some oa) (hos : l.toArray[m + 2]? = some os) (hoe : l.toArray[m + 3]? = some oe) (hoa2 : oa.op = .alloc ty) (ho : os.op = .store ty (.tmp d) y) (hoe2 : oe.op = .assign z)
  (hdx : ox.dst = some dx) (hda : oa.dst = some d) (hd : os.dst = none) (hde : oe.dst = some de) (hgx : ox.guard = none) (hga : oa.guard = none) (hg : os.guard = none) (hge : oe.guard = none) (hne : dx ≠ d)
  (hr : Region.ready .any l.toArray (marked m 0 (Array.replicate l.length false)) = [m,m + 1]) (hr1 : Region.ready .any l.toArray (marked (m + 1) 0 (Array.replicate l.length false)) = [m + 1]) (hr2 : Region.ready .any l.toArray (marked (m + 2) 0 (Array.replicate l.length false)) = [m + 2]) (hr3 : Region.ready .any l.toArray (marked (m + 3) 0 (Array.replicate l.length false)) = [m + 3]) (hr4 : Region.ready .any l.toArray (marked (m + 4) 0 (Array.replicate l.length false)) = [])
  (hrb : Region.ready .any l.toArray ((marked m 0 (Array.replicate l.length false)).setIfInBounds (m + 1) true) = [m,m + 2])
  (hrc : Region.ready .any l.toArray (((marked m 0 (Array.replicate l.length false)).setIfInBounds (m + 1) true).setIfInBounds (m + 2) true) = [m])
  (hmk : (marked m 0 (Array.replicate l.length false)).setIfInBounds m true = marked (m + 1) 0 (Array.replicate l.length false))
  (hmk1 : (marked (m + 1) 0 (Array.replicate l.length false)).setIfInBounds (m + 1) true = marked (m + 2) 0 (Array.replicate l.length false))
  (hmkb : ((marked m 0 (Array.replicate l.length false)).setIfInBounds (m + 1) true).setIfInBounds m true = marked (m + 2) 0 (Array.replicate l.length false))
  (hmk2 : (marked (m + 2) 0 (Array.replicate l.length false)).setIfInBounds (m + 2) true = marked (m + 3) 0 (Array.replicate l.length false))
  (hmkc : (((marked m 0 (Array.replicate l.length false)).setIfInBounds (m + 1) true).setIfInBounds (m + 2) true).setIfInBounds m true = marked (m + 3) 0 (Array.replicate l.length false))
  (hmk3 : (marked (m + 3) 0 (Array.replicate l.length false)).setIfInBounds (m + 3) true = marked (m + 4) 0 (Array.replicate l.length false))
  (hz : ∀ W,(Instr.alloc ty true (.tuple #[])).run P W = .ok (ptrTo W.heap.size) (W.alloc (.cells zs t)))
  (hxv : ∀ W,(execOp a.eval ox).run P W = .ok (.value vx) W) (hxv2 : ∀ g W,(execOp (a.put (some d) (ptrTo g)).eval ox).run P W = .ok (.value vx) W)
  (hx : ∀ g,(a.put (some d) (ptrTo g)).eval (.tmp d) = ptrTo g) (hx2 : ∀ g,((a.put (some dx) vx).put (some d) (ptrTo g)).eval (.tmp d) = ptrTo g)
  (hy : ∀ g,(a.put (some d) (ptrTo g)).eval y = .agg cells) (hy2 : ∀ g,((a.put (some dx) vx).put (some d) (ptrTo g)).eval y = .agg cells) (hze : ∀ g,((a.put (some dx) vx).put (some d) (ptrTo g)).eval z = v)
  (hi : (P.info? ty).map (·.size) = some cells.size) (hold : zs.size = cells.size) (h1 : cells.all (·.oneCell') = true)
  (h : ∀ g W,w.heap.size ≤ g → W.heap[g]? = some (.cells cells t (0,0)) → Ext w W → Q .normal (((a.put (some dx) vx).put (some d) (ptrTo g)).put (some de) v) W) : Rest P l Q m (m + 2) a w:=by
 have comm : ∀ g,(a.put (some d) (ptrTo g)).put (some dx) vx = (a.put (some dx) vx).put (some d) (ptrTo g):=fun g => (Act.put_comm a vx (ptrTo g) (by simpa using hne.symm)).symm
 -- the assign,at last
 have fin : ∀ (f : Nat) (g : Nat) (W : World),w.heap.size ≤ g → W.heap[g]? = some (.cells cells t (0,0)) → Ext w W → wpG P .any l.toArray Q (m + 2) (f + 1) (marked (m + 3) 0 (Array.replicate l.length false)) ((a.put (some dx) vx).put (some d) (ptrTo g)) W:=fun f g W hg' hb hE => by
  refine ⟨fun h0 => (by rw [hr3] at h0; cases h0),fun j hj W3 hW3 => ?_⟩
  rw [hr3] at hj
  obtain rfl : j = m + 3:=by simpa using hj
  refine zkd (v:=v) hoe hge (by unfold execOp; simp only [hoe2,hze,Sem.run_pure]) ⟨fun h0 => by omega,?_⟩
  rw [hmk3,hde]
  cases f with
  | zero => exact ⟨hr4,fun W4 hW4 => h g W4 hg' ((hW3.trans hW4).block hb) (hE.trans (hW3.trans hW4))⟩
  | succ f => exact ⟨fun _ W4 hW4 => h g W4 hg' ((hW3.trans hW4).block hb) (hE.trans (hW3.trans hW4)),fun j hj => by rw [hr4] at hj; cases hj⟩
 unfold Rest
 rw [show l.length - m = 0 + 1 + 1 + 1 + 1 by omega]
 refine ⟨fun h0 => (by rw [hr] at h0; cases h0),fun i hi' W hW => ?_⟩
 rw [hr] at hi'
 obtain rfl | rfl : i = m ∨ i = m + 1:=by simpa using hi'
 ·
  -- the result first
  refine zkd hox hgx (hxv W) ⟨fun _ => Ext.refl _,?_⟩
  rw [hmk,hdx]
  refine ⟨fun h0 => (by rw [hr1] at h0; cases h0),fun j hj W1 hW1 => ?_⟩
  rw [hr1] at hj
  obtain rfl : j = i + 1:=by simpa using hj
  refine zbj hoa hga (zdm hoa2 hz ⟨fun _ => Ext.alloc _ _,?_⟩)
  rw [hmk1,hda]
  refine ⟨fun h0 => (by rw [hr2] at h0; cases h0),fun j hj W2 hW2 => ?_⟩
  rw [hr2] at hj
  obtain rfl : j = i + 2:=by simpa using hj
  refine zbj hos hg (wp_store_row ty _ y ho W1.heap.size cells (hx2 _) (hy2 _) t zs (hW2.block (zar _ _)) hi hold h1 ⟨fun h0 => absurd h0 (Nat.lt_irrefl _),?_⟩)
  rw [hmk2,hd]
  exact fin _ _ _ (Nat.le_trans (Below.size hW) (Below.size hW1)) (setRow_heap W2 _ zs cells t (0,0) (hW2.block (zar _ _))) (zat ((hW.trans hW1).trans ((Ext.alloc _ _).trans hW2)) (Nat.le_trans (Below.size hW) (Below.size hW1)) cells)
 ·
  -- the variable first
  refine zbj hoa hga (zdm hoa2 hz ⟨fun _ => Ext.alloc _ _,?_⟩)
  rw [hda]
  refine ⟨fun h0 => (by rw [hrb] at h0; cases h0),fun j hj W1 hW1 => ?_⟩
  rw [hrb] at hj
  obtain rfl | rfl : j = m ∨ j = m + 2:=by simpa using hj
  ·
   refine zkd hox hgx (hxv2 _ W1) ⟨fun _ => Ext.refl _,?_⟩
   rw [hmkb,hdx,comm]
   refine ⟨fun h0 => (by rw [hr2] at h0; cases h0),fun k hk W2 hW2 => ?_⟩
   rw [hr2] at hk
   obtain rfl : k = j + 2:=by simpa using hk
   refine zbj hos hg (wp_store_row ty _ y ho W.heap.size cells (hx2 _) (hy2 _) t zs ((hW1.trans hW2).block (zar _ _)) hi hold h1 ⟨fun h0 => absurd h0 (Nat.lt_irrefl _),?_⟩)
   rw [hmk2,hd]
   exact fin _ _ _ (Below.size hW) (setRow_heap W2 _ zs cells t (0,0) ((hW1.trans hW2).block (zar _ _))) (zat (hW.trans ((Ext.alloc _ _).trans (hW1.trans hW2))) (Below.size hW) cells)
  ·
   refine zbj hos hg (wp_store_row ty _ y ho W.heap.size cells (hx _) (hy _) t zs (hW1.block (zar _ _)) hi hold h1 ⟨fun h0 => absurd h0 (Nat.lt_irrefl _),?_⟩)
   rw [hd]
   have hb2:=setRow_heap W1 W.heap.size zs cells t (0,0) (hW1.block (zar _ _))
   have hE2 : Ext w (W1.setRow W.heap.size cells):=zat (hW.trans ((Ext.alloc _ _).trans hW1)) (Below.size hW) cells
   refine ⟨fun h0 => (by rw [hrc] at h0; cases h0),fun k hk W2 hW2 => ?_⟩
   rw [hrc] at hk
   obtain rfl : k = m:=by simpa using hk
   refine zkd hox hgx (hxv2 _ W2) ⟨fun _ => Ext.refl _,?_⟩
   rw [hmkc,hdx]
   show wpG P .any l.toArray Q (k + 2) (0 + 1) _ ((a.put (some d) (ptrTo W.heap.size)).put (some dx) vx) W2
   rw [comm]
   exact fin _ _ _ (Below.size hW) (hW2.block hb2) (hE2.trans hW2)
end
end Go.Proofs.YthlbemnbmbmjhaaGreatDoor
namespace Go.Proofs.YthlbemnbmbmjhaaGreatDoor
def rot (x n : Nat) : Nat:=x / 2 ^ n + 2 ^ (32 - n) * (x % 2 ^ n)
theorem rot_zero {x : Nat} : rot x 0 = x:=by unfold rot; rw [Nat.pow_zero,Nat.div_one,Nat.mod_one,Nat.mul_zero,Nat.add_zero]
theorem rot_step {x n : Nat} (hn : n < 32) : rot x n / 2 + 2147483648 * (rot x n % 2) = rot x (n + 1):=by
 obtain ⟨m,hm⟩ : ∃ m,32 - n = m + 1:=⟨31 - n,by omega⟩
 have hm2 : 32 - (n + 1) = m:=by omega
 have h31 : 2 ^ m * 2 ^ n = 2147483648:=by rw [← Nat.pow_add,show m + n = 31 by omega]
 unfold rot
 rw [hm,hm2,Nat.pow_succ 2 m,Nat.pow_succ 2 n,← Nat.div_div_eq_div_mul,Nat.mod_mul,Nat.mul_add,← Nat.mul_assoc (2 ^ m),h31,Nat.mul_comm (2 ^ m) 2,Nat.mul_assoc]
 generalize x / 2 ^ n = q
 generalize 2 ^ m * (x % 2 ^ n) = p
 omega
theorem zbs {x n : Nat} (hn : n ≤ 32) (hx : x < 2 ^ 32) : rot x n < 2 ^ 32:=by
 have hp : 0 < 2 ^ n:=Nat.pow_pos (by omega)
 have e : 2 ^ 32 = 2 ^ (32 - n) * 2 ^ n:=by rw [← Nat.pow_add]; congr 1; omega
 have hq : x / 2 ^ n < 2 ^ (32 - n):=by rw [Nat.div_lt_iff_lt_mul hp,← e]; exact hx
 have hr:=Nat.mod_lt x hp
 unfold rot
 rw [e]
 have : 2 ^ (32 - n) * (x % 2 ^ n + 1) ≤ 2 ^ (32 - n) * 2 ^ n:=Nat.mul_le_mul_left _ hr
 rw [Nat.mul_add] at this
 omega
end Go.Proofs.YthlbemnbmbmjhaaGreatDoor
namespace Go.Proofs.YthlbemnbmbmjhaaGreatDoor
def kList : List Nat:=[1116352408,1899447441,3049323471,3921009573,961987163,1508970993,2453635748,2870763221,3624381080,310598401,607225278,1426881987,1925078388,2162078206,2614888103,3248222580,3835390401,4022224774,264347078,604807628,770255983,1249150122,1555081692,1996064986,2554220882,2821834349,2952996808,3210313671,3336571891,3584528711,113926993,338241895,666307205,773529912,1294757372,1396182291,1695183700,1986661051,2177026350,2456956037,2730485921,2820302411,3259730800,3345764771,3516065817,3600352804,4094571909,275423344,430227734,506948616,659060556,883997877,958139571,1322822218,1537002063,1747873779,1955562222,2024104815,2227730452,2361852424,2428436474,2756734187,3204031479,3329325298]
def kc (t : Nat) : Nat:=kList.getD t 0
def ad (x y : Nat) : Nat:=(x + y) % 4294967296
def sg0 (x : Nat) : Nat:=rot x 7 ^^^ rot x 18 ^^^ (x / 2 ^ 3)
def sg1 (x : Nat) : Nat:=rot x 17 ^^^ rot x 19 ^^^ (x / 2 ^ 10)
def bs0 (x : Nat) : Nat:=rot x 2 ^^^ rot x 13 ^^^ rot x 22
def bs1 (x : Nat) : Nat:=rot x 6 ^^^ rot x 11 ^^^ rot x 25
def chN (x y z : Nat) : Nat:=(x &&& y) ^^^ ((4294967295 - x) &&& z)
def majN (x y z : Nat) : Nat:=(x &&& y) ^^^ (x &&& z) ^^^ (y &&& z)
theorem getD_lo (l r : List Nat) {t : Nat} (h : t < l.length) : (l ++ r).getD t 0 = l.getD t 0:=by simp [List.getD,List.getElem?_append_left h]
theorem getD_at (l : List Nat) (x : Nat) {t : Nat} (h : l.length = t) : (l ++ [x]).getD t 0 = x:=by subst h; simp [List.getD]
def sched (m : Nat → Nat) : Nat → List Nat
 | 0 => []
 | t + 1 => let l:=sched m t
  l ++ [if t < 16 then m t else ad (ad (ad (sg1 (l.getD (t - 2) 0)) (l.getD (t - 7) 0)) (sg0 (l.getD (t - 15) 0))) (l.getD (t - 16) 0)]
theorem zis (m : Nat → Nat) : ∀ t,(sched m t).length = t
 | 0 => rfl
 | t + 1 => by simp [sched,zis m t]
def wt (m : Nat → Nat) (t : Nat) : Nat:=(sched m (t + 1)).getD t 0
theorem zfw (m : Nat → Nat) (t : Nat) : ∀ n,t < n → (sched m n).getD t 0 = wt m t
 | 0,h => by omega
 | n + 1,h => by
  by_cases e : t = n
  ·
   subst e; rfl
  ·
   have ih:=zfw m t n (by omega)
   rw [← ih]
   show (sched m n ++ _).getD t 0 = _
   rw [getD_lo _ _ (by rw [zis]; omega)]
theorem wt_lo (m : Nat → Nat) {t : Nat} (h : t < 16) : wt m t = m t:=by
 unfold wt
 show (sched m t ++ _).getD t 0 = _
 rw [getD_at _ _ (zis m t),if_pos h]
theorem wt_hi (m : Nat → Nat) {t : Nat} (h : ¬ t < 16) : wt m t = ad (ad (ad (sg1 (wt m (t - 2))) (wt m (t - 7))) (sg0 (wt m (t - 15)))) (wt m (t - 16)):=by
 conv => lhs; unfold wt
 show (sched m t ++ _).getD t 0 = _
 rw [getD_at _ _ (zis m t),if_neg h,zfw m _ t (by omega),zfw m _ t (by omega),zfw m _ t (by omega),zfw m _ t (by omega)]
structure St where
 a : Nat
 b : Nat
 c : Nat
 d : Nat
 e : Nat
 f : Nat
 g : Nat
 h : Nat
def t1N (s : St) (k w : Nat) : Nat:=ad (ad (ad (ad s.h (bs1 s.e)) (chN s.e s.f s.g)) k) w
def t2N (s : St) : Nat:=ad (bs0 s.a) (majN s.a s.b s.c)
def stepN (s : St) (k w : Nat) : St:=⟨ad (t1N s k w) (t2N s),s.a,s.b,s.c,ad s.d (t1N s k w),s.e,s.f,s.g⟩
def roundsN (m : Nat → Nat) (s : St) : Nat → St
 | 0 => s
 | t + 1 => stepN (roundsN m s t) (kc t) (wt m t)
def addSt (x y : St) : St:=⟨ad x.a y.a,ad x.b y.b,ad x.c y.c,ad x.d y.d,ad x.e y.e,ad x.f y.f,ad x.g y.g,ad x.h y.h⟩
def blockN (m : Nat → Nat) (s : St) : St:=addSt s (roundsN m s 64)
def word (text : Nat → Nat) (i : Nat) : Nat:=text i * 16777216 + text (i + 1) * 65536 + text (i + 2) * 256 + text (i + 3)
def blocksN (text : Nat → Nat) : Nat → St
 | 0 => ⟨1779033703,3144134277,1013904242,2773480762,1359893119,2600822924,528734635,1541459225⟩
 | n + 1 => blockN (fun t => word text (64 * n + 4 * t)) (blocksN text n)
def nBlocks (len : Nat) : Nat:=(len + 9 + 63) / 64
def padded (b : Nat → Nat) (len : Nat) : Nat → Nat:=fun i =>
 if i < len then b i else if i = len then 128 else if i < 64 * nBlocks len - 8 then 0 else 8 * len / 256 ^ (64 * nBlocks len - 1 - i) % 256
def shaSt (b : Nat → Nat) (len : Nat) : St:=blocksN (padded b len) (nBlocks len)
end Go.Proofs.YthlbemnbmbmjhaaGreatDoor
namespace Go.Proofs.YthlbemnbmbmjhaaGreatDoor
theorem wrap32 (n : Int) : IntKind.u32.wrap n = n % 4294967296:=by simp [IntKind.wrap,IntKind.signed,IntKind.bits]
section
variable (a b : Nat) (ha : a < 4294967296) (hb : b < 4294967296)
include ha hb
theorem ofInt32 : (BitVec.ofInt 32 (a : Int)).toNat = a ∧ (BitVec.ofInt 32 (b : Int)).toNat = b:=by
 constructor <;> (rw [BitVec.ofInt_natCast,BitVec.toNat_ofNat]; exact Nat.mod_eq_of_lt (by omega))
theorem and32 : bits .and .u32 (a : Int) (b : Int) = ((a &&& b : Nat) : Int):=by
 have hx : a &&& b < 2 ^ 32:=Nat.and_lt_two_pow _ (by omega)
 show IntKind.u32.wrap ((BitVec.ofInt 32 (a : Int) &&& BitVec.ofInt 32 (b : Int)).toNat : Int) = _
 rw [BitVec.toNat_and,(ofInt32 a b ha hb).1,(ofInt32 a b ha hb).2,wrap32]
 omega
theorem or32 : bits .or .u32 (a : Int) (b : Int) = ((a ||| b : Nat) : Int):=by
 have hx : a ||| b < 2 ^ 32:=Nat.or_lt_two_pow (by omega) (by omega)
 show IntKind.u32.wrap ((BitVec.ofInt 32 (a : Int) ||| BitVec.ofInt 32 (b : Int)).toNat : Int) = _
 rw [BitVec.toNat_or,(ofInt32 a b ha hb).1,(ofInt32 a b ha hb).2,wrap32]
 omega
theorem xor32 : bits .xor .u32 (a : Int) (b : Int) = ((a ^^^ b : Nat) : Int):=by
 have hx : a ^^^ b < 2 ^ 32:=Nat.xor_lt_two_pow (by omega) (by omega)
 show IntKind.u32.wrap ((BitVec.ofInt 32 (a : Int) ^^^ BitVec.ofInt 32 (b : Int)).toNat : Int) = _
 rw [BitVec.toNat_xor,(ofInt32 a b ha hb).1,(ofInt32 a b ha hb).2,wrap32]
 omega
end
theorem not_bit {x : Nat} (hx : x < 2 ^ 32) (i : Nat) : (4294967295 - x).testBit i = (decide (i < 32) && !x.testBit i):=by
 have h:=Nat.testBit_two_pow_sub_succ hx i
 rwa [show 2 ^ 32 - (x + 1) = 4294967295 - x by omega] at h
theorem ch_or {x y z : Nat} (hx : x < 2 ^ 32) : chN x y z = (x &&& y) ||| ((4294967295 - x) &&& z):=by
 unfold chN
 apply Nat.eq_of_testBit_eq
 intro i
 simp only [Nat.testBit_xor,Nat.testBit_or,Nat.testBit_and,not_bit hx]
 cases x.testBit i <;> simp
theorem maj_or (x y z : Nat) : majN x y z = (x &&& y) ||| (x &&& z) ||| (y &&& z):=by
 unfold majN
 apply Nat.eq_of_testBit_eq
 intro i
 simp only [Nat.testBit_xor,Nat.testBit_or,Nat.testBit_and]
 cases x.testBit i <;> cases y.testBit i <;> cases z.testBit i <;> rfl
theorem rot_or {x n : Nat} (hn : n ≤ 32) (hx : x < 2 ^ 32) : rot x n = (x / 2 ^ n) ||| (x * 2 ^ (32 - n) % 2 ^ 32):=by
 have hp : 0 < 2 ^ n:=Nat.pow_pos (by omega)
 have e : 2 ^ 32 = 2 ^ (32 - n) * 2 ^ n:=by rw [← Nat.pow_add]; congr 1; omega
 have hq : x / 2 ^ n < 2 ^ (32 - n):=by rw [Nat.div_lt_iff_lt_mul hp,← e]; exact hx
 have h1 : x * 2 ^ (32 - n) % 2 ^ 32 = 2 ^ (32 - n) * (x % 2 ^ n):=by rw [e,Nat.mul_comm x,Nat.mul_mod_mul_left]
 rw [h1,Nat.or_comm,← Nat.two_pow_add_eq_or_of_lt hq]
 unfold rot
 omega
/-! ### all is below 2^32 -/
theorem ad_lt (x y : Nat) : ad x y < 2 ^ 32:=Nat.mod_lt _ (by decide)
theorem shr_lt {x : Nat} (n : Nat) (hx : x < 2 ^ 32) : x / 2 ^ n < 2 ^ 32:=Nat.lt_of_le_of_lt (Nat.div_le_self _ _) hx
theorem wt_lt {m : Nat → Nat} (hm : ∀ t,t < 16 → m t < 2 ^ 32) (t : Nat) : wt m t < 2 ^ 32:=by
 by_cases h : t < 16
 ·
  rw [wt_lo m h]; exact hm t h
 ·
  rw [wt_hi m h]; exact ad_lt _ _
structure St.Ok (s : St) : Prop where
 a : s.a < 2 ^ 32
 b : s.b < 2 ^ 32
 c : s.c < 2 ^ 32
 d : s.d < 2 ^ 32
 e : s.e < 2 ^ 32
 f : s.f < 2 ^ 32
 g : s.g < 2 ^ 32
 h : s.h < 2 ^ 32
theorem stepN_ok {s : St} (h : s.Ok) (k w : Nat) : (stepN s k w).Ok:=⟨ad_lt _ _,h.a,h.b,h.c,ad_lt _ _,h.e,h.f,h.g⟩
theorem zjn {m : Nat → Nat} {s : St} (h : s.Ok) : ∀ t,(roundsN m s t).Ok
 | 0 => h
 | t + 1 => stepN_ok (zjn h t) _ _
theorem blockN_ok (m : Nat → Nat) (s : St) : (blockN m s).Ok:=⟨ad_lt _ _,ad_lt _ _,ad_lt _ _,ad_lt _ _,ad_lt _ _,ad_lt _ _,ad_lt _ _,ad_lt _ _⟩
theorem zkb (text : Nat → Nat) : ∀ n,(blocksN text n).Ok
 | 0 => by constructor <;> (show _ < _; simp [blocksN])
 | n + 1 => blockN_ok _ _
theorem zji {f g : Nat → Nat} : ∀ n,(∀ i,i < 64 * n → f i = g i) → blocksN f n = blocksN g n
 | 0,_ => rfl
 | n + 1,h => by
  have ih:=zji n fun i hi => h i (by omega)
  have hw : ∀ t,t < 16 → word f (64 * n + 4 * t) = word g (64 * n + 4 * t):=by
   intro t ht
   unfold word
   rw [h _ (by omega),h _ (by omega),h _ (by omega),h _ (by omega)]
  have hs : ∀ k,sched (fun t => word f (64 * n + 4 * t)) k = sched (fun t => word g (64 * n + 4 * t)) k:=by
   intro k
   induction k with
   | zero => simp only [sched]
   | succ k ihk =>
    simp only [sched]
    rw [ihk]
    by_cases hk : k < 16
    ·
     simp only [if_pos hk]; rw [hw k hk]
    ·
     simp only [if_neg hk]
  have hr : ∀ s k,roundsN (fun t => word f (64 * n + 4 * t)) s k = roundsN (fun t => word g (64 * n + 4 * t)) s k:=by
   intro s k
   induction k with
   | zero => simp only [roundsN]
   | succ k ihk =>
    simp only [roundsN]
    rw [ihk]; unfold wt; rw [hs]
  simp only [blocksN]
  rw [ih]; unfold blockN; rw [hr]
end Go.Proofs.YthlbemnbmbmjhaaGreatDoor
namespace Go.Proofs.YthlbemnbmbmjhaaGreatDoor
open Go.RowKit
open Go.Value renaming int → vI
open Go.IntKind renaming u64 → vU
open Go.Act renaming put → aP
open List renaming setIfInBounds_toArray → lA, set_cons_zero → lZ, set_cons_succ → lS
def St.at (s : St) (j : Nat) : Nat:=match j with | 0 => s.a | 1 => s.b | 2 => s.c | 3 => s.d | 4 => s.e | 5 => s.f | 6 => s.g | _ => s.h
theorem St.at_lt {s : St} (h : s.Ok) (j : Nat) : s.at j < 2 ^ 32:=by
 unfold St.at
 split
 ·
  exact h.a
 ·
  exact h.b
 ·
  exact h.c
 ·
  exact h.d
 ·
  exact h.e
 ·
  exact h.f
 ·
  exact h.g
 ·
  exact h.h
def hcells (s : St) (blk : Nat → Nat) (len : Nat) : Nat → Value:=fun j => if j < 8 then .int .u32 (s.at j : Nat) else if j < 72 then .int .u8 (blk (j - 8) : Nat) else .int .i64 (len : Int)
def HRow (w : World) (g : Nat) (s : St) (blk : Nat → Nat) (len : Nat) : Prop:=w.rowIs g 170 73 (hcells s blk len)
section
variable {w w' : World} {g B len : Nat} {s : St} {blk : Nat → Nat}
theorem HRow.lt (h : HRow w g s blk len) : g < w.heap.size:=World.rowIs.lt h
theorem HRow.below (h : HRow w g s blk len) (hb : Below B w w') (hlt : g < B) : HRow w' g s blk len:=zaa h hb hlt
theorem HRow.call (h : HRow w g s blk len) (hb : Below w.heap.size w w') : HRow w' g s blk len:=zaa h hb h.lt
theorem HRow.alloc (h : HRow w g s blk len) (o : Obj) : HRow (w.alloc o) g s blk len:=World.rowIs.alloc h o
theorem HRow.drew (h : HRow w g s blk len) : HRow w.drew g s blk len:=h
theorem HRow.drewN (h : HRow w g s blk len) (k : Nat) : HRow (w.drewN k) g s blk len:=h
theorem HRow.of_block (h : HRow w g s blk len) (e : w'.heap[g]? = w.heap[g]?) : HRow w' g s blk len:=World.rowIs.of_block h e
theorem HRow.state (h : HRow w g s blk len) {j : Nat} (hj : j < 8) : w.cell? ⟨g,j,none⟩ = some (.int .u32 (s.at j : Nat)):=by
 rw [World.rowIs.cell h (show j < 73 by omega),hcells,if_pos hj]
theorem HRow.byte (h : HRow w g s blk len) {j : Nat} (hj : j < 64) : w.cell? ⟨g,8 + j,none⟩ = some (.int .u8 (blk j : Nat)):=by
 rw [World.rowIs.cell h (show 8 + j < 73 by omega),hcells,if_neg (by omega),if_pos (by omega),show 8 + j - 8 = j by omega]
theorem HRow.length (h : HRow w g s blk len) : w.cell? ⟨g,72,none⟩ = some (.int .i64 (len : Int)):=by
 rw [World.rowIs.cell h (show 72 < 73 by omega),hcells,if_neg (by omega),if_neg (by omega)]
theorem HRow.block (h : HRow w g s blk len) : w.rangeAt g 8 ((List.range 64).map fun j => Value.int .u8 (blk j : Nat)):=by
 intro j v hv
 have hj : j < 64:=by simpa using (List.getElem?_eq_some_iff.1 hv).1
 rw [h.byte hj,← hv]
 simp [hj]
theorem HRow.words (h : HRow w g s blk len) : w.rangeAt g 0 ((List.range 8).map fun j => Value.int .u32 (s.at j : Nat)):=by
 intro j v hv
 have hj : j < 8:=by simpa using (List.getElem?_eq_some_iff.1 hv).1
 rw [Nat.zero_add,h.state hj,← hv]
 simp [hj]
end
structure KT (w : World) : Prop where
 lt : 0 < w.heap.size
 cell : ∀ j,j < 64 → w.cell? ⟨0,j,none⟩ = some (.int .u32 (kc j : Nat))
section
variable {w w' : World} {B : Nat}
theorem KT.of_block (h : KT w) (e : w'.heap[0]? = w.heap[0]?) (hs : w.heap.size ≤ w'.heap.size) : KT w' :=
 ⟨Nat.lt_of_lt_of_le h.lt hs,fun j hj => (World.cell?_of_block (w:=w) (a:=⟨0,j,none⟩) e).trans (h.cell j hj)⟩
theorem KT.below (h : KT w) (hb : Below B w w') (hB : 0 < B) : KT w':=h.of_block (hb.block 0 hB) hb.size
theorem KT.call (h : KT w) (hb : Below w.heap.size w w') : KT w':=h.below hb h.lt
theorem KT.alloc (h : KT w) (o : Obj) : KT (w.alloc o):=h.of_block (Below.heap_alloc _ _ _ h.lt) (by simp)
theorem KT.drew (h : KT w) : KT w.drew:=⟨h.lt,h.cell⟩
theorem KT.drewN (h : KT w) (k : Nat) : KT (w.drewN k):=⟨h.lt,h.cell⟩
theorem KT.far {b i : Nat} (h : KT w) (hne : 0 ≠ b) (v : Value) : KT (w.setCell ⟨b,i,none⟩ v):=h.of_block (Below.heap_setCell _ _ _ _ hne) (by simp [World.setCell])
theorem KT.grown {r : Nat} (h : KT w) (hg : w.grownBy w' (some r)) (hne : 0 ≠ r) : KT w':=h.of_block (hg.block 0 h.lt (by simpa using hne)) hg.size
end
theorem veil32 {p : Prop} (h : p) : Hid p:=h
theorem zfd (x n : Nat) (hx : x < 2 ^ 32) (hn : n ≤ 32) (w : World) :
  Calls Tryz.prog 105 #[.int .u32 (x : Int),.int .i64 (n : Int)] w fun e w' => e = .returned (.int .u32 (rot x n : Nat)) ∧ w' = w:=by
 have HX:=veil32 hx
 clear hx
 have hni : (n : Int) ≤ 32:=by omega
 go_enter Tryz.func105,Tryz.ntmps105
 go_wp2
 go_loopw [0,5] (fun y i wr => ∃ k : Nat,k ≤ n ∧ i = .int .i64 (k : Int) ∧ y = .int .u32 (rot x k : Nat) ∧ wr = w)
  (fun _ i _ => n - (intOf i).toNat)
 case atStart => exact ⟨0,by omega,rfl,by rw [rot_zero],rfl⟩
 case round =>
  obtain ⟨k,hk,rfl,rfl,rfl⟩:=hrel
  by_cases hlt : k < n
  ·
   have hlti : (k : Int) < (n : Int):=by omega
   have hs:=rot_step (x:=x) (n:=k) (by omega)
   have hl:=zbs (x:=x) (n:=k) (by omega) HX.out
   have hl2:=zbs (x:=x) (n:=k + 1) (by omega) HX.out
   obtain ⟨y,hy⟩ : ∃ y : Int,y = ((rot x k : Nat) : Int):=⟨_,rfl⟩
   obtain ⟨z,hz⟩ : ∃ z : Int,z = ((rot x (k + 1) : Nat) : Int):=⟨_,rfl⟩
   have e : y / 2 + 2147483648 * (y % 2) = z:=by omega
   have y0 : 0 ≤ y:=by omega
   have y1 : y ≤ 4294967295:=by omega
   have z1 : z ≤ 4294967295:=by omega
   rw [← hy]
   have HZ:=veil32 hz
   clear hs hl hl2 hy hz
   have hd : y % 2 = 1 ∨ y % 2 = 0:=by omega
   rcases hd with h | h
   ·
    rw [h] at e
    have e2 : y / 2 + 2147483648 = z:=by omega
    clear e
    go_wp2
    go_roundw
    case rel => exact ⟨k + 1,by omega,by go_num,by rw [← HZ.out],trivial⟩
    case measure => simp [intOf]; omega
   ·
    rw [h] at e
    have e2 : y / 2 = z:=by omega
    clear e
    go_wp2
    go_roundw
    case rel => exact ⟨k + 1,by omega,by go_num,by rw [← HZ.out,e2],trivial⟩
    case measure => simp [intOf]; omega
  ·
   obtain rfl : k = n:=by omega
   go_wp2
   go_ret
   exact ⟨rfl,rfl⟩
theorem shift_calls (x n : Nat) (hx : x < 2 ^ 32) (hn : n ≤ 32) (w : World) :
  Calls Tryz.prog 106 #[.int .u32 (x : Int),.int .i64 (n : Int)] w fun e w' => e = .returned (.int .u32 (x / 2 ^ n : Nat)) ∧ w' = w:=by
 have HX:=veil32 hx
 clear hx
 have hni : (n : Int) ≤ 32:=by omega
 go_enter Tryz.func106,Tryz.ntmps106
 go_wp2
 go_loopw [0,5] (fun y i wr => ∃ k : Nat,k ≤ n ∧ i = .int .i64 (k : Int) ∧ y = .int .u32 (x / 2 ^ k : Nat) ∧ wr = w)
  (fun _ i _ => n - (intOf i).toNat)
 case atStart => exact ⟨0,by omega,rfl,by rw [Nat.pow_zero,Nat.div_one],rfl⟩
 case round =>
  obtain ⟨k,hk,rfl,rfl,rfl⟩:=hrel
  by_cases hlt : k < n
  ·
   have hlti : (k : Int) < (n : Int):=by omega
   have hs : x / 2 ^ (k + 1) = x / 2 ^ k / 2:=by rw [Nat.pow_succ,Nat.div_div_eq_div_mul]
   have hl : x / 2 ^ k < 2 ^ 32:=Nat.lt_of_le_of_lt (Nat.div_le_self _ _) HX.out
   obtain ⟨y,hy⟩ : ∃ y : Int,y = ((x / 2 ^ k : Nat) : Int):=⟨_,rfl⟩
   obtain ⟨z,hz⟩ : ∃ z : Int,z = ((x / 2 ^ (k + 1) : Nat) : Int):=⟨_,rfl⟩
   have HZ:=veil32 hz
   rw [hs] at hz
   rw [← hy]
   generalize x / 2 ^ k = q at *
   have e2 : y / 2 = z:=by omega
   have y0 : 0 ≤ y:=by omega
   have y1 : y ≤ 4294967295:=by omega
   clear hs hl hy hz
   go_wp2
   go_roundw
   case rel => exact ⟨k + 1,by omega,by go_num,by rw [← HZ.out,e2],trivial⟩
   case measure => simp [intOf]; omega
  ·
   obtain rfl : k = n:=by omega
   go_wp2
   go_ret
   exact ⟨rfl,rfl⟩
theorem neg_and : ∀ n : Fin 32,n.1 ≠ 0 → bits .and .u64 (IntKind.u64.wrap (-(n.1 : Int))) 31 = 32 - (n.1 : Int):=by decide
theorem rot_bits {x n : Nat} (hx : x < 2 ^ 32) (hn : n < 32) : bits .or .u32 ((x : Int) * 2 ^ (32 - n) % 4294967296) ((x : Int) / 2 ^ (32 - (32 - n))) = ((rot x n : Nat) : Int):=by
 have e : 32 - (32 - n) = n:=by omega
 have e1 : (x : Int) * 2 ^ (32 - n) % 4294967296 = ((x * 2 ^ (32 - n) % 2 ^ 32 : Nat) : Int):=by
  rw [Int.natCast_emod,Int.natCast_mul,Int.natCast_pow]; rfl
 have e2 : (x : Int) / 2 ^ n = ((x / 2 ^ n : Nat) : Int):=by
  rw [Int.natCast_ediv,Int.natCast_pow]; rfl
 rw [e,e1,e2,or32 _ _ (Nat.mod_lt _ (by decide)) (shr_lt n hx),rot_or (by omega) hx,Nat.or_comm]
theorem ret_u32 {a : Int} {b : Nat} (h : a = (b : Int)) : Ending.returned (.int .u32 a) = .returned (.int .u32 (b : Nat)):=by rw [h]
theorem rotl_calls (x n : Nat) (hx : x < 2 ^ 32) (h0 : n ≠ 0) (hn : n < 32) (w : World) :
  Calls Tryz.prog 164 #[.int .u32 (x : Int),.int .i64 (-(n : Int))] w fun e w' => e = .returned (.int .u32 (rot x n : Nat)) ∧ w' = w:=by
 have k1:=neg_and ⟨n,hn⟩ h0
 simp only at k1
 go_enter Tryz.func164,Tryz.ntmps164
 go_wp2
 go_ret
 exact ⟨ret_u32 (rot_bits hx hn),rfl⟩
theorem zbv (x n : Nat) (hx : x < 2 ^ 32) (h0 : n ≠ 0) (hn : n < 32) (w : World) :
  Calls Tryz.prog 163 #[.int .u32 (x : Int),.int .i64 (n : Int)] w fun e w' => e = .returned (.int .u32 (rot x n : Nat)) ∧ w' = w:=by
 go_enter Tryz.func163,Tryz.ntmps163
 go_wp2_with (go_at_call 164; refine (rotl_calls x n hx h0 hn _).mono ?_; rintro e w' ⟨rfl,rfl⟩)
 go_ret
 exact ⟨rfl,rfl⟩
theorem bigOne_calls (x : Nat) (hx : x < 2 ^ 32) (w : World) :
  Calls Tryz.prog 152 #[.int .u32 (x : Int)] w fun e w' => e = .returned (.int .u32 (bs1 x : Nat)) ∧ w' = w:=by
 have k1:=xor32 (rot x 6) (rot x 11) (zbs (by omega) hx) (zbs (by omega) hx)
 have k2:=xor32 (rot x 6 ^^^ rot x 11) (rot x 25) (Nat.xor_lt_two_pow (n:=32) (zbs (by omega) hx) (zbs (by omega) hx)) (zbs (by omega) hx)
 have H1 : Hid (∀ W,Calls Tryz.prog 163 #[.int .u32 (x : Int),.int .i64 6] W fun e w' => e = .returned (.int .u32 (rot x 6 : Nat)) ∧ w' = W):=veil32 (fun W => zbv x 6 hx (by decide) (by decide) W)
 have H2 : Hid (∀ W,Calls Tryz.prog 163 #[.int .u32 (x : Int),.int .i64 11] W fun e w' => e = .returned (.int .u32 (rot x 11 : Nat)) ∧ w' = W):=veil32 (fun W => zbv x 11 hx (by decide) (by decide) W)
 have H3 : Hid (∀ W,Calls Tryz.prog 163 #[.int .u32 (x : Int),.int .i64 25] W fun e w' => e = .returned (.int .u32 (rot x 25 : Nat)) ∧ w' = W):=veil32 (fun W => zbv x 25 hx (by decide) (by decide) W)
 go_enter Tryz.func152,Tryz.ntmps152
 go_wp2_with (go_at_call 163; (first | ((with_reducible refine (H1.out _).mono ?_); rintro e w' ⟨rfl,rfl⟩) | ((with_reducible refine (H2.out _).mono ?_); rintro e w' ⟨rfl,rfl⟩) | ((with_reducible refine (H3.out _).mono ?_); rintro e w' ⟨rfl,rfl⟩)))
 go_ret
 exact ⟨rfl,rfl⟩
theorem bigZero_calls (x : Nat) (hx : x < 2 ^ 32) (w : World) :
  Calls Tryz.prog 154 #[.int .u32 (x : Int)] w fun e w' => e = .returned (.int .u32 (bs0 x : Nat)) ∧ w' = w:=by
 have k1:=xor32 (rot x 2) (rot x 13) (zbs (by omega) hx) (zbs (by omega) hx)
 have k2:=xor32 (rot x 2 ^^^ rot x 13) (rot x 22) (Nat.xor_lt_two_pow (n:=32) (zbs (by omega) hx) (zbs (by omega) hx)) (zbs (by omega) hx)
 have H1 : Hid (∀ W,Calls Tryz.prog 163 #[.int .u32 (x : Int),.int .i64 2] W fun e w' => e = .returned (.int .u32 (rot x 2 : Nat)) ∧ w' = W):=veil32 (fun W => zbv x 2 hx (by decide) (by decide) W)
 have H2 : Hid (∀ W,Calls Tryz.prog 163 #[.int .u32 (x : Int),.int .i64 13] W fun e w' => e = .returned (.int .u32 (rot x 13 : Nat)) ∧ w' = W):=veil32 (fun W => zbv x 13 hx (by decide) (by decide) W)
 have H3 : Hid (∀ W,Calls Tryz.prog 163 #[.int .u32 (x : Int),.int .i64 22] W fun e w' => e = .returned (.int .u32 (rot x 22 : Nat)) ∧ w' = W):=veil32 (fun W => zbv x 22 hx (by decide) (by decide) W)
 go_enter Tryz.func154,Tryz.ntmps154
 go_wp2_with (go_at_call 163; (first | ((with_reducible refine (H1.out _).mono ?_); rintro e w' ⟨rfl,rfl⟩) | ((with_reducible refine (H2.out _).mono ?_); rintro e w' ⟨rfl,rfl⟩) | ((with_reducible refine (H3.out _).mono ?_); rintro e w' ⟨rfl,rfl⟩)))
 go_ret
 exact ⟨rfl,rfl⟩
theorem smallOne_calls (x : Nat) (hx : x < 2 ^ 32) (w : World) :
  Calls Tryz.prog 161 #[.int .u32 (x : Int)] w fun e w' => e = .returned (.int .u32 (sg1 x : Nat)) ∧ w' = w:=by
 obtain ⟨q,hq⟩ : ∃ q,q = x / 2 ^ 10:=⟨_,rfl⟩
 have hql : q < 2 ^ 32:=by rw [hq]; exact shr_lt 10 hx
 have k3 : (x : Int) / 1024 = (q : Int):=by rw [hq,Int.natCast_ediv]; rfl
 have HQ:=veil32 hq
 clear hq
 have k1:=xor32 (rot x 17) (rot x 19) (zbs (by omega) hx) (zbs (by omega) hx)
 have k2:=xor32 (rot x 17 ^^^ rot x 19) (q) (Nat.xor_lt_two_pow (n:=32) (zbs (by omega) hx) (zbs (by omega) hx)) (hql)
 have H1 : Hid (∀ W,Calls Tryz.prog 163 #[.int .u32 (x : Int),.int .i64 17] W fun e w' => e = .returned (.int .u32 (rot x 17 : Nat)) ∧ w' = W):=veil32 (fun W => zbv x 17 hx (by decide) (by decide) W)
 have H2 : Hid (∀ W,Calls Tryz.prog 163 #[.int .u32 (x : Int),.int .i64 19] W fun e w' => e = .returned (.int .u32 (rot x 19 : Nat)) ∧ w' = W):=veil32 (fun W => zbv x 19 hx (by decide) (by decide) W)
 go_enter Tryz.func161,Tryz.ntmps161
 go_wp2_with (go_at_call 163; (first | ((with_reducible refine (H1.out _).mono ?_); rintro e w' ⟨rfl,rfl⟩) | ((with_reducible refine (H2.out _).mono ?_); rintro e w' ⟨rfl,rfl⟩)))
 go_ret
 exact ⟨by unfold sg1; rw [← HQ.out]; rfl,rfl⟩
theorem smallZero_calls (x : Nat) (hx : x < 2 ^ 32) (w : World) :
  Calls Tryz.prog 162 #[.int .u32 (x : Int)] w fun e w' => e = .returned (.int .u32 (sg0 x : Nat)) ∧ w' = w:=by
 obtain ⟨q,hq⟩ : ∃ q,q = x / 2 ^ 3:=⟨_,rfl⟩
 have hql : q < 2 ^ 32:=by rw [hq]; exact shr_lt 3 hx
 have k3 : (x : Int) / 8 = (q : Int):=by rw [hq,Int.natCast_ediv]; rfl
 have HQ:=veil32 hq
 clear hq
 have k1:=xor32 (rot x 7) (rot x 18) (zbs (by omega) hx) (zbs (by omega) hx)
 have k2:=xor32 (rot x 7 ^^^ rot x 18) (q) (Nat.xor_lt_two_pow (n:=32) (zbs (by omega) hx) (zbs (by omega) hx)) (hql)
 have H1 : Hid (∀ W,Calls Tryz.prog 163 #[.int .u32 (x : Int),.int .i64 7] W fun e w' => e = .returned (.int .u32 (rot x 7 : Nat)) ∧ w' = W):=veil32 (fun W => zbv x 7 hx (by decide) (by decide) W)
 have H2 : Hid (∀ W,Calls Tryz.prog 163 #[.int .u32 (x : Int),.int .i64 18] W fun e w' => e = .returned (.int .u32 (rot x 18 : Nat)) ∧ w' = W):=veil32 (fun W => zbv x 18 hx (by decide) (by decide) W)
 go_enter Tryz.func162,Tryz.ntmps162
 go_wp2_with (go_at_call 163; (first | ((with_reducible refine (H1.out _).mono ?_); rintro e w' ⟨rfl,rfl⟩) | ((with_reducible refine (H2.out _).mono ?_); rintro e w' ⟨rfl,rfl⟩)))
 go_ret
 exact ⟨by unfold sg0; rw [← HQ.out]; rfl,rfl⟩
theorem xor_all {x : Nat} (hx : x < 2 ^ 32) : bits .xor .u32 IntKind.u32.max (x : Int) = ((4294967295 - x : Nat) : Int):=by
 have h:=xor32 4294967295 x (by decide) hx
 have e : 4294967295 ^^^ x = 4294967295 - x:=by
  apply Nat.eq_of_testBit_eq
  intro i
  rw [Nat.testBit_xor,not_bit hx,show (4294967295 : Nat) = 2 ^ 32 - 1 from rfl,Nat.testBit_two_pow_sub_one]
  by_cases h : i < 32
  ·
   simp [h]
  ·
   have h32 : 2 ^ 32 ≤ 2 ^ i:=Nat.pow_le_pow_right (by omega) (by omega)
   rw [Nat.testBit_lt_two_pow (Nat.lt_of_lt_of_le hx h32)]
   simp [h]
 rw [e] at h
 exact h
theorem choice_calls (x y z : Nat) (hx : x < 2 ^ 32) (hy : y < 2 ^ 32) (hz : z < 2 ^ 32) (w : World) :
  Calls Tryz.prog 153 #[.int .u32 (x : Int),.int .u32 (y : Int),.int .u32 (z : Int)] w fun e w' => e = .returned (.int .u32 (chN x y z : Nat)) ∧ w' = w:=by
 have k1:=and32 x y hx hy
 have k2:=xor_all hx
 have k3:=and32 (4294967295 - x) z (by omega) hz
 have k4:=xor32 (x &&& y) ((4294967295 - x) &&& z) (Nat.lt_of_le_of_lt Nat.and_le_left hx) (Nat.lt_of_le_of_lt Nat.and_le_left (by omega))
 go_enter Tryz.func153,Tryz.ntmps153
 go_wp2
 go_ret
 exact ⟨rfl,rfl⟩
theorem majority_calls (x y z : Nat) (hx : x < 2 ^ 32) (hy : y < 2 ^ 32) (hz : z < 2 ^ 32) (w : World) :
  Calls Tryz.prog 155 #[.int .u32 (x : Int),.int .u32 (y : Int),.int .u32 (z : Int)] w fun e w' => e = .returned (.int .u32 (majN x y z : Nat)) ∧ w' = w:=by
 have k1:=and32 x y hx hy
 have k2:=and32 x z hx hz
 have k3:=and32 y z hy hz
 have l1 : x &&& y < 2 ^ 32:=Nat.lt_of_le_of_lt Nat.and_le_left hx
 have l2 : x &&& z < 2 ^ 32:=Nat.lt_of_le_of_lt Nat.and_le_left hx
 have l3 : y &&& z < 2 ^ 32:=Nat.lt_of_le_of_lt Nat.and_le_left hy
 have k4:=xor32 (x &&& y) (x &&& z) l1 l2
 have k5:=xor32 ((x &&& y) ^^^ (x &&& z)) (y &&& z) (Nat.xor_lt_two_pow (n:=32) l1 l2) l3
 clear l1 l2 l3 hx hy hz
 go_enter Tryz.func155,Tryz.ntmps155
 go_wp2
 go_ret
 exact ⟨rfl,rfl⟩
theorem info8 : (Tryz.prog.info? 168).map (·.size) = some 64:=by kernel_rfl
theorem info32 : (Tryz.prog.info? 183).map (·.size) = some 64:=by kernel_rfl
theorem zeros64 : (#[.int .u32 0,.int .u32 0,.int .u32 0,.int .u32 0,.int .u32 0,.int .u32 0,.int .u32 0,.int .u32 0,.int .u32 0,.int .u32 0,.int .u32 0,.int .u32 0,.int .u32 0,.int .u32 0,.int .u32 0,.int .u32 0,.int .u32 0,.int .u32 0,.int .u32 0,.int .u32 0,.int .u32 0,.int .u32 0,.int .u32 0,.int .u32 0,.int .u32 0,.int .u32 0,.int .u32 0,.int .u32 0,.int .u32 0,.int .u32 0,.int .u32 0,.int .u32 0,.int .u32 0,.int .u32 0,.int .u32 0,.int .u32 0,.int .u32 0,.int .u32 0,.int .u32 0,.int .u32 0,.int .u32 0,.int .u32 0,.int .u32 0,.int .u32 0,.int .u32 0,.int .u32 0,.int .u32 0,.int .u32 0,.int .u32 0,.int .u32 0,.int .u32 0,.int .u32 0,.int .u32 0,.int .u32 0,.int .u32 0,.int .u32 0,.int .u32 0,.int .u32 0,.int .u32 0,.int .u32 0,.int .u32 0,.int .u32 0,.int .u32 0,.int .u32 0] : Array Value) = arrOf 64 (fun _ => .int .u32 0):=rfl
def pwb (blk : Nat → Nat) (j : Nat) : Nat → Nat
 | 0 => 0
 | m + 1 => pwb blk j m * 256 + blk (4 * j + m)
theorem pwb_lt {blk : Nat → Nat} (h : ∀ j,blk j < 256) (j : Nat) : ∀ m,pwb blk j m < 256 ^ m
 | 0 => by simp [pwb]
 | m + 1 => by
  have ih:=pwb_lt h j m
  have hb:=h (4 * j + m)
  show pwb blk j m * 256 + blk (4 * j + m) < 256 ^ (m + 1)
  rw [Nat.pow_succ]; omega
def pw (blk : Nat → Nat) (k j : Nat) : Nat:=pwb blk j (min (k - 4 * j) 4)
theorem pw_zero (blk : Nat → Nat) (j : Nat) : pw blk 0 j = 0:=by unfold pw; rw [Nat.zero_sub,Nat.zero_min]; rfl
theorem pw_step {blk : Nat → Nat} {k : Nat} (j : Nat) : pw blk (k + 1) j = if j = k / 4 then pw blk k j * 256 + blk k else pw blk k j:=by
 unfold pw
 by_cases h : j = k / 4
 ·
  rw [if_pos h,show min (k + 1 - 4 * j) 4 = min (k - 4 * j) 4 + 1 by omega]
  show pwb blk j _ * 256 + blk (4 * j + _) = _
  rw [show 4 * j + min (k - 4 * j) 4 = k by omega]
 ·
  rw [if_neg h,show min (k + 1 - 4 * j) 4 = min (k - 4 * j) 4 by omega]
theorem pw_lt {blk : Nat → Nat} (h : ∀ j,blk j < 256) (k : Nat) : pw blk k (k / 4) < 16777216:=by
 unfold pw
 have:=pwb_lt h (k / 4) (min (k - 4 * (k / 4)) 4)
 have h2 : 256 ^ min (k - 4 * (k / 4)) 4 ≤ 256 ^ 3:=Nat.pow_le_pow_right (by omega) (by omega)
 have h3 : (256 : Nat) ^ 3 = 16777216:=by decide
 omega
theorem pw_all {blk : Nat → Nat} {j : Nat} (hj : j < 16) : pw blk 64 j = word blk (4 * j):=by
 unfold pw
 rw [show min (64 - 4 * j) 4 = 4 by omega]
 show (((0 * 256 + blk (4 * j + 0)) * 256 + blk (4 * j + 1)) * 256 + blk (4 * j + 2)) * 256 + blk (4 * j + 3) = _
 unfold word
 rw [Nat.add_zero]
 omega
theorem pw_none {blk : Nat → Nat} {j : Nat} (hj : 16 ≤ j) : pw blk 64 j = 0:=by
 unfold pw
 rw [show min (64 - 4 * j) 4 = 0 by omega]; rfl
theorem or_byte {x y : Nat} (hx : x < 16777216) (hy : y < 256) : bits .or .u32 ((x : Int) * 256) (y : Int) = ((x * 256 + y : Nat) : Int):=by
 have h:=or32 (x * 256) y (by omega) (by omega)
 rw [show x * 256 = 2 ^ 8 * x by omega,← Nat.two_pow_add_eq_or_of_lt (show y < 2 ^ 8 by omega)] at h
 rw [show x * 256 = 2 ^ 8 * x by omega,← h]
 rw [Int.natCast_mul,Int.mul_comm]; rfl
theorem words_calls (g : Nat) (s : St) (blk : Nat → Nat) (len : Nat) (hblk : ∀ j,blk j < 256) (w : World) (hH : HRow w g s blk len) :
  Calls Tryz.prog 151 #[.pointer (some ⟨g,0,none⟩)] w fun e w' => e = .returned (.agg (arrOf 64 fun t => .int .u32 (wt (fun t => word blk (4 * t)) t : Nat))) ∧ Below w.heap.size w w':=by
 go_enter Tryz.func151,Tryz.ntmps151
 go_upto_region 2 with (fail)
 rw [zeros64]
 have hN0 : ((w.alloc (.cells (arrOf 64 (fun _ => .int .u32 0)) 183)).alloc (.cells (arrOf 64 (fun _ => .int .u32 0)) 183)).rowIs w.heap.size 183 64 (fun _ => .int .u32 0):=(zcs w 64 183 (fun _ => .int .u32 0) rfl).alloc _
 have hR : ((w.alloc (.cells (arrOf 64 (fun _ => .int .u32 0)) 183)).alloc (.cells (arrOf 64 (fun _ => .int .u32 0)) 183)).rowIs (w.heap.size + 1) 183 64 (fun _ => .int .u32 0):=zcs _ 64 183 (fun _ => .int .u32 0) (by simp)
 have hb : Below w.heap.size w ((w.alloc (.cells (arrOf 64 (fun _ => .int .u32 0)) 183)).alloc (.cells (arrOf 64 (fun _ => .int .u32 0)) 183)):=((Below.refl _ _).alloc (by simp) _).alloc (by simp) _
 have hH1:=(hH.alloc (.cells (arrOf 64 (fun _ => .int .u32 0)) 183)).alloc (.cells (arrOf 64 (fun _ => .int .u32 0)) 183)
 generalize ((w.alloc (.cells (arrOf 64 (fun _ => .int .u32 0)) 183)).alloc (.cells (arrOf 64 (fun _ => .int .u32 0)) 183)) = w1 at *
 have HB:=veil hH1.block
 obtain ⟨B,hB⟩ : ∃ B,B = ((List.range 64).map fun j => Value.int .u8 (blk j : Nat)).toArray:=⟨_,rfl⟩
 have HBB:=veil hB
 clear hB
 go_wp2_with ((with_reducible refine zas 10 ?_); refine wpList_load_mid rfl 168 _ rfl g 8 rfl ((List.range 64).map fun j => Value.int .u8 (blk j : Nat)) _ HB.out Tryz.underlying168 rfl info8 ?_; rw [← HBB.out])
 go_loopw [11] (fun c wr => ∃ k : Nat,k ≤ 64 ∧ c = .int .i64 k ∧ wr.rowIs (w.heap.size + 1) 183 64 (fun j => .int .u32 (pw blk k j : Nat)) ∧ wr.rowIs w.heap.size 183 64 (fun _ => .int .u32 0) ∧ Below w.heap.size w wr)
  (fun c _ => 64 - (intOf c).toNat)
 case atStart => exact ⟨0,by omega,rfl,hR.congr fun j _ => by rw [pw_zero]; rfl,hN0,hb⟩
 case round =>
  obtain ⟨k,hk,rfl,hR,hN0,hb⟩:=hrel
  by_cases hlt : k < 64
  ·
   have hBk : B[k]? = some (.int .u8 (blk k : Nat)):=by rw [HBB.out]; simp [hlt]
   have hst:=fun j => pw_step (blk:=blk) (k:=k) j
   have hx:=pw_lt hblk k
   have hy:=hblk k
   obtain ⟨q,hq⟩ : ∃ q,q = k / 4:=⟨_,rfl⟩
   rw [← hq] at hst hx
   have hq16 : q < 16:=by omega
   have hqi : (k : Int) / 4 = (q : Int):=by omega
   obtain ⟨x,hxx⟩ : ∃ x,x = pw blk k q:=⟨_,rfl⟩
   obtain ⟨y,hyy⟩ : ∃ y,y = blk k:=⟨_,rfl⟩
   have c1:=hR.cell (show q < 64 by omega)
   have f1:=hR.frozen q
   rw [← hxx] at hx c1
   rw [← hyy] at hy hBk
   have ko:=or_byte hx hy
   have HS:=veil hst
   have HX:=veil hxx
   have HY:=veil hyy
   have HQ:=veil hq
   have kx:=fun W => zeu (P:=Tryz.prog) (t:=168) (cs:=B) (v:=.int .u8 (y : Int)) Tryz.underlying168 (by kernel_rfl) (fun W => run_part_plain (P:=Tryz.prog) W (e:=5) (by kernel_rfl) (xs:=B) (off:=k) hBk) hlt .i64 W
   clear hst hxx hyy hq hBk
   go_wp2
   go_roundw
   case rel =>
    refine ⟨k + 1,by omega,by go_num,(hR.set q _).congr fun j hj => ?_,zau hN0 (by omega) _,zaq hb (by omega) _⟩
    by_cases h : j = q
    ·
     subst h
     rw [if_pos rfl,HS.out,if_pos rfl,← HX.out,← HY.out]
     rfl
    ·
     rw [if_neg h,HS.out,if_neg h]
   case measure => simp [intOf]; omega
  ·
   have e64 : k = 64:=by omega
   have hR:=e64 ▸ hR
   have HK:=veil e64
   have hkf : decide ((k : Int) < 64) = false:=by simp; omega
   clear e64 hlt hk
   have hm : ∀ t,t < 16 → word blk (4 * t) < 2 ^ 32:=fun t _ => by
    unfold word
    have h0:=hblk (4 * t); have h1:=hblk (4 * t + 1); have h2:=hblk (4 * t + 2); have h3:=hblk (4 * t + 3)
    omega
   have hR : wr.rowIs (w.heap.size + 1) 183 64 (fun j => .int .u32 ((if j < 16 then wt (fun t => word blk (4 * t)) j else 0 : Nat) : Int)):=hR.congr fun j _ => by
    by_cases h : j < 16
    ·
     rw [if_pos h,wt_lo _ h,pw_all h]
    ·
     rw [if_neg h,pw_none (by omega)]
   have hW:=fun t => wt_lt (m:=fun t => word blk (4 * t)) hm t
   obtain ⟨m,hm0⟩ : ∃ m,m = fun t => word blk (4 * t):=⟨_,rfl⟩
   rw [← hm0] at hR hW
   have HM0:=veil hm0
   clear hm0
   have HM:=veil hm
   have HW:=veil hW
   have HBL:=veil hblk
   clear hm hW hblk
   go_wp2
   go_loopw [6] (fun c wr => ∃ t : Nat,16 ≤ t ∧ t ≤ 64 ∧ c = .int .i64 t ∧ wr.rowIs (w.heap.size + 1) 183 64 (fun j => .int .u32 ((if j < t then wt m j else 0 : Nat) : Int)) ∧ wr.rowIs w.heap.size 183 64 (fun _ => .int .u32 0) ∧ Below w.heap.size w wr)
    (fun c _ => 64 - (intOf c).toNat)
   case atStart => exact ⟨16,by omega,by omega,rfl,hR,hN0,hb⟩
   case round =>
    obtain ⟨t,ht16,ht,rfl,hR,hN0,hb⟩:=hrel
    by_cases hlt : t < 64
    ·
     obtain ⟨t16,e16⟩ : ∃ t16,t = t16 + 16:=⟨t - 16,by omega⟩
     have cell : ∀ d,0 < d → d ≤ 16 → wr.cell? ⟨w.heap.size + 1,t - d,none⟩ = some (.int .u32 (wt m (t - d) : Nat)):=fun d h0 h1 => by
      rw [hR.cell (show t - d < 64 by omega),if_pos (by omega)]
     have c2:=cell 2 (by omega) (by omega)
     have c7:=cell 7 (by omega) (by omega)
     have c15:=cell 15 (by omega) (by omega)
     have c16:=cell 16 (by omega) (by omega)
     have cT : wr.cell? ⟨w.heap.size + 1,t,none⟩ = some (.int .u32 0):=by
      rw [hR.cell hlt,if_neg (by omega)]; rfl
     have fT:=hR.frozen t
     have hwt:=wt_hi m (show ¬ t < 16 by omega)
     have l2:=HW.out (t - 2)
     have l7:=HW.out (t - 7)
     have l15:=HW.out (t - 15)
     have l16:=HW.out (t - 16)
     obtain ⟨x2,hx2⟩ : ∃ x,x = wt m (t - 2):=⟨_,rfl⟩
     obtain ⟨x7,hx7⟩ : ∃ x,x = wt m (t - 7):=⟨_,rfl⟩
     obtain ⟨x15,hx15⟩ : ∃ x,x = wt m (t - 15):=⟨_,rfl⟩
     obtain ⟨x16,hx16⟩ : ∃ x,x = wt m (t - 16):=⟨_,rfl⟩
     rw [← hx2] at c2 hwt l2
     rw [← hx7] at c7 hwt l7
     rw [← hx15] at c15 hwt l15
     rw [← hx16] at c16 hwt l16
     have i2 : (t : Int) - 2 = ((t - 2 : Nat) : Int):=by omega
     have i7 : (t : Int) - 7 = ((t - 7 : Nat) : Int):=by omega
     have i15 : (t : Int) - 15 = ((t - 15 : Nat) : Int):=by omega
     have i16 : (t : Int) - 16 = ((t - 16 : Nat) : Int):=by omega
     have b2 : t - 2 < 64:=by omega
     have b7 : t - 7 < 64:=by omega
     have b15 : t - 15 < 64:=by omega
     have b16 : t - 16 < 64:=by omega
     generalize t - 2 = t2 at *
     generalize t - 7 = t7 at *
     generalize t - 15 = t15 at *
     generalize t - 16 = t16' at *
     have a1 : ∀ x y : Nat,((x : Int) + (y : Int)) % 4294967296 = ((ad x y : Nat) : Int):=fun x y => by unfold ad; rw [Int.natCast_emod,Int.natCast_add]; rfl
     have a2 : ∀ x y : Nat,IntKind.u32.wrap ((x : Int) + (y : Int)) = ((ad x y : Nat) : Int):=fun x y => by rw [wrap32]; exact a1 x y
     have w2 : IntKind.i64.wrap (t2 : Int) = (t2 : Int):=IntWalk.i64_in _ (by omega)
     have w7 : IntKind.i64.wrap (t7 : Int) = (t7 : Int):=IntWalk.i64_in _ (by omega)
     have w15 : IntKind.i64.wrap (t15 : Int) = (t15 : Int):=IntWalk.i64_in _ (by omega)
     have w16 : IntKind.i64.wrap (t16' : Int) = (t16' : Int):=IntWalk.i64_in _ (by omega)
     have j2 : (t2 : Int) < 64:=by omega
     have j7 : (t7 : Int) < 64:=by omega
     have j15 : (t15 : Int) < 64:=by omega
     have j16 : (t16' : Int) < 64:=by omega
     have jT : (t : Int) < 64:=by omega
     have K1:=veil (fun W => smallOne_calls x2 l2 W)
     have K2:=veil (fun W => smallZero_calls x15 l15 W)
     have HT:=veil hwt
     have HH:=veil (And.intro hx2 (And.intro hx7 (And.intro hx15 hx16)))
     have E16:=veil e16
     clear cell hwt hx2 hx7 hx15 hx16 e16 l2 l15 l7 l16
     go_wp2
     go_still_tail 23,(by kernel_rfl)
     still_call (by first | ((with_reducible refine (K1.out _).mono ?_); rintro e w' ⟨rfl,rfl⟩; exact ⟨rfl,rfl⟩))
     repeat still_step
     still_call (by first | ((with_reducible refine (K2.out _).mono ?_); rintro e w' ⟨rfl,rfl⟩; exact ⟨rfl,rfl⟩))
     repeat still_step
     refine wpStill_nil ?_
     have hR2:=hR.drew
     have hN2:=hN0.drew
     have hb2:=hb.drew
     have cT2 : wr.drew.cell? ⟨w.heap.size + 1,t,none⟩ = some (.int .u32 0):=cT
     have fT2 : wr.drew.frozen? ⟨w.heap.size + 1,t,none⟩ = false:=fT
     change wpList _ _ _ _ _ wr.drew
     generalize wr.drew = w2 at *
     clear c2 c7 c15 c16 cT fT hR hN0 hb
     go_wp2
     go_roundw
     case rel =>
      refine ⟨t + 1,by omega,by omega,by go_num,(hR2.set t _).congr fun j hj => ?_,zau hN2 (by omega) _,zaq hb2 (by omega) _⟩
      by_cases h : j = t
      ·
       subst h
       rw [if_pos rfl,if_pos (by omega),HT.out]
      ·
       rw [if_neg h]
       by_cases h2 : j < t
       ·
        rw [if_pos h2,if_pos (by omega)]
       ·
        rw [if_neg h2,if_neg (by omega)]
     case measure => simp [intOf]; omega
    ·
     have e64 : t = 64:=by omega
     have hR:=e64 ▸ hR
     have hR : wr.rowIs (w.heap.size + 1) 183 64 (fun j => .int .u32 (wt m j : Nat)):=hR.congr fun j hj => by rw [if_pos hj]
     have htf : decide ((t : Int) < 64) = false:=by simp; omega
     clear HM HB HBB e64 hlt ht ht16
     have hA:=veil (blkOf hR)
     have hN:=veil (blkOf hN0)
     obtain ⟨A,hA2⟩ : ∃ A,A = arrOf 64 (fun j => .int .u32 (wt m j : Nat)):=⟨_,rfl⟩
     rw [← hA2] at hA
     have HE:=veil hA2
     have hs : A.size = 64:=by rw [hA2,zaz]
     have h1 : A.all (·.oneCell') = true:=by rw [hA2]; exact zer fun _ _ => rfl
     have h2 : (Tryz.prog.info? 183).map (·.size) = some A.size:=by rw [hs]; exact info32
     have HZ:=veil (And.intro hs (And.intro h1 h2))
     clear hs h1 h2 hA2
     go_wp2_with (first
      | ((with_reducible refine zas 54 ?_); refine wpList_load_row rfl 183 _ rfl (w.heap.size + 1) rfl 183 A (0,0) _ hA.out Tryz.underlying183 rfl HZ.out.2.2 ?_)
      | ((with_reducible refine zap ?_); refine wpList_store_row rfl 183 _ _ rfl w.heap.size A rfl rfl 183 _ hN.out HZ.out.2.2 (by rw [HZ.out.1,zaz]) HZ.out.2.1 ?_))
     exact bodyPost_ret (results_cell_row rfl _ _ w.heap.size 183 A (0,0) _ rfl (setRow_heap wr w.heap.size _ A 183 (0,0) hN.out) Tryz.underlying183 rfl HZ.out.2.2) rfl ⟨by rw [HE.out,HM0.out],zbq hb (Nat.le_refl _) _⟩
theorem infoS : (Tryz.prog.info? 167).map (·.size) = some 8:=by kernel_rfl
theorem zes (x y : Nat) : ((x : Int) + (y : Int)) % 4294967296 = ((ad x y : Nat) : Int):=by unfold ad; rw [Int.natCast_emod,Int.natCast_add]; rfl
theorem zdr (x y : Nat) : IntKind.u32.wrap ((x : Int) + (y : Int)) = ((ad x y : Nat) : Int):=by rw [wrap32]; exact zes x y
def stArr (s : St) : Array Value:=arrOf 8 fun j => .int .u32 (s.at j : Nat)
theorem stList (s : St) : ((List.range 8).map fun j => Value.int .u32 (s.at j : Nat)).toArray = stArr s:=rfl
theorem addSt_at (s r : St) (j : Nat) : (addSt s r).at j = ad (s.at j) (r.at j):=by
 unfold St.at addSt
 split <;> rfl
theorem mix_calls (g : Nat) (s : St) (blk : Nat → Nat) (len : Nat) (hs : s.Ok) (hblk : ∀ j,blk j < 256) (w : World) (hK : KT w) (hH : HRow w g s blk len) :
  Calls Tryz.prog 129 #[.pointer (some ⟨g,0,none⟩)] w fun e w' => e = .returned (.tuple #[]) ∧ HRow w' g (blockN (fun t => word blk (4 * t)) s) blk len ∧ But g w w':=by
 go_enter Tryz.func129,Tryz.ntmps129
 go_wp2_with fail
 refine (words_calls g s blk len hblk w hH).mono ?_
 rintro e w1 ⟨rfl,hb1⟩
 have hm : ∀ t,t < 16 → word blk (4 * t) < 2 ^ 32:=fun t _ => by
  unfold word
  have h0:=hblk (4 * t); have h1:=hblk (4 * t + 1); have h2:=hblk (4 * t + 2); have h3:=hblk (4 * t + 3)
  omega
 obtain ⟨m,hm0⟩ : ∃ m,m = fun t => word blk (4 * t):=⟨_,rfl⟩
 have hW:=fun t => wt_lt (m:=fun t => word blk (4 * t)) hm t
 rw [← hm0] at hW ⊢
 obtain ⟨A,hA⟩ : ∃ A,A = arrOf 64 (fun j => .int .u32 (wt m j : Nat)):=⟨_,rfl⟩
 rw [← hA]
 have hAs : A.size = 64:=by rw [hA,zaz]
 have hA1 : A.all (·.oneCell') = true:=by rw [hA]; exact zer fun _ _ => rfl
 have HZ:=veil (And.intro hAs (And.intro hA1 (show (Tryz.prog.info? 183).map (·.size) = some A.size by rw [hAs]; exact info32)))
 have HA:=veil (show ∀ j,j < 64 → A[j]? = some (.int .u32 (wt m j : Nat)) from fun j hj => by rw [hA,zdi _ hj])
 have HM:=veil (show (fun t => word blk (4 * t)) = m from hm0.symm)
 have HS:=veil hs
 have HW:=veil hW
 have hK1:=hK.call hb1
 have hH1:=hH.call hb1
 clear hm hm0 hW hA hAs hA1 hs hblk hK hH
 go_upto_region 1 with (first
  | ((with_reducible refine zap ?_); refine wpList_store_row rfl 183 _ _ rfl w1.heap.size A rfl rfl 183 _ (heap_alloc_last w1 _) HZ.out.2.2 (by rw [HZ.out.1]; rfl) HZ.out.2.1 ?_; rw [World.setRow_alloc_new]))
 have hA2 : (w1.alloc (.cells A 183)).heap[w1.heap.size]? = some (.cells A 183 (0,0)):=heap_alloc_last w1 _
 have hK2:=hK1.alloc (.cells A 183)
 have hH2:=hH1.alloc (.cells A 183)
 have hb2:=hb1.alloc hb1.size (.cells A 183)
 generalize w1.alloc (.cells A 183) = w2 at *
 generalize w1.heap.size = bA at *
 have HA2:=veil hA2
 clear hA2
 have HB:=veil hH2.words
 have HS1:=veil (show (stArr s).all (·.oneCell') = true from zer fun _ _ => rfl)
 have HSL:=veil (stList s)
 clear hK1 hH1 hb1
 go_upto_region 2 with (first
  | ((with_reducible refine zas 23 ?_); refine wpList_load_mid rfl 167 _ rfl g 0 rfl _ _ HB.out Tryz.underlying167 rfl (by simpa using infoS) ?_; rw [HSL.out]; generalize hSA : stArr s = SA; have HSA:=veil hSA; clear hSA)
  | ((with_reducible refine zap ?_); refine wpList_store_row rfl 167 _ _ rfl w2.heap.size (stArr s) rfl (congrArg Value.agg HSA.out.symm) 167 _ (heap_alloc_last w2 _) infoS rfl HS1.out ?_; rw [World.setRow_alloc_new]))
 have hR3 : (w2.alloc (.cells (stArr s) 167)).rowIs w2.heap.size 167 8 (fun j => .int .u32 (s.at j : Nat)):=zcs w2 8 _ _ rfl
 have hK3:=hK2.alloc (.cells (stArr s) 167)
 have hH3:=hH2.alloc (.cells (stArr s) 167)
 have hb3:=hb2.alloc hb2.size (.cells (stArr s) 167)
 have hA3 : (w2.alloc (.cells (stArr s) 167)).heap[bA]? = some (.cells A 183 (0,0)):=(Below.heap_alloc _ _ _ (Array.getElem?_eq_some_iff.1 HA2.out).1).trans HA2.out
 generalize w2.alloc (.cells (stArr s) 167) = w3 at *
 generalize w2.heap.size = bS at *
 have HA3:=veil hA3
 have d0 : w3.cell? ⟨bS,0,none⟩ = some (.int .u32 (s.a : Nat)):=hR3.cell (by decide)
 have d1 : w3.cell? ⟨bS,1,none⟩ = some (.int .u32 (s.b : Nat)):=hR3.cell (by decide)
 have d2 : w3.cell? ⟨bS,2,none⟩ = some (.int .u32 (s.c : Nat)):=hR3.cell (by decide)
 have d3 : w3.cell? ⟨bS,3,none⟩ = some (.int .u32 (s.d : Nat)):=hR3.cell (by decide)
 have d4 : w3.cell? ⟨bS,4,none⟩ = some (.int .u32 (s.e : Nat)):=hR3.cell (by decide)
 have d5 : w3.cell? ⟨bS,5,none⟩ = some (.int .u32 (s.f : Nat)):=hR3.cell (by decide)
 have d6 : w3.cell? ⟨bS,6,none⟩ = some (.int .u32 (s.g : Nat)):=hR3.cell (by decide)
 have d7 : w3.cell? ⟨bS,7,none⟩ = some (.int .u32 (s.h : Nat)):=hR3.cell (by decide)
 clear hK2 hH2 hb2 HA2 hA3 hR3 HB HS1 HSL HSA
 go_quiet (fail)
 have hK4:=hK3.drewN nq
 have hH4:=hH3.drewN nq
 have hb4:=zbf hb3 nq
 have hA4 : (w3.drewN nq).heap[bA]? = some (.cells A 183 (0,0)):=HA3.out
 generalize w3.drewN nq = w4 at *
 have HA4:=veil hA4
 clear hK3 hH3 hb3 HA3 hA4 d0 d1 d2 d3 d4 d5 d6 d7
 have sI:=zes
 have sW:=zdr
 go_wp2_with ((with_reducible refine zas 40 ?_); refine wpList_load_row rfl 183 _ rfl bA rfl 183 A (0,0) _ HA4.out Tryz.underlying183 rfl HZ.out.2.2 ?_)
 clear HA4
 go_loopw [4,5,6,7,8,9,10,11,41] (fun v4 v5 v6 v7 v8 v9 v10 v11 v41 wr => ∃ t a b c d e f q h : Nat,t ≤ 64 ∧ Hid (roundsN m s t = ⟨a,b,c,d,e,f,q,h⟩) ∧
   v41 = .int .i64 (t : Int) ∧ v4 = .int .u32 (a : Int) ∧ v5 = .int .u32 (b : Int) ∧ v6 = .int .u32 (c : Int) ∧ v7 = .int .u32 (d : Int) ∧ v8 = .int .u32 (e : Int) ∧ v9 = .int .u32 (f : Int) ∧ v10 = .int .u32 (q : Int) ∧ v11 = .int .u32 (h : Int) ∧
   KT wr ∧ HRow wr g s blk len ∧ Below w.heap.size w wr)
  (fun _ _ _ _ _ _ _ _ v41 _ => 64 - (intOf v41).toNat)
 case atStart => exact ⟨0,s.a,s.b,s.c,s.d,s.e,s.f,s.g,s.h,by omega,rfl,rfl,rfl,rfl,rfl,rfl,rfl,rfl,rfl,rfl,hK4,hH4,hb4⟩
 case round =>
  obtain ⟨t,a,b,c,d,e,f,q,h,ht,hr,rfl,rfl,rfl,rfl,rfl,rfl,rfl,rfl,rfl,hK,hH,hb⟩:=hrel
  have hok : (⟨a,b,c,d,e,f,q,h⟩ : St).Ok:=hr.out ▸ zjn HS.out t
  by_cases hlt : t < 64
  ·
   have ck:=hK.cell t hlt
   have kx:=fun W => zeu (P:=Tryz.prog) (t:=183) (cs:=A) (v:=.int .u32 (wt m t : Nat)) Tryz.underlying183 (by kernel_rfl) (fun W => run_part_plain (P:=Tryz.prog) W (e:=147) (by kernel_rfl) (xs:=A) (off:=t) (HA.out t hlt)) hlt .i64 W
   obtain ⟨x,hx⟩ : ∃ x,x = wt m t:=⟨_,rfl⟩
   obtain ⟨k,hk⟩ : ∃ k,k = kc t:=⟨_,rfl⟩
   rw [← hk] at ck
   rw [← hx] at kx
   have K1:=veil (fun W => bigOne_calls e hok.e W)
   have K2:=veil (fun W => choice_calls e f q hok.e hok.f hok.g W)
   have K3:=veil (fun W => bigZero_calls a hok.a W)
   have K4:=veil (fun W => majority_calls a b c hok.a hok.b hok.c W)
   have jt : (t : Int) < 64:=by omega
   have wt64 : IntKind.i64.wrap (t : Int) = (t : Int):=IntWalk.i64_in _ (by omega)
   have HX:=veil (And.intro hx hk)
   clear hx hk hok
   go_wp2
   refine wp_region_still_lit (by kernel_rfl) (by kernel_rfl) ?_
   repeat still_step
   still_call (by first | ((with_reducible refine (K1.out _).mono ?_); rintro e w' ⟨rfl,rfl⟩; exact ⟨rfl,rfl⟩))
   repeat still_step
   still_call (by first | ((with_reducible refine (K2.out _).mono ?_); rintro e w' ⟨rfl,rfl⟩; exact ⟨rfl,rfl⟩))
   repeat still_step
   refine wpStill_nil ?_
   change Exit.then _ _ _ _ wr.drew
   have hK':=hK.drew
   have hH':=hH.drew
   have hb':=hb.drew
   generalize wr.drew = w5 at *
   clear hK hH hb ck kx
   obtain ⟨y1,hy1⟩ : ∃ y,y = ad (ad (ad (ad h (bs1 e)) (chN e f q)) k) x:=⟨_,rfl⟩
   rw [← hy1]
   have HY1:=veil hy1
   clear hy1
   go_wp2_with (first
    | (go_at_call 154; ((with_reducible refine (K3.out _).mono ?_); rintro e w' ⟨rfl,rfl⟩))
    | (go_at_call 155; ((with_reducible refine (K4.out _).mono ?_); rintro e w' ⟨rfl,rfl⟩)))
   go_roundw
   case rel =>
    refine ⟨t + 1,_,_,_,_,_,_,_,_,by omega,?_,by go_num,rfl,rfl,rfl,rfl,rfl,rfl,rfl,rfl,hK',hH',hb'⟩
    show roundsN m s (t + 1) = _
    show stepN (roundsN m s t) (kc t) (wt m t) = _
    rw [hr.out,← HX.out.1,← HX.out.2,HY1.out]
    rfl
   case measure => simp [intOf]; omega
  ·
   have e64 : t = 64:=by omega
   have htf : decide ((t : Int) < 64) = false:=by simp; omega
   have hr:=e64 ▸ hr
   obtain ⟨r,hrr⟩ : ∃ r : St,r = ⟨a,b,c,d,e,f,q,h⟩:=⟨_,rfl⟩
   have hB : blockN m s = addSt s r:=by unfold blockN; rw [hr.out,hrr]
   have kx : ∀ j : Nat,j < 8 → ∀ W,(Instr.index 167 (.agg #[.int .u32 (a : Int),.int .u32 (b : Int),.int .u32 (c : Int),.int .u32 (d : Int),.int .u32 (e : Int),.int .u32 (f : Int),.int .u32 (q : Int),.int .u32 (h : Int)]) (.int .i64 (j : Int))).run Tryz.prog W = .ok (.int .u32 (r.at j : Nat)) W:=fun j hj W =>
    zeu (P:=Tryz.prog) (t:=167) (v:=.int .u32 (r.at j : Nat)) Tryz.underlying167 (by kernel_rfl) (fun W => run_part_plain (P:=Tryz.prog) W (e:=147) (by kernel_rfl) (off:=j) (by rw [hrr]; exact zdi (n:=8) (fun i => .int .u32 (St.at ⟨a,b,c,d,e,f,q,h⟩ i : Nat)) hj)) hj .i64 W
   have KX:=veil kx
   have HB:=veil hB
   have HR:=veil hrr
   have hH8 : wr.rowIs g 170 73 (fun i => hcells s blk len i):=hH
   have hbt : But g w wr:=But.of_below hb
   clear kx hB hrr e64 hlt ht hr hok hH hb
   go_wp2
   go_loopw [89] (fun v89 wr => ∃ j : Nat,j ≤ 8 ∧ v89 = .int .i64 (j : Int) ∧ wr.rowIs g 170 73 (fun i => if i < j then .int .u32 ((addSt s r).at i : Nat) else hcells s blk len i) ∧ But g w wr)
    (fun v89 _ => 8 - (intOf v89).toNat)
   case atStart => exact ⟨0,by omega,rfl,hH8.congr fun i _ => by rw [if_neg (by omega)],hbt⟩
   case round =>
    obtain ⟨j,hj,rfl,hH,hb⟩:=hrel
    by_cases hlt : j < 8
    ·
     have kj:=KX.out j hlt
     have cj : wr.cell? ⟨g,j,none⟩ = some (.int .u32 (s.at j : Nat)):=by
      rw [hH.cell (show j < 73 by omega),if_neg (by omega),hcells,if_pos hlt]
     have fj:=hH.frozen j
     have jj : (j : Int) < 8:=by omega
     have wj : IntKind.i64.wrap (j : Int) = (j : Int):=IntWalk.i64_in _ (by omega)
     obtain ⟨x,hx⟩ : ∃ x,x = s.at j:=⟨_,rfl⟩
     obtain ⟨y,hy⟩ : ∃ y,y = r.at j:=⟨_,rfl⟩
     rw [← hx] at cj
     rw [← hy] at kj
     have HX:=veil (And.intro hx hy)
     clear hx hy
     go_wp2
     go_still_tail 11,(by kernel_rfl)
     have hH':=hH.drew
     have hb':=But.drew hb
     have cj' : wr.drew.cell? ⟨g,j,none⟩ = some (.int .u32 (x : Nat)):=cj
     have fj' : wr.drew.frozen? ⟨g,j,none⟩ = false:=fj
     change wpList _ _ _ _ _ wr.drew
     generalize wr.drew = w5 at *
     clear cj fj hH hb
     go_wp2
     go_roundw
     case rel =>
      refine ⟨j + 1,by omega,by go_num,(hH'.set j _).congr fun i hi => ?_,But.set hb' _ _⟩
      by_cases h : i = j
      ·
       subst h
       rw [if_pos rfl,if_pos (by omega),addSt_at,← HX.out.1,← HX.out.2]
      ·
       rw [if_neg h]
       by_cases h2 : i < j
       ·
        rw [if_pos h2,if_pos (by omega)]
       ·
        rw [if_neg h2,if_neg (by omega)]
     case measure => simp [intOf]; omega
    ·
     have e8 : j = 8:=by omega
     have hjf : decide ((j : Int) < 8) = false:=by simp; omega
     have hH : HRow wr g (blockN m s) blk len:=hH.congr fun i hi => by
      rw [e8,HB.out]
      unfold hcells
      by_cases h : i < 8
      ·
       rw [if_pos h,if_pos h]
      ·
       rw [if_neg h,if_neg h,if_neg h]
     clear e8 hlt hj
     go_wp2
     go_end0
     exact ⟨rfl,by rw [HM.out]; exact hH,hb⟩
theorem wpList_copy_row {P : Program} {w : World} {ops : Array Oper} {rest : List Oper} {o : Oper} {a : Act} {Q : Exit → Act → World → Prop} (hgd : o.guard = none) (d s : Operand) (dT sT : TypeId)
  (ho : o.op = .call { callee:=.builtin .copy,args:=#[d,s],argTypes:=#[dT,sT] }) (elem : TypeId) (hu : P.underlying dT = some (.slice elem)) (hsz : (P.info? elem).map (·.size) = some 1)
  (g off dLen dCap : Nat) (ad : Addr) (sLen sCap : Nat) (hd : a.eval d = .slice (some ⟨g,off,none⟩) dLen dCap) (hs : a.eval s = .slice (some ad) sLen sCap)
  (t n : Nat) (f : Nat → Value) (hrow : w.rowIs g t n f) (m : Nat) (hm : m = Nat.min sLen dLen) (v : Nat → Value) (hsrc : ∀ j,j < m → w.cell? (ad.add j) = some (v j)) (hfit : off + m ≤ n)
  (h1 : ∀ j,j < m → (v j).oneCell' = true)
  (h : ∀ w',But g w w' → w'.rowIs g t n (fun j => if off ≤ j ∧ j < off + m then v (j - off) else f j) → wpList P ops Q rest (a.put o.dst (goInt (m : Nat))) w') : wpList P ops Q (o :: rest) a w:=by
 have hcs : ((List.range m).map v).length = m:=by simp
 have hk:=wpList_copy_own (P:=P) (w:=w) (ops:=ops) (rest:=rest) (o:=o) (a:=a) (Q:=Q) hgd d s dT sT ho elem hu hsz g off dLen dCap ad sLen sCap hd hs (arrOf n f) t (blkOf hrow) ((List.range m).map v) (by rw [hcs,hm])
  (fun j u hu => by
   have hj : j < m:=by have:=(List.getElem?_eq_some_iff.1 hu).1; simpa using this
   rw [hsrc j hj,← hu]; simp [hj]) (by rw [hcs,zaz]; exact hfit) (fun u hu => by
   simp at hu; obtain ⟨j,hj,rfl⟩:=hu; exact h1 j hj)
 rw [hcs] at hk
 refine hk (h _ ⟨rfl,rfl,rfl,by simp [World.setRow],fun k _ hne => zbz w _ (by simpa using hne)⟩ ?_)
 refine zhc hrow (by simp [zaz]; omega) fun i hi => ?_
 have hl : (arrOf n f).toList.length = n:=by simp [zaz]
 by_cases c1 : i < off
 ·
  rw [if_neg (by omega)]
  simp only [List.getElem?_toArray]
  rw [List.getElem?_append_left (by simp [hl]; omega),List.getElem?_take_of_lt c1]
  simpa using zdi f hi
 ·
  by_cases c2 : i < off + m
  ·
   rw [if_pos ⟨by omega,c2⟩]
   simp only [List.getElem?_toArray]
   rw [List.getElem?_append_right (by simp [hl]; omega),List.getElem?_append_left (by simp [hl]; omega)]
   simp [hl,show min off n = off by omega,show i - off < m by omega]
  ·
   rw [if_neg (by omega)]
   simp only [List.getElem?_toArray]
   rw [List.getElem?_append_right (by simp [hl]; omega),List.getElem?_append_right (by simp [hl]; omega),List.getElem?_drop]
   rw [show off + m + (i - (List.take off (arrOf n f).toList).length - ((List.range m).map v).length) = i by simp [hl]; omega]
   simpa using zdi f hi
theorem blockN_congr {m m' : Nat → Nat} (h : ∀ t,t < 16 → m t = m' t) (s : St) : blockN m s = blockN m' s:=by
 have hs : ∀ k,sched m k = sched m' k:=by
  intro k
  induction k with
  | zero => simp only [sched]
  | succ k ihk =>
   simp only [sched]
   rw [ihk]
   by_cases hk : k < 16
   ·
    simp only [if_pos hk]; rw [h k hk]
   ·
    simp only [if_neg hk]
 have hr : ∀ k,roundsN m s k = roundsN m' s k:=by
  intro k
  induction k with
  | zero => simp only [roundsN]
  | succ k ihk =>
   simp only [roundsN]
   rw [ihk]; unfold wt; rw [hs]
 unfold blockN; rw [hr]
structure HOk (b : Nat → Nat) (L : Nat) (s : St) (blk : Nat → Nat) : Prop where
 s : s = blocksN b (L / 64)
 pre : ∀ j,j < L % 64 → blk j = b (64 * (L / 64) + j)
 lt : ∀ j,blk j < 256
theorem HOk.part {b : Nat → Nat} {L m : Nat} {s : St} {blk : Nat → Nat} (h : HOk b L s blk) (hm : L % 64 + m < 64) (hb : ∀ i,L ≤ i → i < L + m → b i < 256) :
  HOk b (L + m) s (fun j => if L % 64 ≤ j ∧ j < L % 64 + m then b (L + (j - L % 64)) else blk j):=by
 have e1 : (L + m) / 64 = L / 64:=by omega
 refine ⟨by rw [e1]; exact h.s,fun j hj => ?_,fun j => ?_⟩
 ·
  rw [e1]
  by_cases c : j < L % 64
  ·
   rw [if_neg (by omega),h.pre j c]
  ·
   rw [if_pos (by omega)]; congr 1; omega
 ·
  show (if _ then _ else _) < 256
  split
  ·
   exact hb _ (by omega) (by omega)
  ·
   exact h.lt j
theorem HOk.full {b : Nat → Nat} {L m : Nat} {s : St} {blk : Nat → Nat} (h : HOk b L s blk) (hm : L % 64 + m = 64) (hb : ∀ i,L ≤ i → i < L + m → b i < 256) :
  HOk b (L + m) (blockN (fun t => word (fun j => if L % 64 ≤ j ∧ j < L % 64 + m then b (L + (j - L % 64)) else blk j) (4 * t)) s) (fun j => if L % 64 ≤ j ∧ j < L % 64 + m then b (L + (j - L % 64)) else blk j):=by
 have e1 : (L + m) / 64 = L / 64 + 1:=by omega
 have e2 : ∀ j,j < 64 → (if L % 64 ≤ j ∧ j < L % 64 + m then b (L + (j - L % 64)) else blk j) = b (64 * (L / 64) + j):=fun j hj => by
  by_cases c : j < L % 64
  ·
   rw [if_neg (by omega),h.pre j c]
  ·
   rw [if_pos (by omega)]; congr 1; omega
 refine ⟨?_,fun j hj => by omega,fun j => ?_⟩
 ·
  rw [e1]
  show _ = blockN (fun t => word b (64 * (L / 64) + 4 * t)) (blocksN b (L / 64))
  rw [← h.s]
  refine blockN_congr (fun t ht => ?_) s
  show word _ (4 * t) = word b (64 * (L / 64) + 4 * t)
  unfold word
  dsimp only
  rw [e2 _ (by omega),e2 _ (by omega),e2 _ (by omega),e2 _ (by omega)]
  rfl
 ·
  show (if _ then _ else _) < 256
  split
  ·
   exact hb _ (by omega) (by omega)
  ·
   exact h.lt j
theorem HOk.congr {b b' : Nat → Nat} {L : Nat} {s : St} {blk : Nat → Nat} (h : HOk b L s blk) (e : ∀ i,i < L → b i = b' i) : HOk b' L s blk :=
 ⟨by rw [h.s]; exact zji _ (fun i hi => e i (by omega)),fun j hj => by rw [h.pre j hj,e _ (by omega)],h.lt⟩
def HashIs (w : World) (g : Nat) (b : Nat → Nat) (L : Nat) : Prop:=∃ s blk,HOk b L s blk ∧ HRow w g s blk L
section
variable {w w' : World} {g B L : Nat} {b b' : Nat → Nat}
theorem HashIs.lt (h : HashIs w g b L) : g < w.heap.size:=by obtain ⟨_,_,_,h⟩:=h; exact h.lt
theorem HashIs.of_block (h : HashIs w g b L) (e : w'.heap[g]? = w.heap[g]?) : HashIs w' g b L:=by obtain ⟨s,k,o,h⟩:=h; exact ⟨s,k,o,h.of_block e⟩
theorem HashIs.call (h : HashIs w g b L) (hb : Below w.heap.size w w') : HashIs w' g b L:=h.of_block (hb.block g h.lt)
theorem HashIs.below (h : HashIs w g b L) (hb : Below B w w') (hlt : g < B) : HashIs w' g b L:=h.of_block (hb.block g hlt)
theorem HashIs.but {r : Nat} (h : HashIs w g b L) (k : But r w w') (hne : g ≠ r) : HashIs w' g b L:=h.of_block (k.block g h.lt (by simpa using hne))
theorem HashIs.alloc (h : HashIs w g b L) (o : Obj) : HashIs (w.alloc o) g b L:=h.of_block (Below.heap_alloc _ _ _ h.lt)
theorem HashIs.drew (h : HashIs w g b L) : HashIs w.drew g b L:=h
theorem HashIs.congr (h : HashIs w g b L) (e : ∀ i,i < L → b i = b' i) : HashIs w g b' L:=by obtain ⟨s,k,o,h⟩:=h; exact ⟨s,k,o.congr e,h⟩
theorem HashIs.len (h : HashIs w g b L) : w.cell? ⟨g,72,none⟩ = some (.int .i64 (L : Int)):=by obtain ⟨_,_,_,h⟩:=h; exact h.length
end
def cat (b : Nat → Nat) (len : Nat) (y : Nat → Nat) : Nat → Nat:=fun i => if i < len then b i else y (i - len)
def Src (w : World) (A : Option Addr) (n : Nat) (y : Nat → Nat) (g : Nat) : Prop:=n = 0 ∨ ∃ b o,A = some ⟨b,o,none⟩ ∧ b < w.heap.size ∧ b ≠ g ∧ ∀ j,j < n → w.cell? ⟨b,o + j,none⟩ = some (.int .u8 (y j : Nat))
section
variable {w w' : World} {A : Option Addr} {n g B : Nat} {y : Nat → Nat}
theorem Src.below (h : Src w A n y g) (hb : Below w.heap.size w w') : Src w' A n y g:=by
 rcases h with h | ⟨b,o,ha,hlt,hne,hc⟩
 ·
  exact .inl h
 ·
  exact .inr ⟨b,o,ha,Nat.lt_of_lt_of_le hlt hb.size,hne,fun j hj => (hb.cell (p:=⟨b,o + j,none⟩) hlt).trans (hc j hj)⟩
theorem Src.but (h : Src w A n y g) (hb : But g w w') : Src w' A n y g:=by
 rcases h with h | ⟨b,o,ha,hlt,hne,hc⟩
 ·
  exact .inl h
 ·
  exact .inr ⟨b,o,ha,Nat.lt_of_lt_of_le hlt hb.size,hne,fun j hj => (World.cell?_of_block (w:=w) (a:=⟨b,o + j,none⟩) (hb.block b hlt (by simpa using hne))).trans (hc j hj)⟩
theorem Src.congr {y' : Nat → Nat} (h : Src w A n y g) (e : ∀ j,j < n → y j = y' j) : Src w A n y' g:=by
 rcases h with h | ⟨b,o,ha,hlt,hne,hc⟩
 ·
  exact .inl h
 ·
  exact .inr ⟨b,o,ha,hlt,hne,fun j hj => by rw [hc j hj,e j hj]⟩
end
theorem sliceAt_arr (g fl : Nat) (hf : fl < 64) (w : World) : (Instr.sliceAt 168 (.pointer (some ⟨g,8,none⟩)) (some (.int .i64 (fl : Int))) none none).run Tryz.prog w = .ok (.slice (some ⟨g,8 + fl,none⟩) (64 - fl) (64 - fl)) w:=by
 have e1 : Tryz.prog.arrayLen 168 = 64:=by kernel_rfl
 have e2 : ((sizeOf (Tryz.prog.elem 168)).run Tryz.prog w) = .ok 1 w:=by kernel_rfl
 rw [run_sliceAt_array_l w 168 ⟨g,8,none⟩ (by kernel_rfl) .i64 (fl : Int) (by omega) (by rw [e1]; omega),e2,e1]
 have h64 : ¬ 64 = fl:=by omega
 simp [slicedAt,Result.andThen,h64,Addr.add_mid]
def tailAt (b o m c : Nat) : Option Addr:=if c = m then some ⟨b,o,none⟩ else some ⟨b,o + m,none⟩
theorem slice_from (b o r c m : Nat) (hm : m ≤ r) (w : World) : (Instr.slice 33 (.slice (some ⟨b,o,none⟩) r c) (some (.int .i64 (m : Int))) none none).run Tryz.prog w = .ok (.slice (tailAt b o m c) (r - m) (c - m)) w:=by
 have e2 : ((sizeOf (Tryz.prog.elem 33)).run Tryz.prog w) = .ok 1 w:=by kernel_rfl
 rw [run_slice_l w 33 (some ⟨b,o,none⟩) r c (by kernel_rfl) .i64 (m : Int) (by omega) (by omega),e2]
 by_cases h : c = m
 ·
  simp [sliced,Result.andThen,tailAt,h]
 ·
  simp [sliced,Result.andThen,tailAt,h,Addr.add_mid]
theorem sliceAt_from (b o r c m : Nat) (hm : m ≤ r) (w : World) : (Instr.sliceAt 33 (.slice (some ⟨b,o,none⟩) r c) (some (.int .i64 (m : Int))) none none).run Tryz.prog w = .ok (.slice (tailAt b o m c) (r - m) (c - m)) w:=by
 rw [run_sliceAt_slice w 33 _ _ _ _ (by kernel_rfl)]
 exact slice_from b o r c m hm w
theorem Src.tail {w : World} {b o r c m g : Nat} {y : Nat → Nat} (h : Src w (some ⟨b,o,none⟩) r y g) (hm : m ≤ r) (hc : r ≤ c) : Src w (tailAt b o m c) (r - m) (fun j => y (m + j)) g:=by
 by_cases h0 : r - m = 0
 ·
  exact .inl h0
 ·
  rcases h with h | ⟨b',o',e,hlt,hne,hcl⟩
  ·
   omega
  ·
   simp only [Option.some.injEq,Addr.mk.injEq] at e
   obtain ⟨rfl,rfl,_⟩:=e
   refine .inr ⟨b,o + m,by unfold tailAt; rw [if_neg (by omega)],hlt,hne,fun j hj => ?_⟩
   rw [Nat.add_assoc]
   exact hcl (m + j) (by omega)
def lenOf : Value → Nat | .slice _ r _ => r | _ => 0
theorem infoB : (Tryz.prog.info? 5).map (·.size) = some 1:=by kernel_rfl
theorem write_calls (g : Nat) (b : Nat → Nat) (L : Nat) (A : Option Addr) (n c : Nat) (y : Nat → Nat) (hy : ∀ j,y j < 256) (hnc : n ≤ c) (hLn : L + n ≤ 4611686018427387904) (hg : g ≠ 0)
  (w : World) (hK : KT w) (hH : HashIs w g b L) (hS : Src w A n y g) :
  Calls Tryz.prog 93 #[.pointer (some ⟨g,0,none⟩),.slice A n c] w fun e w' => e = .returned (.tuple #[]) ∧ HashIs w' g (cat b L y) (L + n) ∧ But g w w':=by
 obtain ⟨T,hT⟩ : ∃ T,T = cat b L y:=⟨_,rfl⟩
 have hH : HashIs w g T L:=hH.congr fun i hi => by rw [hT]; unfold cat; rw [if_pos hi]
 have hTy : ∀ i,T (L + i) = y i:=fun i => by rw [hT]; unfold cat; rw [if_neg (by omega),Nat.add_sub_cancel_left]
 have HT:=veil hT
 have HTy:=veil hTy
 have HY:=veil hy
 have HG:=veil hg
 clear hT hTy hy hg
 go_enter Tryz.func93,Tryz.ntmps93
 go_wp2
 go_loopw [1] (fun v wr => ∃ (A : Option Addr) (k r c : Nat),k + r = n ∧ r ≤ c ∧ v = .slice A r c ∧ Src wr A r (fun j => y (k + j)) g ∧ HashIs wr g T (L + k) ∧ But g w wr ∧ KT wr)
  (fun v _ => lenOf v)
 case atStart => exact ⟨A,0,n,c,by omega,hnc,rfl,hS.congr fun j _ => by rw [Nat.zero_add],hH,But.refl _ _,hK⟩
 case round =>
  obtain ⟨A,k,r,c,hkr,hrc,rfl,hS,hH,hB,hK⟩:=hrel
  by_cases h0 : r = 0
  ·
   subst h0
   go_wp2
   go_end0
   exact ⟨rfl,by rw [← HT.out,show n = k by omega]; exact hH,hB⟩
  ·
   obtain ⟨bb,o,rfl,hlt,hne,hc⟩ : ∃ b o,A = some ⟨b,o,none⟩ ∧ b < wr.heap.size ∧ b ≠ g ∧ ∀ j,j < r → wr.cell? ⟨b,o + j,none⟩ = some (.int .u8 (y (k + j) : Nat)):=hS.resolve_left h0
   obtain ⟨s,blk,hok,hrow⟩:=hH
   obtain ⟨N,hN⟩ : ∃ N,N = L + k:=⟨_,rfl⟩
   rw [← hN] at hok hrow
   obtain ⟨fl,hfl⟩ : ∃ fl,fl = N % 64:=⟨_,rfl⟩
   have hfi : (N : Int) % 64 = (fl : Int):=by omega
   have hf64 : fl < 64:=by omega
   obtain ⟨m,hm⟩ : ∃ m,m = Nat.min r (64 - fl):=⟨_,rfl⟩
   have hm0 : 0 < m:=by rw [hm]; show 0 < min r (64 - fl); omega
   have hmr : m ≤ r:=by rw [hm]; exact Nat.min_le_left _ _
   have hmf : fl + m ≤ 64:=by rw [hm]; show fl + min r (64 - fl) ≤ 64; omega
   have cL:=hrow.length
   have fL:=World.rowIs.frozen hrow 72
   have hr0 : (0 : Int) < (r : Int):=by omega
   have hN0 : N ≤ 4611686018427387904:=by omega
   have hNm : N + m ≤ 4611686018427387904:=by omega
   have HR:=veil hrow
   have HC:=veil hc
   have HM:=veil hm
   have HF:=veil hfl
   have HN:=veil hN
   have HK:=veil hok
   have HB2:=veil hne
   clear hrow hc hm hfl hN hok hne h0
   have q1:=fun W => sliceAt_arr g fl hf64 W
   have q2:=fun W => slice_from bb o r c m hmr W
   have q3:=fun W => sliceAt_from bb o r c m hmr W
   clear cL fL
   have hsrc : ∀ j,j < m → wr.cell? ((⟨bb,o,none⟩ : Addr).add j) = some (.int .u8 (y (k + j) : Nat)):=fun j hj => by
    rw [Addr.add_mid]; exact HC.out j (by omega)
   have HSRC:=veil hsrc
   have cL:=HR.out.length
   clear hsrc
   go_upto_region 3 with ((with_reducible refine zas 20 ?_); refine wpList_copy_row rfl _ _ 33 33 rfl 5 Tryz.underlying33 infoB g (8 + fl) (64 - fl) (64 - fl) ⟨bb,o,none⟩ r c rfl rfl 170 73 _ HR.out m HM.out (fun j => .int .u8 (y (k + j) : Nat)) HSRC.out (by omega) (fun _ _ => rfl) ?_; intro w2 hb2 hr2)
   have hTn : ∀ j,T (N + j) = y (k + j):=fun j => by rw [HN.out,Nat.add_assoc]; exact HTy.out _
   obtain ⟨blk',hblk'⟩ : ∃ blk' : Nat → Nat,blk' = fun j => if N % 64 ≤ j ∧ j < N % 64 + m then T (N + (j - N % 64)) else blk j:=⟨_,rfl⟩
   have hr2 : HRow w2 g s blk' N:=hr2.congr fun j hj => by
    unfold hcells
    rw [hblk',← HF.out]
    dsimp only
    by_cases c1 : 8 + fl ≤ j ∧ j < 8 + fl + m
    ·
     rw [if_pos c1,if_neg (by omega),if_pos (by omega),if_pos (by omega),hTn,show j - 8 - fl = j - (8 + fl) by omega]
    ·
     rw [if_neg c1]
     by_cases c2 : j < 8
     ·
      rw [if_pos c2,if_pos c2]
     ·
      rw [if_neg c2,if_neg c2]
      by_cases c3 : j < 72
      ·
       rw [if_pos c3,if_pos c3,if_neg (by omega)]
      ·
       rw [if_neg c3,if_neg c3]
   have HBLK:=veil hblk'
   have hS2:=hS.but hb2
   have hK2:=hK.grown hb2 HG.out.symm
   have hB2:=But.trans hB hb2
   have cL:=hr2.length
   have fL:=World.rowIs.frozen hr2 72
   clear hb2 hblk' hTn hS hK hB HSRC HR HC
   have hNi : (N : Int) + (m : Int) = ((N + m : Nat) : Int):=by omega
   obtain ⟨N2,hN2⟩ : ∃ N2,N2 = N + m:=⟨_,rfl⟩
   rw [← hN2] at hNi hNm
   have HN2:=veil hN2
   clear hN2
   have hr3 : HRow (w2.setCell ⟨g,72,none⟩ (.int .i64 (N2 : Int))) g s blk' N2:=(World.rowIs.set hr2 72 _).congr fun j hj => by
    unfold hcells
    by_cases h : j = 72
    ·
     subst h; rfl
    ·
     rw [if_neg h]
     by_cases c2 : j < 8
     ·
      rw [if_pos c2,if_pos c2]
     ·
      rw [if_neg c2,if_neg c2,if_pos (by omega),if_pos (by omega)]
   have hbs : But g w2 (w2.setCell ⟨g,72,none⟩ (.int .i64 (N2 : Int))):=But.set (But.refl _ _) _ _
   have hS3:=(hS2.but hbs).tail hmr hrc
   have hK3:=hK2.grown hbs HG.out.symm
   have hB3:=But.trans hB2 hbs
   have hTb : ∀ i,N ≤ i → i < N + m → T i < 256:=fun i h1 h2 => by
    obtain ⟨d,rfl⟩ : ∃ d,i = N + d:=⟨i - N,by omega⟩
    rw [HN.out,Nat.add_assoc,HTy.out]; exact HY.out _
   have HTB:=veil hTb
   have HH3:=veil (And.intro hS3 (And.intro hK3 (And.intro hB3 hr3)))
   clear hTb hS3 hK3 hB3 hr3 hbs hS2 hK2 hB2
   have HSZ:=veil (show lenOf (.slice (tailAt bb o m c) (r - m) (c - m)) < lenOf (.slice (some ⟨bb,o,none⟩) r c) by show r - m < r; omega)
   by_cases hful : fl + m = 64
   ·
    have hq : (fl : Int) + (m : Int) = 64:=by omega
    have hok2:=HK.out.full (m:=m) (by rw [← HF.out]; exact hful) HTB.out
    rw [← HBLK.out,← HN2.out] at hok2
    have HO:=veil hok2
    clear hok2
    go_upto_region 6 with (fail)
    clear cL fL hr2 q1 q2 q3
    generalize w2.setCell ⟨g,72,none⟩ (.int .i64 (N2 : Int)) = w3 at *
    go_wp2_with ((with_reducible refine (mix_calls g s blk' N2 (HK.out.s ▸ zkb _ _) HO.out.lt _ HH3.out.2.1 HH3.out.2.2.2).mono ?_); rintro e w4 ⟨rfl,hr4,hb4⟩)
    go_roundw
    case rel =>
     refine ⟨_,k + m,r - m,c - m,by omega,by omega,rfl,((HH3.out.1).but hb4).congr fun j _ => by rw [Nat.add_assoc],⟨blockN (fun t => word blk' (4 * t)) s,blk',?_,?_⟩,But.trans HH3.out.2.2.1 hb4,HH3.out.2.1.grown hb4 HG.out.symm⟩
     ·
      rw [← Nat.add_assoc,← HN.out,← HN2.out]; exact HO.out
     ·
      rw [← Nat.add_assoc,← HN.out,← HN2.out]; exact hr4
    case measure => exact HSZ.out
   ·
    have hq : ¬ ((fl : Int) + (m : Int) = 64):=by omega
    have hok2:=HK.out.part (m:=m) (by rw [← HF.out]; omega) HTB.out
    rw [← HBLK.out,← HN2.out] at hok2
    have HO:=veil hok2
    clear hok2
    go_wp2
    go_roundw
    case rel =>
     refine ⟨_,k + m,r - m,c - m,by omega,by omega,rfl,(HH3.out.1).congr fun j _ => by rw [Nat.add_assoc],⟨s,blk',?_,?_⟩,HH3.out.2.2.1,HH3.out.2.1⟩
     ·
      rw [← Nat.add_assoc,← HN.out,← HN2.out]; exact HO.out
     ·
      rw [← Nat.add_assoc,← HN.out,← HN2.out]; exact HH3.out.2.2.2
    case measure => exact HSZ.out
end Go.Proofs.YthlbemnbmbmjhaaGreatDoor
