/-
  Of Of Cq Aut Au1 AutB Au2 AutC.
-/
import Derived.Test.YtihophdbkjhopaaDoorRows
import Derived.WalkKit
import Derived.WalkSpells
import Derived.WalkLawsBesides
import Derived.Deep.LoopGhost
import Derived.Deep.RegionWith
import Derived.Deep.QuietTactic
import Derived.BigQuiet
import Derived.BigRegion
import Derived.Scope
import Derived.Test.YtihophdbkjhopaaDoorZL1
import Derived.Test.YtihophdbkjhopaaDoorZL2
set_option maxRecDepth 1000000
set_option maxHeartbeats 20000000
namespace Go.Proofs.YtihophdbkjhopaaDoor
open Go.RowKit
open Go.Value renaming int → vI
open Go.IntKind renaming u64 → vU
open Go.Act renaming put → aP
open List renaming setIfInBounds_toArray → lA, set_cons_zero → lZ, set_cons_succ → lS
def lev (z : Nat → Nat) : Nat → Nat
 | 0 => 0
 | i + 1 => lev z i + z i * 256 ^ i
theorem lev_lt {z : Nat → Nat} (hz : ∀ j,z j < 256) : ∀ i,lev z i < 256 ^ i
 | 0 => by simp [lev]
 | i + 1 => by
  have h:=lev_lt hz i
  have h2 : z i * 256 ^ i ≤ 255 * 256 ^ i:=Nat.mul_le_mul_right _ (by have:=hz i; omega)
  show lev z i + z i * 256 ^ i < _
  rw [Nat.pow_succ]
  omega
theorem dg_put (m q r L c : Nat) (hr : r < m) (hL : L < 256 ^ (m * q + r)) (hc : c < 256) (j : Nat) :
  dg (256 ^ m) (L + c * 256 ^ (m * q + r)) j = if j = q then dg (256 ^ m) L j + c * 256 ^ r else dg (256 ^ m) L j:=by
 have hB : 0 < 256 ^ m:=Nat.pow_pos (by omega)
 have hp : ∀ k,0 < (256 ^ m) ^ k:=fun k => Nat.pow_pos hB
 have e : 256 ^ (m * q + r) = (256 ^ m) ^ q * 256 ^ r:=by rw [Nat.pow_add,Nat.pow_mul]
 have hrm : 256 ^ r * 256 ≤ 256 ^ m:=by rw [← Nat.pow_succ]; exact Nat.pow_le_pow_right (by omega) hr
 rw [e] at hL ⊢
 have hLq : L / (256 ^ m) ^ q < 256 ^ r:=by rw [Nat.div_lt_iff_lt_mul (hp q),Nat.mul_comm]; exact hL
 have hcr : c * 256 ^ r ≤ 255 * 256 ^ r:=Nat.mul_le_mul_right _ (by omega)
 rw [show c * ((256 ^ m) ^ q * 256 ^ r) = (256 ^ m) ^ q * (c * 256 ^ r) by rw [Nat.mul_left_comm]]
 by_cases hj : j = q
 ·
  subst hj
  rw [if_pos rfl]
  unfold dg
  rw [Nat.add_mul_div_left _ _ (hp j),Nat.mod_eq_of_lt (by omega),Nat.mod_eq_of_lt (by omega)]
 ·
  rw [if_neg hj]
  by_cases hlt : j < q
  ·
   rw [← zcn _ q j hlt,Nat.add_mul_mod_self_left,zcn _ q j hlt]
  ·
   have hjq : q + 1 ≤ j:=by omega
   have hle : (256 ^ m) ^ (q + 1) ≤ (256 ^ m) ^ j:=Nat.pow_le_pow_right hB hjq
   rw [Nat.pow_succ] at hle
   have h1 : (256 ^ m) ^ q * (256 ^ r + c * 256 ^ r) ≤ (256 ^ m) ^ q * 256 ^ m:=Nat.mul_le_mul_left _ (by omega)
   rw [Nat.mul_add] at h1
   unfold dg
   rw [Nat.div_eq_of_lt (show L < _ by omega),Nat.div_eq_of_lt (show L + (256 ^ m) ^ q * (c * 256 ^ r) < _ by omega)]
theorem w64_bytes : w64 = 256 ^ 8:=by decide
theorem two_256 (r : Nat) : 2 ^ (r * 8) = 256 ^ r:=by rw [Nat.mul_comm,Nat.pow_mul]
theorem wd_put (L c k j : Nat) (hL : L < 256 ^ k) (hc : c < 256) : wd (L + c * 256 ^ k) j = if j = k / 8 then wd L j + (c * 256 ^ (k % 8) : Nat) else wd L j:=by
 have h:=dg_put 8 (k / 8) (k % 8) L c (Nat.mod_lt _ (by omega)) (by rw [Nat.div_add_mod]; exact hL) hc j
 rw [Nat.div_add_mod,← w64_bytes] at h
 unfold wd
 rw [h]
 split
 ·
  rw [Int.natCast_add]
 ·
  rfl
theorem of_word (L c k : Nat) (hL : L < 256 ^ k) (hc : c < 256) : bits .or .u64 (wd L (k / 8)) (IntKind.u64.wrap ((c : Int) * 2 ^ (k % 8 * 8))) = wd (L + c * 256 ^ k) (k / 8):=by
 have hr : k % 8 < 8:=Nat.mod_lt _ (by omega)
 have hp : 256 ^ (k % 8) ≤ 256 ^ 7:=Nat.pow_le_pow_right (by omega) (by omega)
 have h7 : (256 : Nat) ^ 7 = 72057594037927936:=by decide
 have hcr : c * 256 ^ (k % 8) ≤ 255 * 256 ^ (k % 8):=Nat.mul_le_mul_right _ (by omega)
 have hq : dg w64 L (k / 8) < 256 ^ (k % 8):=by
  have e : 256 ^ k = w64 ^ (k / 8) * 256 ^ (k % 8):=by
   rw [w64_bytes,← Nat.pow_mul,← Nat.pow_add,Nat.div_add_mod]
  unfold dg
  refine Nat.lt_of_le_of_lt (Nat.mod_le _ _) ?_
  rw [Nat.div_lt_iff_lt_mul (Nat.pow_pos zam),Nat.mul_comm,← e]
  exact hL
 have ec : (c : Int) * 2 ^ (k % 8 * 8) = ((c * 256 ^ (k % 8) : Nat) : Int):=by
  rw [← two_256,Int.natCast_mul,Int.natCast_pow]
  rfl
 rw [wd_put L c k _ hL hc,if_pos rfl,ec,IntKind.wrap_u64]
 unfold wd
 rw [show ((c * 256 ^ (k % 8) : Nat) : Int) % 18446744073709551616 = ((c * 256 ^ (k % 8) : Nat) : Int) by omega]
 rw [u64_or_nat _ _ (by omega) (by omega),Nat.or_comm,nat_join (8 * (k % 8)) _ _ (by rw [Nat.mul_comm 8,two_256]; exact Nat.mul_mod_left _ _) (by rw [Nat.mul_comm 8,two_256]; exact hq)]
 omega
theorem of_step (z : Nat → Nat) (k : Nat) (hz : ∀ j,z j < 256) (i : Nat) :
  (if i = k / 8 then Value.int .u64 (wd (lev z k + z k * 256 ^ k) (k / 8)) else Value.int .u64 (wd (lev z k) i)) = Value.int .u64 (wd (lev z (k + 1)) i):=by
 show _ = Value.int .u64 (wd (lev z k + z k * 256 ^ k) i)
 by_cases h : i = k / 8
 ·
  rw [if_pos h,h]
 ·
  rw [if_neg h,wd_put _ _ _ _ (lev_lt hz k) (hz k),if_neg h]
theorem wd_zero (i : Nat) : wd 0 i = 0:=by unfold wd dg; simp
theorem of_some (b o n c : Nat) (y : Nat → Nat) (hy : ∀ j,y j < 256) (hn : n ≤ 32) (w : World) (hb : b < w.heap.size) (hcell : ∀ j,j < n → w.cell? ⟨b,o + j,none⟩ = some (.int .u8 (y j))) :
  Calls Tryd.prog 26 #[.slice (some ⟨b,o,none⟩) n c] w fun e w' => e = .returned (.tuple #[.agg #[vI vU (wd (lev (fun k => y (n - 1 - k)) n) 0),vI vU (wd (lev (fun k => y (n - 1 - k)) n) 1),vI vU (wd (lev (fun k => y (n - 1 - k)) n) 2),vI vU (wd (lev (fun k => y (n - 1 - k)) n) 3)],.nilIface]) ∧ Below w.heap.size w w':=by
 have HY:=veil hy
 have HC:=veil hcell
 clear hy hcell
 have hn' : (n : Int) ≤ 32:=by omega
 go_enter Tryd.func26,Tryd.ntmps26
 go_wp2
 go_loopw [13] (fun i wr => ∃ k : Nat,k ≤ n ∧ i = .int .i64 k ∧ wr.rowIs w.heap.size 25 4 (fun _ => .int .u64 0) ∧ wr.rowIs (w.heap.size + 1) 25 4 (fun j => .int .u64 (wd (lev (fun k => y (n - 1 - k)) k) j)) ∧ Below w.heap.size w wr)
  (fun i _ => n - (intOf i).toNat)
 case atStart => exact ⟨0,by omega,rfl,(zad (n:=4) rfl rfl (arr4 fun _ => .int .u64 0)).alloc _,(zad (n:=4) (f:=fun _ => .int .u64 0) (by simp) rfl (arr4 fun _ => .int .u64 0)).congr (fun i _ => by rw [lev,wd_zero]),((Below.refl _ _).alloc (by simp) _).alloc (by simp) _⟩
 case round =>
  obtain ⟨k,hk,rfl,hR,hS,hbel⟩:=hrel
  by_cases hlt : k < n
  ·
   have hk8 : k / 8 < 4:=by omega
   have c1:=hS.cell hk8
   have f1:=hS.frozen (k / 8)
   obtain ⟨j,hj⟩ : ∃ j,j = n - 1 - k:=⟨_,rfl⟩
   have hji : (n : Int) - 1 - (k : Int) = (j : Int):=by omega
   have hjn : (j : Int) < (n : Int):=by omega
   have hkn : (k : Int) < (n : Int):=by omega
   have c2:=(hbel.cell (p:=⟨b,o + j,none⟩) hb).trans (HC.out j (by omega))
   have l1:=wd_lo (lev (fun k => y (n - 1 - k)) k) (k / 8)
   have u1:=wd_le (lev (fun k => y (n - 1 - k)) k) (k / 8)
   have u2 : (y j : Int) ≤ 255:=by have:=HY.out j; omega
   have hst:=of_step (fun k => y (n - 1 - k)) k (fun j => HY.out _)
   have HS:=veil hst
   clear hst
   have HJ:=veil hj
   clear hj
   go_wp2
   go_region
   all_goals
    go_wp2
    go_roundw
    case rel =>
     rw [show y j = y (n - 1 - k) by rw [HJ.out],of_word _ _ _ (lev_lt (fun j => HY.out _) k) (HY.out _)]
     exact ⟨k + 1,by omega,by go_num,(zan hR (by omega) _).drew,((hS.set (k / 8) _).congr fun i _ => HS.out i).drew,(zab hbel (by omega) _).drew⟩
    case measure => simp [intOf]; omega
  ·
   obtain rfl : k = n:=by omega
   obtain ⟨c0,c1,c2,c3⟩:=zaf hS
   obtain ⟨d0,d1,d2,d3⟩:=zaf hR
   obtain ⟨f0,f1,f2,f3⟩:=zaw hR
   go_wp2
   refine bodyPost_ret (zbv rfl _ _ w.heap.size 25 #[vI vU (wd (lev (fun j => y (k - 1 - j)) k) 0),vI vU (wd (lev (fun j => y (k - 1 - j)) k) 1),vI vU (wd (lev (fun j => y (k - 1 - j)) k) 2),vI vU (wd (lev (fun j => y (k - 1 - j)) k) 3)] (0,0) 4 23 rfl (blk4 (put4 hR fun j => .int .u64 (wd (lev (fun j => y (k - 1 - j)) k) j))) Tryd.underlying25 (by kernel_rfl)) rfl ⟨rfl,zap hbel (Nat.le_refl _) _ _ _ _⟩
def qc (x y : Nat) (f : Bool) : Array Value:=#[vI vU (wd x 0),vI vU (wd x 1),vI vU (wd x 2),vI vU (wd x 3),vI vU (wd y 0),vI vU (wd y 1),vI vU (wd y 2),vI vU (wd y 3),.bool (f)]
def qv (x y : Nat) (f : Bool) : Value:=.agg (qc x y f)
theorem iT (x y : Nat) (f : Bool) : (Tryd.prog.info? 27).map (·.size) = some (qc x y f).size:=by kernel_rfl
section
variable (g : Nat) (W : World)
end
inductive SV where
 | v (x : Value)
 | p (i o : Nat)
def SV.den (e : Nat → Nat) : SV → Value
 | .v x => x
 | .p i o => .pointer (some ⟨e i,o,none⟩)
def SV.below (k : Nat) : SV → Bool
 | .v _ => true
 | .p i _ => Nat.blt i k
theorem den_env {e e' : Nat → Nat} {k : Nat} (h : ∀ i,i < k → e' i = e i) : ∀ {s : SV},s.below k = true → s.den e' = s.den e
 | .v _,_ => rfl
 | .p i o,hs => by
  have : i < k:=by simpa [SV.below] using hs
  show Value.pointer (some ⟨e' i,o,none⟩) = _
  rw [h i this]
  rfl
structure Blk where
 ty : TypeId
 cs : List SV
def Blk.obj (e : Nat → Nat) (b : Blk) : Obj:=.cells (b.cs.map (SV.den e)).toArray b.ty (0,0)
inductive Orc (P : Program) (w0 : World) where
 | call (f : FuncId) (args : Array Value) (v : Value) (ok : ∀ W,Ext w0 W → Calls P f args W fun e W' => e = .returned v ∧ Ext W W')
 | bin (op : BinOp) (ty : TypeId) (x y r : Value) (g : ∀ X Y W,(eqGuard op ty X Y x y).run P W = .ok () W) (ok : ∀ W,(binOp op ty x y).run P W = .ok r W)
abbrev Fun2:=(Nat → Nat) → World → Result Next
structure Sst (P : Program) (w0 : World) where
 n : Nat
 t : List (Nat × SV)
 m : List Blk
 x : Nat
 q : List (Orc P w0)
 g : List (Fun2 × Fun2)
def lookS : List (Nat × SV) → Nat → SV
 | [],_ => .v undef
 | (j,s) :: r,i => bif Nat.beq i j then s else lookS r i
def valOf : Result Next → Value
 | .ok (.value v) _ => v
 | _ => undef
def offOf : Result Next → Nat
 | .ok (.value (.pointer (some a))) _ => a.off
 | _ => 0
section
variable {P : Program} {w0 : World}
def evX (s : Sst P w0) : Operand → SV
 | .tmp i => lookS s.t i
 | .const v => .v v
 | .global g => .v (.pointer (some ⟨g,0,none⟩))
 | .func f => .v (.func (.func f) #[] #[])
def evR (s : Sst P w0) (o : Oper) : Fun2:=fun e W => (execOp (fun x => (evX s x).den e) o).run P W
def Sst.put (s : Sst P w0) (d : Option Tmp) (x : SV) : Option (Sst P w0) :=
 match d with
 | none => some s
 | some i => bif Nat.blt i s.n then some { s with t:=(i,x) :: s.t } else none
def Sst.log (s : Sst P w0) (l r : Fun2) : Sst P w0:={ s with g:=(l,r) :: s.g }
def toVals : List SV → Option (List Value)
 | [] => some []
 | .v x :: r => (toVals r).map (x :: ·)
 | .p _ _ :: _ => none
def isRowT : TypeDesc → Bool
 | .struct _ | .array _ _ => true
 | _ => false
/-! ### what it says -/
theorem zfe {e : Nat → Nat} : ∀ {l : List SV} {vs : List Value},toVals l = some vs → l.map (SV.den e) = vs
 | [],vs,h => by
  obtain rfl : [] = vs:=by simpa [toVals] using h
  rfl
 | .v x :: r,vs,h => by
  unfold toVals at h
  cases hr : toVals r with
  | none => rw [hr] at h; cases h
  | some ws =>
   rw [hr] at h
   obtain rfl : x :: ws = vs:=by simpa using h
   rw [List.map_cons,zfe hr]
   rfl
 | .p _ _ :: _,_,h => by cases h
theorem agg_no {P : Program} {ty : TypeId} {d : TypeDesc} (hu : P.underlying ty = some d) (h : isRowT d = false) (W : World) : (isAgg ty).run P W = .ok false W:=by
 unfold isAgg
 rw [Sem.run_bind,run_underlying hu W]
 cases d <;> simp_all [isRowT]
end
inductive OT (P : Program) (w0 : World) (Post : Value → World → Prop) : (World → Prop) → Type 1 where
 | ret {J : World → Prop} (v : Value) (h : ∀ W,J W → Post v W) : OT P w0 Post J
 | call {J : World → Prop} (f : FuncId) (args : Array Value) (v : Value) (ok : ∀ W,J W → Calls P f args W fun e W' => e = .returned v ∧ Ext W W') (r : OT P w0 Post J) : OT P w0 Post J
 | ins {J : World → Prop} (d : Tmp) (key : Sem Value) (v : Value) (ok : ∀ W,J W → key.run P W = .ok v W) (r : OT P w0 Post J) : OT P w0 Post J
 | hang {J : World → Prop} (f : FuncId) (args : Array Value) {α : Type} (val : α → Value) (R : α → World → Prop) (V : α → Nat → Prop)
   (ext : ∀ x W W',R x W → Ext W W' → R x W') (off : ∀ x W g o vs,R x W → ¬ V x g → R x (W.setCells g o vs))
   (ok : ∀ W,J W → Calls P f args W fun e W' => ∃ x,e = .returned (val x) ∧ Ext W W' ∧ R x W' ∧ ∀ g,V x g → (W.heap.size ≤ g ∨ g < w0.heap.size) ∧ g < W'.heap.size)
   (r : ∀ x,OT P w0 Post (fun W => J W ∧ R x W)) : OT P w0 Post J
 | cases {J : World → Prop} (p : Prop) (y : p → OT P w0 Post J) (n : ¬ p → OT P w0 Post J) : OT P w0 Post J
 | get {J : World → Prop} {α : Type} (p : α → Prop) (h : ∃ x,p x) (r : ∀ x,p x → OT P w0 Post J) : OT P w0 Post J
 | loop {J : World → Prop} (T : (Nat → Nat) → List (Nat × SV)) (M : (Nat → Nat) → List Blk) (μ : (Nat → Nat) → Nat) (H : (Nat → Nat) → Prop) (i : Nat → Nat) (h : H i) (body : ∀ i,H i → OT P w0 Post J) : OT P w0 Post J
 | loopG {J : World → Prop} {α : Type} (T : α → List (Nat × SV)) (M : α → List Blk) (μ : α → Nat) (H : α → Prop) (i : α) (h : H i) (t : List (Nat × SV)) (m : List Blk) (ht : T i = t ∧ M i = m) (body : ∀ i,H i → OT P w0 Post J) : OT P w0 Post J
 | nextG {J : World → Prop} (t : List (Nat × SV)) (m : List Blk) (c : Prop) (h : c) : OT P w0 Post J
 | unroll {J : World → Prop} (n : Nat) (r : OT P w0 Post J) : OT P w0 Post J
 | next {J : World → Prop} (i : Nat → Nat) (c : Prop) (h : c) : OT P w0 Post J
structure Sta (P : Program) (w0 : World) (Post : Value → World → Prop) (J : World → Prop) where
 n : Nat
 t : List (Nat × SV)
 z : Nat → Value
 m : List Blk
 x : Nat
 q : OT P w0 Post J
inductive Rsl where
 | bad
 | done
 | eq (l r : Fun2) (n : Rsl)
 | both (a b : Rsl)
 | peq (a b : Prop) (n : Rsl)
 | weq (a b : World → Prop) (n : Rsl)
 | br {α : Type} (n : α → Rsl)
inductive Lft where
 | bad
 | done
 | cons (l : Fun2) (n : Lft)
 | both (a b : Lft)
 | pc (a : Prop) (n : Lft)
 | wc (a : World → Prop) (n : Lft)
 | br {α : Type} (n : α → Lft)
def Rsl.left : Rsl → Lft
 | .bad => .bad
 | .done => .done
 | .eq l _ n => .cons l n.left
 | .both a b => .both a.left b.left
 | .peq a _ n => .pc a n.left
 | .weq a _ n => .wc a n.left
 | .br n => .br fun x => (n x).left
def Rsl.right : Rsl → Lft
 | .bad => .done
 | .done => .done
 | .eq _ r n => .cons r n.right
 | .both a b => .both a.right b.right
 | .peq _ b n => .pc b n.right
 | .weq _ b n => .wc b n.right
 | .br n => .br fun x => (n x).right
def OkR : Rsl → Prop
 | .bad => False
 | .done => True
 | .eq l r n => l = r ∧ OkR n
 | .both a b => OkR a ∧ OkR b
 | .peq a b n => a = b ∧ OkR n
 | .weq a b n => a = b ∧ OkR n
 | .br n => ∀ x,OkR (n x)
theorem zfj : ∀ {r : Rsl},r.left = r.right → OkR r
 | .bad,h => by cases h
 | .done,_ => trivial
 | .eq l r n,h => by
  have h : Lft.cons l n.left = Lft.cons r n.right:=h
  injection h with h1 h2
  exact ⟨h1,zfj h2⟩
 | .both a b,h => by
  have h : Lft.both a.left b.left = Lft.both a.right b.right:=h
  injection h with h1 h2
  exact ⟨zfj h1,zfj h2⟩
 | .peq a b n,h => by
  have h : Lft.pc a n.left = Lft.pc b n.right:=h
  injection h with h1 h2
  exact ⟨h1,zfj h2⟩
 | .weq a b n,h => by
  have h : Lft.wc a n.left = Lft.wc b n.right:=h
  injection h with h1 h2
  exact ⟨h1,zfj h2⟩
 | .br n,h => by
  have h : Lft.br (fun x => (n x).left) = Lft.br fun x => (n x).right:=h
  injection h with _ h2
  exact fun x => zfj (congrFun h2 x)
def lookZ (z : Nat → Value) : List (Nat × SV) → Nat → SV
 | [],i => .v (z i)
 | (j,s) :: r,i => bif Nat.beq i j then s else lookZ z r i
theorem zdv {z : Nat → Value} {l : List (Nat × SV)} {j i : Nat} {x : SV} : lookZ z ((j,x) :: l) i = if i = j then x else lookZ z l i:=by
 show (bif Nat.beq i j then x else lookZ z l i) = _
 by_cases h : i = j
 ·
  subst h; simp
 ·
  have : Nat.beq i j = false:=by
   cases hb : Nat.beq i j with
   | false => rfl
   | true => exact absurd (Nat.eq_of_beq_eq_true hb) h
  rw [this,if_neg h]
  rfl
section
variable {P : Program} {w0 : World} {Post : Value → World → Prop} {J : World → Prop}
def stX (s : Sta P w0 Post J) : Operand → SV
 | .tmp i => lookZ s.z s.t i
 | .const v => .v v
 | .global g => .v (.pointer (some ⟨g,0,none⟩))
 | .func f => .v (.func (.func f) #[] #[])
def stR (s : Sta P w0 Post J) (o : Oper) : Fun2:=fun e W => (execOp (fun x => (stX s x).den e) o).run P W
def Sta.put (s : Sta P w0 Post J) (d : Option Tmp) (x : SV) (k : Sta P w0 Post J → Rsl) : Rsl :=
 match d with
 | none => k s
 | some i => bif Nat.blt i s.n then k { s with t:=(i,x) :: s.t } else .bad
def stWant (s : Sta P w0 Post J) (ops : List Oper) (o : Oper) : Option Bool :=
 match o.guard with
 | none => some true
 | some (k,b) =>
  match ops[k]? with
  | none => none
  | some o' => match o'.dst with
   | none => none
   | some d => match lookZ s.z s.t d with
    | .v (.bool c) => some (c == b)
    | _ => none
def stPure (s : Sta P w0 Post J) (o : Oper) (k : Sta P w0 Post J → Rsl) : Rsl :=
 .eq (stR s o) (fun _ W => .ok (.value (valOf (stR s o (fun _ => 0) w0))) W) (s.put o.dst (.v (valOf (stR s o (fun _ => 0) w0))) k)
def stPtr (s : Sta P w0 Post J) (o : Oper) (i : Nat) (k : Sta P w0 Post J → Rsl) : Rsl :=
 .eq (stR s o) (fun e W => .ok (.value ((SV.p i (offOf (stR s o (fun _ => 0) w0))).den e)) W) (s.put o.dst (.p i (offOf (stR s o (fun _ => 0) w0))) k)
def stLoad (s : Sta P w0 Post J) (o : Oper) (ty : TypeId) (i off : Nat) (k : Sta P w0 Post J → Rsl) : Rsl :=
 match s.m[i]?,P.underlying ty with
 | some b,some d =>
  bif isRowT d then
   match P.info? ty with
   | some inf => match toVals ((b.cs.drop off).take inf.size) with
    | some vs => bif Nat.beq vs.length inf.size then s.put o.dst (.v (.agg vs.toArray)) k else .bad
    | none => .bad
   | none => .bad
  else match b.cs[off]? with
   | some c => s.put o.dst c k
   | none => .bad
 | _,_ => .bad
def stIns (s : Sta P w0 Post J) (o : Oper) (k : Sta P w0 Post J → Rsl) (dflt : Rsl) : Rsl :=
 match s.q,o.dst with
 | .ins d key v _ r,some d' => bif Nat.beq d d' then
   .eq (stR s o) (fun _ W => (do pure (Next.value (← key)) : Sem Next).run P W) ({ s with q:=r }.put o.dst (.v v) k)
  else dflt
 | _,_ => dflt
def stCall (s : Sta P w0 Post J) (o : Oper) (k : Sta P w0 Post J → Rsl) : Rsl :=
 match s.q with
 | .call f args v _ r => .eq (stR s o) (fun _ W => .ok (.enter f args) W) ({ s with q:=r }.put o.dst (.v v) k)
 | _ => .bad
def stVal0 (s : Sta P w0 Post J) (o : Oper) (k : Sta P w0 Post J → Rsl) : Rsl :=
 match o.op with
 | .move x => s.put o.dst (stX s x) k
 | .assign x => s.put o.dst (stX s x) k
 | .pick c a b => match stX s c with
  | .v (.bool true) => s.put o.dst (stX s a) k
  | .v (.bool false) => s.put o.dst (stX s b) k
  | _ => .bad
 | .load ty x => match stX s x with
  | .p i off => stLoad s o ty i off k
  | .v _ => .bad
 | .fieldAddr _ x _ => match stX s x with
  | .p i _ => stPtr s o i k
  | .v _ => stPure s o k
 | .indexAddr _ x _ => match stX s x with
  | .p i _ => stPtr s o i k
  | .v _ => stPure s o k
 | .call c => match c.callee with
  | .builtin _ => stPure s o k
  | _ => stCall s o k
 | _ => stPure s o k
def stVal (s : Sta P w0 Post J) (o : Oper) (k : Sta P w0 Post J → Rsl) : Rsl:=stIns s o k (stVal0 s o k)
def stVals (ops : List Oper) : List Oper → Sta P w0 Post J → (Sta P w0 Post J → Rsl) → Rsl
 | [],s,k => k s
 | o :: l,s,k => match stWant s ops o with
  | some true => stVal s o fun s1 => stVals ops l s1 k
  | some false => s.put o.dst (.v undef) fun s1 => stVals ops l s1 k
  | none => .bad
structure Rl (s : Sta P w0 Post J) (a : Act) (e : Nat → Nat) (w : World) : Prop where
 size : a.tmps.size = s.n
 defers : a.defers = []
 slot : ∀ i,a.tmps.getD i undef = (lookZ s.z s.t i).den e
 blk : ∀ (i : Nat) b,s.m[i]? = some b → w.heap[e i]? = some (b.obj e)
 own : ∀ i,s.x ≤ i → i < s.m.length → w0.heap.size ≤ e i
 far : ∀ i j,s.x ≤ i → i < s.m.length → j < s.m.length → i ≠ j → e i ≠ e j
 ext : Ext w0 w
 jj : J w
 jx : ∀ W W',J W → Ext W W' → J W'
 jo : ∀ i,s.x ≤ i → i < s.m.length → ∀ W o vs,J W → J (W.setCells (e i) o vs)
 jf : ∀ g,w.heap.size ≤ g → ∀ W o vs,J W → J (W.setCells g o vs)
variable {s s' : Sta P w0 Post J} {a : Act} {e : Nat → Nat} {w w' : World} {o : Oper} {k : Sta P w0 Post J → Rsl}
theorem Rl.eval (h : Rl s a e w) : a.eval = fun x => (stX s x).den e:=by
 funext x
 cases x with
 | tmp i => exact h.slot i
 | const v => rfl
 | global g => rfl
 | func f => rfl
theorem Rl.exec (h : Rl s a e w) (o : Oper) (W : World) : (execOp a.eval o).run P W = stR s o e W:=by
 unfold stR
 rw [h.eval]
theorem Rl.more (h : Rl s a e w) (k : Ext w w') : Rl s a e w' :=
 ⟨h.size,h.defers,h.slot,fun i b hb => k.block (h.blk i b hb),h.own,h.far,h.ext.trans k,h.jx _ _ h.jj k,h.jx,h.jo,fun g hg => h.jf g (Nat.le_trans (Below.size k) hg)⟩
theorem Rl.q (h : Rl s a e w) (q : OT P w0 Post J) : Rl { s with q:=q } a e w :=
 ⟨h.size,h.defers,h.slot,h.blk,h.own,h.far,h.ext,h.jj,h.jx,h.jo,h.jf⟩
theorem Rl.put (h : Rl s a e w) {d : Option Tmp} {x : SV} {v : Value} (hk : OkR (s.put d x k)) (hv : x.den e = v) : ∃ s',OkR (k s') ∧ Rl s' (a.put d v) e w ∧ s'.m = s.m ∧ s'.x = s.x:=by
 subst hv
 cases d with
 | none => exact ⟨s,hk,h,rfl,rfl⟩
 | some i =>
  unfold Sta.put at hk
  simp only at hk
  cases hb : Nat.blt i s.n with
  | false => rw [hb] at hk; exact hk.elim
  | true =>
   rw [hb] at hk
   have hi : i < a.tmps.size:=by rw [h.size]; simpa using hb
   refine ⟨_,hk,⟨?_,h.defers,fun j => ?_,h.blk,h.own,h.far,h.ext,h.jj,h.jx,h.jo,h.jf⟩,rfl,rfl⟩
   ·
    show (a.tmps.setIfInBounds i _).size = _
    simpa using h.size
   ·
    show (a.tmps.setIfInBounds i _).getD j undef = (lookZ s.z ((i,x) :: s.t) j).den e
    rw [zdv]
    by_cases hj : j = i
    ·
     subst hj
     rw [if_pos rfl]
     simp [hi]
    ·
     rw [if_neg hj,← h.slot j]
     simp [Ne.symm hj]
theorem stval_sound (hk : OkR (stVal s o k)) (hR : Rl s a e w) : ∃ v s',Made P o v a w ∧ Rl s' (a.put o.dst v) e w ∧ OkR (k s'):=by
 have pure_ : OkR (stPure s o k) → ∃ v s',Made P o v a w ∧ Rl s' (a.put o.dst v) e w ∧ OkR (k s'):=fun ⟨h1,h2⟩ => by
  obtain ⟨s',h3,h4,_⟩:=hR.put h2 rfl
  exact ⟨_,s',zba fun W _ => by rw [hR.exec]; exact congrFun (congrFun h1 e) W,h4,h3⟩
 have ptr_ : ∀ {i : Nat},OkR (stPtr s o i k) → ∃ v s',Made P o v a w ∧ Rl s' (a.put o.dst v) e w ∧ OkR (k s'):=fun {i} ⟨h1,h2⟩ => by
  obtain ⟨s',h3,h4,_⟩:=hR.put h2 rfl
  exact ⟨_,s',zba fun W _ => by rw [hR.exec]; exact congrFun (congrFun h1 e) W,h4,h3⟩
 have slot_ : ∀ {x : Operand},OkR (s.put o.dst (stX s x) k) → (∀ W,(execOp a.eval o).run P W = .ok (.value (a.eval x)) W) → ∃ v s',Made P o v a w ∧ Rl s' (a.put o.dst v) e w ∧ OkR (k s'):=fun {x} h hx => by
  obtain ⟨s',h3,h4,_⟩:=hR.put h rfl
  refine ⟨_,s',zba fun W _ => ?_,h4,h3⟩
  rw [hx W,hR.eval]
 have old : OkR (stVal0 s o k) → ∃ v s',Made P o v a w ∧ Rl s' (a.put o.dst v) e w ∧ OkR (k s'):=fun hk => by
  unfold stVal0 at hk
  split at hk
  ·
   rename_i x ho
   exact slot_ hk fun W => by unfold execOp; simp only [ho,Sem.run_pure]
  ·
   rename_i x ho
   exact slot_ hk fun W => by unfold execOp; simp only [ho,Sem.run_pure]
  ·
   rename_i c x y ho
   split at hk
   ·
    rename_i hc
    have hc' : a.eval c = .bool true:=by rw [hR.eval]; show (stX s c).den e = _; rw [hc]; rfl
    exact slot_ hk fun W => by unfold execOp; simp [ho,hc',asBool]
   ·
    rename_i hc
    have hc' : a.eval c = .bool false:=by rw [hR.eval]; show (stX s c).den e = _; rw [hc]; rfl
    exact slot_ hk fun W => by unfold execOp; simp [ho,hc',asBool]
   ·
    exact hk.elim
  ·
   rename_i ty x ho
   split at hk
   ·
    rename_i i off hx
    have hxa : a.eval x = .pointer (some ⟨e i,off,none⟩):=by rw [hR.eval]; show (stX s x).den e = _; rw [hx]; rfl
    unfold stLoad at hk
    split at hk
    ·
     rename_i b d hb hu
     cases hd : isRowT d with
     | true =>
      rw [hd] at hk
      simp only [cond_true] at hk
      split at hk
      ·
       rename_i inf hi
       split at hk
       ·
        rename_i vs hvs
        cases hl : Nat.beq vs.length inf.size with
        | false => rw [hl] at hk; exact hk.elim
        | true =>
         rw [hl] at hk
         have hlen:=Nat.eq_of_beq_eq_true hl
         obtain ⟨s',h3,h4,_⟩:=hR.put hk rfl
         refine ⟨.agg vs.toArray,s',?_,h4,h3⟩
         refine made_load (g:=e i) (off:=off) (C:=(b.cs.map (SV.den e)).toArray) (t:=b.ty) (fr:=(0,0)) ho hxa (hR.blk i b hb) ?_ hu ?_ (by rw [hi]; simp [hlen])
         ·
          rw [hlen]
          have:=zfe (e:=e) hvs
          rw [← this,List.map_take,List.map_drop]
         ·
          cases d <;> simp_all [isRowT]
       ·
        exact hk.elim
      ·
       exact hk.elim
     | false =>
      rw [hd] at hk
      simp only [cond_false] at hk
      split at hk
      ·
       rename_i c hc
       obtain ⟨s',h3,h4,_⟩:=hR.put hk rfl
       exact ⟨c.den e,s',made_load1 (g:=e i) (off:=off) (C:=(b.cs.map (SV.den e)).toArray) (t:=b.ty) (fr:=(0,0)) ho hxa (hR.blk i b hb) (by simp [hc]) (fun W => agg_no hu hd W),h4,h3⟩
      ·
       exact hk.elim
    ·
     exact hk.elim
   ·
    exact hk.elim
  ·
   split at hk
   ·
    exact ptr_ hk
   ·
    exact pure_ hk
  ·
   split at hk
   ·
    exact ptr_ hk
   ·
    exact pure_ hk
  ·
   split at hk
   ·
    exact pure_ hk
   ·
    unfold stCall at hk
    split at hk
    ·
     rename_i f args v ok r hq
     obtain ⟨h1,h2⟩:=hk
     obtain ⟨s',h3,h4,_⟩:=(hR.q r).put h2 rfl
     exact ⟨v,s',made_call (f:=f) (args:=args) (fun W => by rw [hR.exec]; exact congrFun (congrFun h1 e) W) (fun W hW => ok W (hR.jx _ _ hR.jj hW)),h4,h3⟩
    ·
     exact hk.elim
  ·
   exact pure_ hk
 unfold stVal stIns at hk
 split at hk
 ·
  rename_i d key v ok r d' hq hd
  cases hb : Nat.beq d d' with
  | false => rw [hb] at hk; exact old hk
  | true =>
   rw [hb] at hk
   obtain ⟨h1,h2⟩:=hk
   obtain ⟨s',h3,h4,_⟩:=(hR.q r).put h2 rfl
   refine ⟨v,s',zba fun W hW => ?_,h4,h3⟩
   rw [hR.exec]
   refine (congrFun (congrFun h1 e) W).trans ?_
   simp only [Sem.run_bind,ok W (hR.jx _ _ hR.jj hW),Result.andThen_ok,Sem.run_pure]
 ·
  exact old hk
theorem zav {ops : List Oper} {b : Bool} (h : stWant s ops o = some b) (hR : Rl s a e w) : Region.wanted o (yielded ops.toArray a.tmps) = b:=by
 unfold stWant at h
 unfold Region.wanted
 cases hg : o.guard with
 | none =>
  rw [hg] at h
  simpa using h
 | some kb =>
  obtain ⟨k,b'⟩:=kb
  rw [hg] at h
  simp only at h ⊢
  split at h
  ·
   cases h
  ·
   rename_i o' ho
   split at h
   ·
    cases h
   ·
    rename_i d hd
    split at h
    ·
     rename_i c hc
     have hs:=hR.slot d
     rw [hc] at hs
     have ht : a.tmps[d]? = some (.bool c):=by
      simp only [SV.den,Array.getD_eq_getD_getElem?] at hs
      cases hx : a.tmps[d]? with
      | none => rw [hx] at hs; simp [undef] at hs
      | some y => rw [hx] at hs; simpa using hs
     have hy : yielded ops.toArray a.tmps k = some c:=by
      unfold yielded
      simp [ho,hd,ht]
     rw [hy]
     have h : (c == b') = b:=by simpa using h
     rw [← h]
     cases c <;> cases b' <;> rfl
    ·
     cases h
theorem stvals_mk {ops : List Oper} {R : Act → Prop} : ∀ {l : List Oper} {s : Sta P w0 Post J} {a : Act},OkR (stVals ops l s k) → Rl s a e w → (∀ s' a',OkR (k s') → Rl s' a' e w → R a') → wpMk P ops.toArray w R l a
 | [],s,a,h,hR,hK => hK s a h hR
 | o :: l,s,a,h,hR,hK => by
  unfold stVals at h
  split at h
  ·
   rename_i hw
   obtain ⟨v,s1,hm,hR1,h1⟩:=stval_sound h hR
   exact ⟨v,.inl ⟨zav hw hR,hm⟩,stvals_mk h1 hR1 hK⟩
  ·
   rename_i hw
   obtain ⟨s1,h1,hR1,_⟩:=hR.put h rfl
   exact ⟨undef,.inr ⟨zav hw hR,rfl⟩,stvals_mk h1 hR1 hK⟩
  ·
   exact h.elim
end
section
variable {P : Program} {w0 : World} {Q : Exit → Act → World → Prop}
/-! ### memory -/
def cellsOf : SV → List SV
 | .v x => x.cells.toList.map .v
 | .p i o => [.p i o]
def okCell : SV → Bool
 | .v x => x.oneCell'
 | .p _ _ => true
def Sst.wf (s : Sst P w0) : Bool:=(s.t.all fun x => x.2.below s.m.length) && (s.m.all fun b => b.cs.all fun c => c.below s.m.length)
def Sst.new (s : Sst P w0) (o : Oper) (ty : TypeId) (cs : List Value) : Option (Sst P w0) :=
 bif s.wf && Nat.ble s.x s.m.length then
  ({ s with m:=s.m ++ [Blk.mk ty (cs.map SV.v)] }.log (evR s o) (fun _ W => .ok (.value (.pointer (some ⟨W.heap.size,0,none⟩))) (W.alloc (.cells cs.toArray ty)))).put o.dst (.p s.m.length 0)
 else none
def isMem (o : Oper) : Bool:=match o.op with
 | .alloc _ | .box _ _ | .store _ _ _ => true
 | _ => false
def isStore (o : Oper) : Bool:=match o.op with
 | .store _ _ _ => true
 | _ => false
theorem zey {g k : Nat} (hne : k ≠ g) : ∀ (vs : List Value) (o : Nat) (w : World),(w.setCells g o vs).heap[k]? = w.heap[k]?
 | [],_,_ => rfl
 | _ :: r,o,_ => (zey hne r (o + 1) _).trans (Below.heap_setCell _ _ _ _ hne)
theorem cells_ext {w : World} {g : Nat} : ∀ (vs : List Value) (o : Nat) {W : World},Ext w W → w.heap.size ≤ g → Ext w (W.setCells g o vs)
 | [],_,_,h,_ => h
 | v :: r,o,_,h,hg => cells_ext r (o + 1) (zab h hg v) hg
theorem row_of_blk {w : World} {g t : Nat} {C : Array Value} (h : w.heap[g]? = some (.cells C t (0,0))) : w.rowIs g t C.size (fun i => C.getD i undef) :=
 ⟨C,h,rfl,fun i hi => by simp [hi]⟩
theorem cells_on {w : World} {g t o : Nat} {C : List Value} {vs : List Value} (h : w.heap[g]? = some (.cells C.toArray t (0,0))) (ho : o + vs.length ≤ C.length) :
  (w.setCells g o vs).heap[g]? = some (.cells (C.take o ++ (vs ++ C.drop (o + vs.length))).toArray t (0,0)):=by
 rw [blkOf (zfy vs o w _ (row_of_blk h))]
 congr 2
 refine (zgh ?_ fun i hi => ?_).symm
 ·
  simp; omega
 ·
  have hi' : i < C.length:=by simpa using hi
  by_cases h1 : i < o
  ·
   rw [if_neg (by omega)]
   simp [h1,hi',List.getElem?_append]
   omega
  ·
   by_cases h2 : i < o + vs.length
   ·
    rw [if_pos ⟨by omega,h2⟩]
    have h3 : i - o < vs.length:=by omega
    simp [List.getElem?_append,h1,h3,List.getD_eq_getElem?_getD,show min o C.length = o by omega]
   ·
    rw [if_neg (by omega)]
    simp [List.getElem?_append,h1,hi',show min o C.length = o by omega,show ¬ i - o < vs.length by omega,List.getElem?_drop,show o + vs.length + (i - o - vs.length) = i by omega]
theorem there_blk {w : World} {g t o n : Nat} {C : Array Value} (h : w.heap[g]? = some (.cells C t (0,0))) (ho : o + n ≤ C.size) : w.there g o n:=fun j hj => by
 have r:=row_of_blk h
 exact ⟨by rw [r.cell (show o + j < C.size by omega)]; rfl,r.frozen _⟩
theorem cellsOf_den {e : Nat → Nat} : ∀ (x : SV),(cellsOf x).map (SV.den e) = (x.den e).cells.toList
 | .v x => by simp [cellsOf,SV.den,Function.comp_def]
 | .p i o => rfl
theorem okCell_den {e : Nat → Nat} : ∀ {x : SV},okCell x = true → (x.den e).oneCell' = true
 | .v _,h => h
 | .p _ _,_ => rfl
def upE (e : Nat → Nat) (k g : Nat) : Nat → Nat:=fun j => if j = k then g else e j
theorem obj_vals (e : Nat → Nat) (ty : TypeId) (cs : List Value) : (Blk.mk ty (cs.map SV.v)).obj e = .cells cs.toArray ty (0,0):=by
 unfold Blk.obj
 simp [Function.comp_def,SV.den]
/-! ### a region that draws its order: values in whatever order,then what can come but one by one -/
def isAlloc (o : Oper) : Bool:=match o.op with
 | .alloc _ => true
 | _ => false
def oneB (ops : List Oper) (n k : Nat) (listed : Array Bool) : Bool:=decide (Region.ready .any ops.toArray listed = [k]) && (match ops[k]? with
  | some o => Nat.ble n k || !isStore o
  | none => false)
def pairB (ops : List Oper) (k : Nat) (listed : Array Bool) : Bool :=
 decide (Region.ready .any ops.toArray listed = [k,k + 1]) && (decide (Region.ready .any ops.toArray (listed.setIfInBounds k true) = [k + 1]) && (decide (Region.ready .any ops.toArray (listed.setIfInBounds (k + 1) true) = [k]) &&
  (match ops[k]?,ops[k + 1]? with
  | some o,some o' => isAlloc o && (isAlloc o' && (o.guard.isNone && (o'.guard.isNone && (o.dst.isSome && decide (o.dst ≠ o'.dst)))))
  | _,_ => false)))
def tailB (ops : List Oper) (n : Nat) : Nat → Nat → Array Bool → Bool
 | 0,_,listed => decide (Region.ready .any ops.toArray listed = [])
 | 1,k,listed => oneB ops n k listed && decide (Region.ready .any ops.toArray (listed.setIfInBounds k true) = [])
 | f + 2,k,listed => (oneB ops n k listed && tailB ops n (f + 1) (k + 1) (listed.setIfInBounds k true)) || (pairB ops k listed && tailB ops n f (k + 2) ((listed.setIfInBounds k true).setIfInBounds (k + 1) true))
theorem zgi {ops l : List Oper} {k : Nat} {o : Oper} (hd : ops.drop k = o :: l) : ops[k]? = some o ∧ ops.drop (k + 1) = l:=by
 have h1:=congrArg (fun x => x[0]?) hd
 have h2:=congrArg (fun x => x.drop 1) hd
 exact ⟨by simpa using h1,by simpa [List.drop_drop] using h2⟩
/-! ### code -/
inductive Xt where
 | normal
 | exit (id : Nat)
 | ret
def Xt.to : Xt → Exit
 | .normal => .normal
 | .exit id => .exit id
 | .ret => .ret
end
theorem size_cells (g : Nat) : ∀ (vs : List Value) (o : Nat) (w : World),(w.setCells g o vs).heap.size = w.heap.size
 | [],_,_ => rfl
 | v :: r,o,w => by rw [World.setCells,size_cells g r]; simp
section
variable {P : Program} {w0 : World} {Post : Value → World → Prop} {J : World → Prop} {Q : Exit → Act → World → Prop}
def Sta.wf (s : Sta P w0 Post J) : Bool:=(s.t.all fun x => x.2.below s.m.length) && (s.m.all fun b => b.cs.all fun c => c.below s.m.length)
def Sta.new (s : Sta P w0 Post J) (o : Oper) (ty : TypeId) (cs : List Value) (k : Sta P w0 Post J → Rsl) : Rsl :=
 bif s.wf then
  .eq (stR s o) (fun _ W => .ok (.value (.pointer (some ⟨W.heap.size,0,none⟩))) (W.alloc (.cells cs.toArray ty)))
   ({ s with m:=s.m ++ [Blk.mk ty (cs.map SV.v)] }.put o.dst (.p s.m.length 0) k)
 else .bad
def stMem (s : Sta P w0 Post J) (o : Oper) (k : Sta P w0 Post J → Rsl) : Rsl :=
 match o.op with
 | .alloc ty => match P.info? ty with
  | some inf => match inf.zero with
   | some z => s.new o ty z.cells.toList k
   | none => .bad
  | none => .bad
 | .box ty x => match stX s x with
  | .v val => s.new o ty val.cells.toList k
  | .p _ _ => .bad
 | .store ty x y => match stX s x with
  | .p i off => match s.m[i]?,P.info? ty with
   | some b,some inf =>
    bif Nat.ble s.x i && (Nat.beq (cellsOf (stX s y)).length inf.size && (Nat.ble (off + (cellsOf (stX s y)).length) b.cs.length && (cellsOf (stX s y)).all okCell)) then
     { s with m:=s.m.set i ⟨b.ty,b.cs.take off ++ (cellsOf (stX s y) ++ b.cs.drop (off + (cellsOf (stX s y)).length))⟩ }.put o.dst (.v undef) k
    else .bad
   | _,_ => .bad
  | .v _ => .bad
 | _ => .bad
def stStep (s : Sta P w0 Post J) (o : Oper) (k : Sta P w0 Post J → Rsl) : Rsl:=bif isMem o then stMem s o k else stVal s o k
def stOps (ops : List Oper) : List Oper → Sta P w0 Post J → (Sta P w0 Post J → Rsl) → Rsl
 | [],s,k => k s
 | o :: l,s,k => match stWant s ops o with
  | some true => stStep s o fun s1 => stOps ops l s1 k
  | some false => s.put o.dst (.v undef) fun s1 => stOps ops l s1 k
  | none => .bad
variable {s : Sta P w0 Post J} {a : Act} {e : Nat → Nat} {w : World} {o : Oper} {k : Sta P w0 Post J → Rsl}
theorem lookZ_below {z : Nat → Value} {n : Nat} : ∀ {l : List (Nat × SV)} {i : Nat},(∀ x ∈ l,x.2.below n = true) → (lookZ z l i).below n = true
 | [],_,_ => rfl
 | x :: r,i,h => by
  show (lookZ z ((x.1,x.2) :: r) i).below _ = true
  rw [zdv]
  split
  ·
   exact h _ List.mem_cons_self
  ·
   exact lookZ_below fun y hy => h y (List.mem_cons_of_mem _ hy)
theorem Rl.lt (hR : Rl s a e w) {i : Nat} (hi : i < s.m.length) : e i < w.heap.size:=(Array.getElem?_eq_some_iff.1 (hR.blk i _ (List.getElem?_eq_getElem hi))).1
theorem rl_add {g : Nat} {b : Blk} (hR : Rl s a e w) (hwf : s.wf = true) (hg : w.heap[g]? = some (b.obj (upE e s.m.length g))) (ho : w0.heap.size ≤ g) (hne : ∀ i,i < s.m.length → e i ≠ g) (hj : ∀ W o vs,J W → J (W.setCells g o vs)) :
  Rl { s with m:=s.m ++ [b] } a (upE e s.m.length g) w:=by
 unfold Sta.wf at hwf
 rw [Bool.and_eq_true,List.all_eq_true,List.all_eq_true] at hwf
 have hlow : ∀ i,i < s.m.length → upE e s.m.length g i = e i:=fun i hi => if_neg (by omega)
 have hnew : upE e s.m.length g s.m.length = g:=if_pos rfl
 refine ⟨hR.size,hR.defers,fun i => ?_,fun i b' hb => ?_,fun i h1 h2 => ?_,fun i j h1 h2 h3 h4 => ?_,hR.ext,hR.jj,hR.jx,fun i h1 h2 => ?_,hR.jf⟩
 ·
  rw [hR.slot i]
  exact (den_env hlow (lookZ_below hwf.1)).symm
 ·
  have hb : (s.m ++ [b])[i]? = some b':=hb
  by_cases hi : i < s.m.length
  ·
   rw [List.getElem?_append_left hi] at hb
   rw [hlow i hi,hR.blk i b' hb]
   unfold Blk.obj
   congr 3
   refine List.map_congr_left fun c hc => ?_
   have:=List.all_eq_true.1 (hwf.2 b' (List.mem_of_getElem? hb)) c hc
   exact (den_env hlow this).symm
  ·
   rw [List.getElem?_append_right (by omega)] at hb
   have hi0 : i - s.m.length = 0:=by
    have:=(List.getElem?_eq_some_iff.1 hb).1
    simpa using this
   rw [hi0] at hb
   obtain rfl : b = b':=by simpa using hb
   obtain rfl : i = s.m.length:=by omega
   rw [hnew]
   exact hg
 ·
  have h2 : i < s.m.length + 1:=by simpa using h2
  by_cases hi : i < s.m.length
  ·
   rw [hlow i hi]; exact hR.own i h1 hi
  ·
   obtain rfl : i = s.m.length:=by omega
   rw [hnew]; exact ho
 ·
  have h2 : i < s.m.length + 1:=by simpa using h2
  have h3 : j < s.m.length + 1:=by simpa using h3
  by_cases hi : i < s.m.length
  ·
   by_cases hj : j < s.m.length
   ·
    rw [hlow i hi,hlow j hj]; exact hR.far i j h1 hi hj h4
   ·
    obtain rfl : j = s.m.length:=by omega
    rw [hlow i hi,hnew]
    exact hne i hi
  ·
   obtain rfl : i = s.m.length:=by omega
   have hj : j < s.m.length:=by omega
   rw [hlow j hj,hnew]
   exact (hne j hj).symm
 ·
  have h2 : i < s.m.length + 1:=by simpa using h2
  by_cases hi : i < s.m.length
  ·
   rw [hlow i hi]; exact hR.jo i h1 hi
  ·
   obtain rfl : i = s.m.length:=by omega
   rw [hnew]; exact hj
theorem zdi {ty : TypeId} {cs : List Value} (hk : OkR (s.new o ty cs k)) : s.wf = true ∧ stR s o = (fun _ W => .ok (.value (.pointer (some ⟨W.heap.size,0,none⟩))) (W.alloc (.cells cs.toArray ty))) ∧ OkR ({ s with m:=s.m ++ [Blk.mk ty (cs.map SV.v)] }.put o.dst (.p s.m.length 0) k):=by
 unfold Sta.new at hk
 cases hw : s.wf with
 | false => rw [hw] at hk; exact hk.elim
 | true =>
  rw [hw] at hk
  exact ⟨rfl,hk.1,hk.2⟩
theorem zet {ty : TypeId} {cs : List Value} (hk : OkR (s.new o ty cs k)) {g : Nat} (hR : Rl s a e w) (hg : w.heap[g]? = some (.cells cs.toArray ty (0,0))) (ho : w0.heap.size ≤ g) (hne : ∀ i,i < s.m.length → e i ≠ g) (hj : ∀ W o vs,J W → J (W.setCells g o vs)) :
  ∃ s' : Sta P w0 Post J,OkR (k s') ∧ Rl s' (a.put o.dst (.pointer (some ⟨g,0,none⟩))) (upE e s.m.length g) w ∧ s'.m = s.m ++ [Blk.mk ty (cs.map SV.v)]:=by
 obtain ⟨hwf,_,hp⟩:=zdi hk
 have h:=rl_add (b:=Blk.mk ty (cs.map SV.v)) hR hwf (by rw [obj_vals]; exact hg) ho hne hj
 obtain ⟨s',h1,h2,h3,_⟩:=h.put (x:=.p s.m.length 0) (v:=.pointer (some ⟨g,0,none⟩)) hp (by show Value.pointer (some ⟨upE e s.m.length g s.m.length,0,none⟩) = _; rw [show upE e s.m.length g s.m.length = g from if_pos rfl])
 exact ⟨s',h1,h2,h3⟩
theorem stnew_sound {ty : TypeId} {cs : List Value} (hk : OkR (s.new o ty cs k)) (hR : Rl s a e w) {K : Act → World → Prop} (hK : ∀ s' a' e' w',OkR (k s') → Rl s' a' e' w' → Ext w w' → K a' w') : o.wp P a w K Q:=by
 obtain ⟨_,h1,_⟩:=zdi hk
 have hrun:=congrFun (congrFun h1 e) w
 unfold Oper.wp
 rw [hR.exec,hrun,Oper.upon_value]
 have hE:=Ext.alloc w (.cells cs.toArray ty)
 obtain ⟨s',h2,h3,_⟩:=zet hk (hR.more hE) (zae _ _) (Below.size hR.ext) (fun i hi => by have:=hR.lt hi; omega) (hR.jf _ (Nat.le_refl _))
 exact hK s' _ _ _ h2 h3 hE
theorem stmem_sound (hk : OkR (stMem s o k)) (hR : Rl s a e w) {K : Act → World → Prop} (hK : ∀ s' a' e' w',OkR (k s') → Rl s' a' e' w' → (isStore o = false → Ext w w') → K a' w') : o.wp P a w K Q:=by
 unfold stMem at hk
 split at hk
 ·
  split at hk
  ·
   split at hk
   ·
    exact stnew_sound hk hR fun s' a' e' w' h1 h2 h3 => hK s' a' e' w' h1 h2 fun _ => h3
   ·
    exact hk.elim
  ·
   exact hk.elim
 ·
  split at hk
  ·
   exact stnew_sound hk hR fun s' a' e' w' h1 h2 h3 => hK s' a' e' w' h1 h2 fun _ => h3
  ·
   exact hk.elim
 ·
  rename_i ty x y ho
  split at hk
  ·
   rename_i i off hx
   split at hk
   ·
    rename_i b inf hb hi
    obtain ⟨cs,hcs⟩ : ∃ cs,cs = cellsOf (stX s y):=⟨_,rfl⟩
    rw [← hcs] at hk
    cases hc : (Nat.ble s.x i && (Nat.beq cs.length inf.size && (Nat.ble (off + cs.length) b.cs.length && cs.all okCell))) with
    | false => rw [hc] at hk; exact hk.elim
    | true =>
     rw [hc] at hk
     simp only [cond_true] at hk
     simp only [Bool.and_eq_true] at hc
     obtain ⟨c1,c2,c3,c4⟩:=hc
     have c1:=Nat.le_of_ble_eq_true c1
     have c2:=Nat.eq_of_beq_eq_true c2
     have c3:=Nat.le_of_ble_eq_true c3
     have hst : isStore o = true:=by unfold isStore; rw [ho]
     have hblk:=hR.blk i b hb
     have hil : i < s.m.length:=(List.getElem?_eq_some_iff.1 hb).1
     have hden:=cellsOf_den (e:=e) (stX s y)
     rw [← hcs] at hden
     have hlen : ((stX s y).den e).cells.size = cs.length:=by
      have:=congrArg List.length hden
      simpa using this.symm
     have hrun:=run_storeAt_mid (P:=P) w (e i) off ty ((stX s y).den e).cells (there_blk hblk (by rw [hlen]; simpa using c3)) (by rw [hi,hlen,c2]; rfl) (by
      rw [← Array.all_toList,← hden,List.all_map]
      exact List.all_eq_true.2 fun c hc => okCell_den (List.all_eq_true.1 c4 c hc))
     have hrun2 : (execOp a.eval o).run P w = .ok .skip (w.setCells (e i) off ((stX s y).den e).cells.toList):=by
      have hxa : a.eval x = .pointer (some ⟨e i,off,none⟩):=by rw [hR.eval]; show (stX s x).den e = _; rw [hx]; rfl
      have hya : a.eval y = (stX s y).den e:=by rw [hR.eval]
      unfold execOp
      simp only [ho,hxa,hya,Sem.run_bind]
      rw [show Instr.storeAt ty (.pointer (some ⟨e i,off,none⟩)) ((stX s y).den e) = Instr.storeAt ty (.pointer (some ⟨e i,off,none⟩)) (.agg ((stX s y).den e).cells) from rfl,hrun]
      simp
     unfold Oper.wp
     rw [hrun2,Oper.upon_skip]
     rw [← hden]
     have hown:=hR.own i c1 hil
     have hsize : w.heap.size ≤ (w.setCells (e i) off (cs.map (SV.den e))).heap.size:=Nat.le_of_eq (size_cells _ _ _ _).symm
     have hR2 : Rl { s with m:=s.m.set i ⟨b.ty,b.cs.take off ++ (cs ++ b.cs.drop (off + cs.length))⟩ } a e (w.setCells (e i) off (cs.map (SV.den e))):=by
      refine ⟨hR.size,hR.defers,hR.slot,fun j b' hb' => ?_,fun j h1 h2 => hR.own j h1 (by simpa using h2),fun j k h1 h2 h3 h4 => hR.far j k h1 (by simpa using h2) (by simpa using h3) h4,cells_ext _ _ hR.ext hown,hR.jo i c1 hil _ _ _ hR.jj,hR.jx,fun j h1 h2 => hR.jo j h1 (by simpa using h2),fun g hg => hR.jf g (Nat.le_trans hsize hg)⟩
      have hb' : (s.m.set i ⟨b.ty,b.cs.take off ++ (cs ++ b.cs.drop (off + cs.length))⟩)[j]? = some b':=hb'
      by_cases hj : j = i
      ·
       subst hj
       rw [List.getElem?_set_self hil] at hb'
       obtain rfl:=Option.some.inj hb'
       unfold Blk.obj at hblk ⊢
       rw [cells_on hblk (by simpa using c3)]
       simp only [List.map_append,List.map_take,List.map_drop,List.length_map]
      ·
       rw [List.getElem?_set_ne (Ne.symm hj)] at hb'
       have hjl : j < s.m.length:=(List.getElem?_eq_some_iff.1 hb').1
       rw [zey (fun h => hR.far i j c1 hil hjl (Ne.symm hj) h.symm)]
       exact hR.blk j b' hb'
     obtain ⟨s',h1,h2,_⟩:=hR2.put hk rfl
     exact hK s' _ e _ h1 h2 fun h => by rw [hst] at h; cases h
   ·
    exact hk.elim
  ·
   exact hk.elim
 ·
  exact hk.elim
theorem zcp (hk : OkR (stStep s o k)) (hR : Rl s a e w) {K : Act → World → Prop} (hK : ∀ s' a' e' w',OkR (k s') → Rl s' a' e' w' → (isStore o = false → Ext w w') → K a' w') : o.wp P a w K Q:=by
 unfold stStep at hk
 cases hm : isMem o with
 | true =>
  rw [hm] at hk
  exact stmem_sound hk hR hK
 | false =>
  rw [hm] at hk
  obtain ⟨v,s',hmd,hR1,h1⟩:=stval_sound hk hR
  exact hmd.wp (Ext.refl w) fun W' hW' => hK s' _ e W' h1 (hR1.more hW') fun _ => hW'
theorem stalloc_cut (ha : isAlloc o = true) (hk : OkR (stStep s o k)) : ∃ ty cs,o.op = .alloc ty ∧ OkR (s.new o ty cs k):=by
 unfold isAlloc at ha
 split at ha
 ·
  rename_i ty ho
  have hm : isMem o = true:=by unfold isMem; rw [ho]
  unfold stStep at hk
  rw [hm] at hk
  simp only [cond_true] at hk
  unfold stMem at hk
  rw [ho] at hk
  simp only at hk
  split at hk
  ·
   split at hk
   ·
    exact ⟨ty,_,ho,hk⟩
   ·
    exact hk.elim
  ·
   exact hk.elim
 ·
  cases ha
theorem zdq {ty : TypeId} {cs : List Value} (ho : o.op = .alloc ty) (hk : OkR (s.new o ty cs k)) {a : Act} {W : World} {K : Act → World → Prop} (h : K (a.put o.dst (.pointer (some ⟨W.heap.size,0,none⟩))) (W.alloc (.cells cs.toArray ty))) : o.wp P a W K Q:=by
 obtain ⟨_,h1,_⟩:=zdi hk
 have hrun:=congrFun (congrFun h1 fun _ => 0) W
 have e : execOp a.eval o = execOp (fun x => (stX s x).den fun _ => 0) o:=by
  unfold execOp
  simp only [ho]
 unfold Oper.wp
 rw [e,show (execOp (fun x => (stX s x).den fun _ => 0) o).run P W = _ from hrun,Oper.upon_value]
 exact h
theorem stone_wp {ops : List Oper} {n i : Nat} {listed : Array Bool} {l : List Oper} (ho : ops[i]? = some o) (hB : oneB ops n i listed = true) (h : OkR (stOps ops (o :: l) s k)) (hR : Rl s a e w)
  (hnext : ∀ {s1 : Sta P w0 Post J} {a' e' w'},OkR (stOps ops l s1 k) → Rl s1 a' e' w' → wpG P .any ops.toArray Q n l.length (listed.setIfInBounds i true) a' w') : wpG P .any ops.toArray Q n (o :: l).length listed a w:=by
 unfold oneB at hB
 rw [ho] at hB
 simp only [Bool.and_eq_true,decide_eq_true_eq] at hB
 obtain ⟨hr,hn⟩:=hB
 refine ⟨fun h0 => (by rw [hr] at h0; cases h0),fun j hj W hW => ?_⟩
 rw [hr] at hj
 obtain rfl : j = i:=by simpa using hj
 have hRW:=hR.more hW
 have hkeep : j < n → isStore o = false:=fun hlt => by
  cases hs : isStore o with
  | false => rfl
  | true =>
   rw [hs] at hn
   have : n ≤ j:=by simpa using hn
   omega
 unfold stOps at h
 refine wpOp_step (by simpa using ho) fun K hK' => ?_
 split at h
 ·
  rename_i hw
  rw [if_pos (zav hw hRW)]
  exact zcp h hRW fun s' a' e' w' h0 h1 h2 => hK' _ _ ⟨fun hlt => h2 (hkeep hlt),hnext h0 h1⟩
 ·
  rename_i hw
  rw [if_neg (by rw [zav hw hRW]; exact Bool.false_ne_true)]
  obtain ⟨s',h1,h2,_⟩:=hRW.put h rfl
  exact hK' _ _ ⟨fun _ => Ext.refl _,hnext h1 h2⟩
 ·
  exact h.elim
theorem stplain {ops : List Oper} {l : List Oper} (hg : o.guard.isNone = true) (h : OkR (stOps ops (o :: l) s k)) : OkR (stStep s o fun s1 => stOps ops l s1 k):=by
 unfold stOps at h
 have hw : stWant s ops o = some true:=by
  unfold stWant
  rw [Option.isNone_iff_eq_none.1 hg]
 rw [hw] at h
 exact h
theorem zes {ops : List Oper} {n : Nat} : ∀ {l : List Oper} {i : Nat} {listed : Array Bool} {s : Sta P w0 Post J} {a : Act} {e : Nat → Nat} {w : World},ops.drop i = l → tailB ops n l.length i listed = true → OkR (stOps ops l s k) → Rl s a e w →
  (∀ s' a' e' w',OkR (k s') → Rl s' a' e' w' → Q .normal a' w') → wpG P .any ops.toArray Q n l.length listed a w
 | [],i,listed,s,a,e,w,_,hB,h,hR,hK => ⟨of_decide_eq_true hB,fun W hW => hK s a e W h (hR.more hW)⟩
 | [o],i,listed,s,a,e,w,hd,hB,h,hR,hK => by
  have hB : (oneB ops n i listed && decide (Region.ready .any ops.toArray (listed.setIfInBounds i true) = [])) = true:=hB
  rw [Bool.and_eq_true] at hB
  exact stone_wp (zgi hd).1 hB.1 h hR fun h1 hR1 => zes (l:=[]) (zgi hd).2 hB.2 h1 hR1 hK
 | o :: o' :: l,i,listed,s,a,e,w,hd,hB,h,hR,hK => by
  have hB : ((oneB ops n i listed && tailB ops n (l.length + 1) (i + 1) (listed.setIfInBounds i true)) || (pairB ops i listed && tailB ops n l.length (i + 2) ((listed.setIfInBounds i true).setIfInBounds (i + 1) true))) = true:=hB
  obtain ⟨ho,hd'⟩:=zgi hd
  obtain ⟨ho',hd''⟩:=zgi hd'
  rw [Bool.or_eq_true,Bool.and_eq_true,Bool.and_eq_true] at hB
  rcases hB with ⟨h1,h2⟩ | ⟨h1,h2⟩
  ·
   exact stone_wp ho h1 h hR fun h3 hR1 => zes (l:=o' :: l) hd' h2 h3 hR1 hK
  ·
   unfold pairB at h1
   rw [ho,ho'] at h1
   simp only [Bool.and_eq_true,decide_eq_true_eq] at h1
   obtain ⟨r1,r2,r3,ha,ha',hg,hg',_,hne⟩:=h1
   have h:=stplain hg h
   obtain ⟨ty,cs,hty,hn1⟩:=stalloc_cut ha h
   -- the second one,behind the first wherever that lies
   have hsec : ∀ {s1 : Sta P w0 Post J},OkR (stOps ops (o' :: l) s1 k) → ∃ ty' cs',o'.op = .alloc ty' ∧ OkR (s1.new o' ty' cs' fun s2 => stOps ops l s2 k):=fun hh => by
    obtain ⟨ty',cs',h1,h2⟩:=stalloc_cut ha' (stplain hg' hh)
    exact ⟨ty',cs',h1,h2⟩
   have hw0:=Below.size hR.ext
   -- what it makes hangs on its type alone
   obtain ⟨s1,hk1,_,hm1⟩:=zet (g:=w.heap.size) hn1 (hR.more (Ext.alloc w (.cells cs.toArray ty))) (zae _ _) hw0 (fun i hi => by have:=hR.lt hi; omega) (hR.jf _ (Nat.le_refl _))
   obtain ⟨ty',cs',hty',hn2⟩:=hsec hk1
   have fin : ∀ {g g' : Nat} {W : World},Ext w W → W.heap[g]? = some (.cells cs.toArray ty (0,0)) → W.heap[g']? = some (.cells cs'.toArray ty' (0,0)) → w.heap.size ≤ g → w.heap.size ≤ g' → g ≠ g' →
     wpG P .any ops.toArray Q n l.length ((listed.setIfInBounds i true).setIfInBounds (i + 1) true) ((a.put o.dst (.pointer (some ⟨g,0,none⟩))).put o'.dst (.pointer (some ⟨g',0,none⟩))) W:=fun {g g' W} hW b1 b2 g1 g2 gn => by
    obtain ⟨s2,hk2,R1,hm2⟩:=zet (g:=g) hn1 (hR.more hW) b1 (Nat.le_trans hw0 g1) (fun i hi => by have:=hR.lt hi; omega) (hR.jf _ g1)
    obtain ⟨ty2,cs2,hty2,hn3⟩:=hsec hk2
    obtain rfl : ty' = ty2:=by rw [hty'] at hty2; injection hty2
    have hcs : cs'.toArray = cs2.toArray:=by
     have e1:=congrFun (congrFun (zdi hn2).2.1 fun _ => 0) w
     have e2:=congrFun (congrFun (zdi hn3).2.1 fun _ => 0) w
     have e3 : stR s1 o' (fun _ => 0) w = stR s2 o' (fun _ => 0) w:=by
      unfold stR execOp
      simp only [hty']
     rw [e1,e2] at e3
     injection e3 with _ e4
     have:=congrArg (fun W => W.heap[w.heap.size]?) e4
     rw [zae,zae] at this
     injection this with this
     injection this
    obtain ⟨s3,hk3,R2,_⟩:=zet (g:=g') hn3 R1 (by rw [← hcs]; exact b2) (Nat.le_trans hw0 g2) (fun i hi => by
     rw [hm2,List.length_append] at hi
     unfold upE
     by_cases hil : i = s.m.length
     ·
      rw [if_pos hil]; exact gn
     ·
      rw [if_neg hil]
      have:=hR.lt (show i < s.m.length by simp only [List.length_cons,List.length_nil] at hi; omega)
      omega) (hR.jf _ g2)
    exact zes hd'' h2 hk3 R2 hK
   refine ⟨fun h0 => (by rw [r1] at h0; cases h0),fun j hj W hW => ?_⟩
   rw [r1] at hj
   have hi2 : j = i ∨ j = i + 1:=by simpa using hj
   rcases hi2 with rfl | rfl
   ·
    refine zbp (by simpa using ho) (Option.isNone_iff_eq_none.1 hg) (zdq hty hn1 ⟨fun _ => Ext.alloc _ _,?_⟩)
    refine ⟨fun h0 => (by rw [r2] at h0; cases h0),fun i hi W1 hW1 => ?_⟩
    rw [r2] at hi
    obtain rfl : i = j + 1:=by simpa using hi
    refine zbp (by simpa using ho') (Option.isNone_iff_eq_none.1 hg') (zdq hty' hn2 ⟨fun _ => Ext.alloc _ _,?_⟩)
    have z1:=Below.size hW
    have z2:=Below.size hW1
    simp only [World.size_alloc] at z2
    exact fin ((hW.trans (Ext.alloc _ _)).trans (hW1.trans (Ext.alloc _ _))) ((hW1.trans (Ext.alloc _ _)).block (zae _ _)) (zae _ _) z1 (by omega) (by omega)
   ·
    refine zbp (by simpa using ho') (Option.isNone_iff_eq_none.1 hg') (zdq hty' hn2 ⟨fun _ => Ext.alloc _ _,?_⟩)
    refine ⟨fun h0 => (by rw [r3] at h0; cases h0),fun j hj W1 hW1 => ?_⟩
    rw [r3] at hj
    obtain rfl : j = i:=by simpa using hj
    refine zbp (by simpa using ho) (Option.isNone_iff_eq_none.1 hg) (zdq hty hn1 ⟨fun _ => Ext.alloc _ _,?_⟩)
    have z1:=Below.size hW
    have z2:=Below.size hW1
    simp only [World.size_alloc] at z2
    rw [Array.setIfInBounds_comm _ _ (by omega),Act.put_comm a _ _ (fun d h0 h1 => hne (by rw [h0,h1]))]
    exact fin ((hW.trans (Ext.alloc _ _)).trans (hW1.trans (Ext.alloc _ _))) (zae _ _) ((hW1.trans (Ext.alloc _ _)).block (zae _ _)) (by omega) z1 (by omega)
def allR : List Rsl → Rsl
 | [] => .bad
 | [a] => a
 | a :: l => .both a (allR l)
theorem allR_of : ∀ {l : List Rsl},OkR (allR l) → ∀ r ∈ l,OkR r
 | [],h,_,_ => h.elim
 | [a],h,r,hr => by
  obtain rfl : r = a:=by simpa using hr
  exact h
 | a :: b :: l,h,r,hr => by
  rcases List.mem_cons.1 hr with rfl | hr
  ·
   exact h.1
  ·
   exact allR_of h.2 r hr
theorem allR_ne : ∀ {l : List Rsl},OkR (allR l) → l ≠ []
 | [],h,_ => h.elim
def stTree (ops : List Oper) (n : Nat) : Nat → Array Bool → Sta P w0 Post J → (Sta P w0 Post J → Rsl) → Rsl
 | 0,listed,s,k => bif decide (Region.ready .any ops.toArray listed = []) then k s else .bad
 | f + 1,listed,s,k => allR ((Region.ready .any ops.toArray listed).map fun i => match ops[i]? with
   | some o => bif Nat.ble n i || !isStore o then (match stWant s ops o with
    | some true => stStep s o fun s1 => stTree ops n f (listed.setIfInBounds i true) s1 k
    | some false => s.put o.dst (.v undef) fun s1 => stTree ops n f (listed.setIfInBounds i true) s1 k
    | none => .bad) else .bad
   | none => .bad)
theorem zer {ops : List Oper} {n : Nat} : ∀ {f : Nat} {listed : Array Bool} {s : Sta P w0 Post J} {a : Act} {e : Nat → Nat} {w : World},OkR (stTree ops n f listed s k) → Rl s a e w →
  (∀ s' a' e' w',OkR (k s') → Rl s' a' e' w' → Q .normal a' w') → wpG P .any ops.toArray Q n f listed a w
 | 0,listed,s,a,e,w,h,hR,hK => by
  unfold stTree at h
  cases hc : decide (Region.ready .any ops.toArray listed = []) with
  | false => rw [hc] at h; exact h.elim
  | true => rw [hc] at h; exact ⟨of_decide_eq_true hc,fun W hW => hK s a e W h (hR.more hW)⟩
 | f + 1,listed,s,a,e,w,h,hR,hK => by
  unfold stTree at h
  refine ⟨fun h0 => (allR_ne h (by rw [h0]; rfl)).elim,fun i hi W hW => ?_⟩
  have h:=allR_of h _ (List.mem_map_of_mem hi)
  have hRW:=hR.more hW
  split at h
  ·
   rename_i o ho
   cases hn : (Nat.ble n i || !isStore o) with
   | false => rw [hn] at h; exact h.elim
   | true =>
    rw [hn] at h
    have hkeep : i < n → isStore o = false:=fun hlt => by
     cases hs : isStore o with
     | false => rfl
     | true =>
      rw [hs] at hn
      have : n ≤ i:=by simpa using hn
      omega
    refine wpOp_step (by simpa using ho) fun K hK' => ?_
    simp only [cond_true] at h
    split at h
    ·
     rename_i hw
     rw [if_pos (zav hw hRW)]
     exact zcp h hRW fun s' a' e' w' h0 h1 h2 => hK' _ _ ⟨fun hlt => h2 (hkeep hlt),zer h0 h1 hK⟩
    ·
     rename_i hw
     rw [if_neg (by rw [zav hw hRW]; exact Bool.false_ne_true)]
     obtain ⟨s',h1,h2,_⟩:=hRW.put h rfl
     exact hK' _ _ ⟨fun _ => Ext.refl _,zer h1 h2 hK⟩
    ·
     exact h.elim
  ·
   exact h.elim
def findM (ops : List Oper) (n : Nat) : Nat → Nat
 | 0 => 0
 | k + 1 => bif madeB ops (k + 1) n then k + 1 else findM ops n k
def stDraw (ops : List Oper) (s : Sta P w0 Post J) (k : Sta P w0 Post J → Rsl) : Rsl :=
 let n:=(ops.takeWhile fun o => !isStore o).length
 let m:=findM ops n (ops.takeWhile fun o => !isMem o).length
 bif P.follows .mixedOrders && madeB ops m n then
  stVals ops (ops.take m) s fun s1 => bif tailB ops n (ops.drop m).length m (marked m 0 (Array.replicate ops.length false)) then stOps ops (ops.drop m) s1 k
   else stTree ops n (ops.drop m).length (marked m 0 (Array.replicate ops.length false)) s1 k
 else bif P.follows .mixedOrders then stTree ops n ops.length (Array.replicate ops.length false) s k else .bad
theorem stdraw_wp {id : Nat} {ops : List Oper} (h : OkR (stDraw ops s k)) (hR : Rl s a e w) (hK : ∀ s' a' e' w',OkR (k s') → Rl s' a' e' w' → Q .normal a' w') : (Code.region id ops.toArray true).wp P Q a w:=by
 unfold stDraw at h
 simp only at h
 obtain ⟨n,hn⟩ : ∃ n,n = (ops.takeWhile fun o => !isStore o).length:=⟨_,rfl⟩
 rw [← hn] at h
 obtain ⟨m,hm⟩ : ∃ m,m = findM ops n (ops.takeWhile fun o => !isMem o).length:=⟨_,rfl⟩
 rw [← hm] at h
 cases hc : (P.follows .mixedOrders && madeB ops m n) with
 | false =>
  rw [hc] at h
  simp only [cond_false] at h
  cases hm : P.follows .mixedOrders with
  | false => rw [hm] at h; exact h.elim
  | true =>
   rw [hm] at h
   refine wp_region_noPanic (wp_region_any hm (zcv (n:=n) _ _ _ _ ?_))
   have H:=wpG.ext (zer (Q:=NoPanic Q) h hR fun s2 a2 e2 w2 h2 h3 => hK s2 a2 e2 w2 h2 h3) (Ext.drew w)
   simpa using H
 | true =>
  rw [hc] at h
  simp only [cond_true] at h
  simp only [Bool.and_eq_true] at hc
  refine wp_region_noPanic (zdz n hc.1 hc.2 (fun _ _ _ _ _ h => h) (stvals_mk h hR fun s1 a' h1 hR1 => ?_))
  unfold Rest
  cases ht : tailB ops n (ops.drop m).length m (marked m 0 (Array.replicate ops.length false)) with
  | false =>
   rw [ht] at h1
   have:=zer (Q:=NoPanic Q) h1 hR1 fun s2 a2 e2 w2 h2 h3 => hK s2 a2 e2 w2 h2 h3
   rwa [List.length_drop] at this
  | true =>
   rw [ht] at h1
   have:=zes (Q:=NoPanic Q) rfl ht h1 hR1 fun s2 a2 e2 w2 h2 h3 => hK s2 a2 e2 w2 h2 h3
   rwa [List.length_drop] at this
end
section
variable {P : Program} {w0 : World}
def rvRun (tmps : Array Value) : ResultVar → Sem Value
 | .tmp t => pure (tmps.getD t undef)
 | .cell a t => do loadVar t (← asAddr (tmps.getD a undef))
theorem results_rv (fn : Func) (tmps : Array Value) : results fn tmps = (do let vs ← fn.results.mapM (rvRun tmps); pure (if h : vs.size = 1 then vs[0] else .tuple vs)):=by
 unfold results
 congr 1
def enumS : Nat → List SV → List (Nat × SV)
 | _,[] => []
 | k,x :: r => (k,x) :: enumS (k + 1) r
def start (P : Program) (w0 : World) (fn : Func) (args : List SV) (m : List Blk) (q : List (Orc P w0)) : Sst P w0 :=
 {n:=args.length + (fn.ntmps - args.length),t:=enumS 0 args,m:=m,x:=m.length,q:=q,g:=[] }
end
end Go.Proofs.YtihophdbkjhopaaDoor
