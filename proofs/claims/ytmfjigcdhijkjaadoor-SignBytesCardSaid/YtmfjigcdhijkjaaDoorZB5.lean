/-
  Of Q1 Ce Made2 SMath SSpec SBits HBase SWords HRot HWords Own Cut.
-/
import Derived.Deep.WholeRow
import Derived.DeepKeys
import Derived.Deep.CutRange
import Derived.Deep.RegionHeld3
import Derived.WalkKit
import Derived.Test.YtmfjigcdhijkjaaDoorRows
import Derived.Deep.MidRow
import Derived.ChangeKeysEq
import Derived.WalkSpells
import Derived.WalkLawsBesides
import Derived.Deep.LoopGhost
import Derived.BigQuiet
import Derived.Deep.QuietTactic
import Derived.Deep.RegionWith
import Derived.Deep.Cut
import Derived.StillTailTactics
import Derived.IntWalk
import Derived.OwnWalk
import Derived.RegionTactic
import Derived.Deep.AppendLies
import Derived.Maps.AppendAt
import Derived.Test.YtmfjigcdhijkjaaDoorZB4
import Derived.Test.YtmfjigcdhijkjaaDoorZB2
import Derived.Test.YtmfjigcdhijkjaaDoorZB3
import Derived.Test.YtmfjigcdhijkjaaDoorZB1
set_option maxRecDepth 1000000
set_option maxHeartbeats 20000000
namespace Go.Proofs.YtmfjigcdhijkjaaDoor
open Go.RowKit
open Go.Act renaming put → aP
open List renaming setIfInBounds_toArray → lA, set_cons_zero → lZ, set_cons_succ → lS
theorem zgk : Pt.pp < top:=by decide +kernel
theorem pp_lits : wd Pt.pp 0 = 18446744073709551615 ∧ wd Pt.pp 1 = 4294967295 ∧ wd Pt.pp 2 = 0 ∧ wd Pt.pp 3 = 18446744069414584321:=by decide +kernel
theorem bb_lits : wd Pt.bb 0 = 4309448131093880907 ∧ wd Pt.bb 1 = 7285987128567378166 ∧ wd Pt.bb 2 = 12964664127075681980 ∧ wd Pt.bb 3 = 6540974713487397863:=by decide +kernel
theorem gx_lits : wd Pt.gx 0 = 17627433388654248598 ∧ wd Pt.gx 1 = 8575836109218198432 ∧ wd Pt.gx 2 = 17923454489921339634 ∧ wd Pt.gx 3 = 7716867327612699207:=by decide +kernel
theorem gy_lits : wd Pt.gy 0 = 14678990851816772085 ∧ wd Pt.gy 1 = 3156516839386865358 ∧ wd Pt.gy 2 = 10297457778147434006 ∧ wd Pt.gy 3 = 5756518291402817435:=by decide +kernel
/-! ### points: values,rows,'==' -/
theorem lits_word (X i : Nat) (D : Nat) : Tryd.prog.keyLits (D + 1) 22 [.int .u64 (wd X i)] = some [.int .u64 (wd X i)]:=by
 have h0:=wd_lo X i
 have h1:=wd_le X i
 have hw : (Lit.int .u64 (wd X i)).wf = true:=by
  simp only [Lit.wf,Bool.and_eq_true,decide_eq_true_eq]
  have e1 : IntKind.u64.min = 0:=rfl
  have e2 : IntKind.u64.max = 18446744073709551615:=rfl
  omega
 simp [Program.keyLits,Tryd.underlying22,hw]
theorem zgt : Tryd.prog.cellsOf 22 = 1:=by kernel_rfl
theorem zdj : Tryd.prog.cellsOf 24 = 4:=by kernel_rfl
theorem cells_pt : Tryd.prog.cellsOf 40 = 9:=by kernel_rfl
theorem cells_bool : Tryd.prog.cellsOf 4 = 1:=by kernel_rfl
theorem lits_num (X : Nat) (D : Nat) : Tryd.prog.keyLits (D + 2) 24 [.int .u64 (wd X 0),.int .u64 (wd X 1),.int .u64 (wd X 2),.int .u64 (wd X 3)] = some [.int .u64 (wd X 0),.int .u64 (wd X 1),.int .u64 (wd X 2),.int .u64 (wd X 3)]:=by
 unfold Program.keyLits
 simp [Tryd.underlying24,zdj,zgt,List.range_succ,lits_word]
theorem wd_inj {X Y : Nat} (hX : X < top) (hY : Y < top) (h0 : wd X 0 = wd Y 0) (h1 : wd X 1 = wd Y 1) (h2 : wd X 2 = wd Y 2) (h3 : wd X 3 = wd Y 3) : X = Y:=by
 have h:=(all_wd 4 X Y).symm
 have ha : ((List.range 4).all fun i => wd X i == wd Y i) = true:=by
  simp [List.range_succ,h0,h1,h2,h3]
 rw [ha] at h
 have h5:=of_decide_eq_true h
 rw [Nat.mod_eq_of_lt (show X < w64 ^ 4 from hX),Nat.mod_eq_of_lt (show Y < w64 ^ 4 from hY)] at h5
 exact h5
theorem gT (X Y X' Y' : Nat) (f f' : Bool) (op : BinOp) (x y : Operand) (W : World) : (eqGuard op 40 x y (qv X Y f) (qv X' Y' f')).run Tryd.prog W = .ok () W:=by
 unfold qv qc
 cases op <;> simp [eqGuard,go_sem]
theorem mkErr1 (W : World) : (Instr.makeInterface 34 (.int .i64 1)).run Tryd.prog W = .ok (.iface 34 (.int .i64 1)) W:=by simp [Instr.makeInterface,go_sem]
theorem mkErr2 (W : World) : (Instr.makeInterface 34 (.int .i64 2)).run Tryd.prog W = .ok (.iface 34 (.int .i64 2)) W:=by simp [Instr.makeInterface,go_sem]
theorem mkErr4 (W : World) : (Instr.makeInterface 34 (.int .i64 4)).run Tryd.prog W = .ok (.iface 34 (.int .i64 4)) W:=by simp [Instr.makeInterface,go_sem]
theorem made_eqn {o : Oper} {a : Act} {w : World} {x y : Operand} {X Y : Nat} (ho : o.op = .binOp .eql 24 x y 24) (hx : a.eval x = nv X) (hy : a.eval y = nv Y) (lX : X < top) (lY : Y < top) : Made Tryd.prog o (.bool (decide (X = Y))) a w:=zce fun W _ => by
 have k:=eql_num lX lY W
 unfold execOp
 simp only [ho]
 generalize a.eval = ρ at *
 rw [hx,hy]
 unfold nv nc at *
 have hg : (eqGuard .eql 24 x y (.agg #[.int .u64 (wd X 0),.int .u64 (wd X 1),.int .u64 (wd X 2),.int .u64 (wd X 3)]) (.agg #[.int .u64 (wd Y 0),.int .u64 (wd Y 1),.int .u64 (wd Y 2),.int .u64 (wd Y 3)])).run Tryd.prog W = .ok () W:=by simp [eqGuard,go_sem]
 simp only [Sem.run_bind,hg,Result.andThen_ok,k,Sem.run_pure]
section
variable {P : Program} {Q : Exit → Act → World → Prop} {l : List Oper} {m : Nat} {a : Act} {w : World} {ty t : TypeId} {zs cells : Array Value} {d de : Tmp} {y : Operand}
theorem zby {o : Oper} {x : Operand} {i : Nat} {vs : Array Value} {v : Value} (ho : o.op = .extract x i) (hx : a.eval x = .tuple vs) (hv : vs[i]? = some v) (W : World) : (execOp a.eval o).run P W = .ok (.value v) W:=by
 unfold execOp
 simp only [ho]
 generalize a.eval = ρ at *
 rw [hx]
 simp [Instr.extract,go_sem,hv]
theorem zek {i : Nat} {o : Oper} {ops : Array Oper} {v : Value} {K : Act → World → Prop} {a : Act} {w : World} (ho : ops[i]? = some o) (hg : o.guard = none) (he : (execOp a.eval o).run P w = .ok (.value v) w) (h : K (a.put o.dst v) w) : wpOp P ops Q i K a w:=by
 refine zbd ho hg ?_
 unfold Oper.wp
 rw [he,Oper.upon_value]
 exact h
theorem zdu {v vx : Value} {z : Operand} {dx : Tmp} (ox oa os oe : Oper) (hlen : l.length = m + 4) (hox : l.toArray[m]? = some ox) (hoa : l.toArray[m + 1]? = some oa) (hos : l.toArray[m + 2]? = some os) (hoe : l.toArray[m + 3]? = some oe) (hoa2 : oa.op = .alloc ty) (ho : os.op = .store ty (.tmp d) y) (hoe2 : oe.op = .assign z)
  (hdx : ox.dst = some dx) (hda : oa.dst = some d) (hd : os.dst = none) (hde : oe.dst = some de) (hgx : ox.guard = none) (hga : oa.guard = none) (hg : os.guard = none) (hge : oe.guard = none) (hne : dx ≠ d)
  (hr : Region.ready .any l.toArray (marked m 0 (Array.replicate l.length false)) = [m,m + 1]) (hr1 : Region.ready .any l.toArray (marked (m + 1) 0 (Array.replicate l.length false)) = [m + 1]) (hr2 : Region.ready .any l.toArray (marked (m + 2) 0 (Array.replicate l.length false)) = [m + 2]) (hr3 : Region.ready .any l.toArray (marked (m + 3) 0 (Array.replicate l.length false)) = [m + 3]) (hr4 : Region.ready .any l.toArray (marked (m + 4) 0 (Array.replicate l.length false)) = [])
  (hrb : Region.ready .any l.toArray ((marked m 0 (Array.replicate l.length false)).setIfInBounds (m + 1) true) = [m,m + 2])
  (hrc : Region.ready .any l.toArray (((marked m 0 (Array.replicate l.length false)).setIfInBounds (m + 1) true).setIfInBounds (m + 2) true) = [m])
  (hmk : (marked m 0 (Array.replicate l.length false)).setIfInBounds m true = marked (m + 1) 0 (Array.replicate l.length false))
  (hmk1 : (marked (m + 1) 0 (Array.replicate l.length false)).setIfInBounds (m + 1) true = marked (m + 2) 0 (Array.replicate l.length false))
  (hmkb : ((marked m 0 (Array.replicate l.length false)).setIfInBounds (m + 1) true).setIfInBounds m true = marked (m + 2) 0 (Array.replicate l.length false))
  (hmk2 : (marked (m + 2) 0 (Array.replicate l.length false)).setIfInBounds (m + 2) true = marked (m + 3) 0 (Array.replicate l.length false))
  (hmkc : (((marked m 0 (Array.replicate l.length false)).setIfInBounds (m + 1) true).setIfInBounds (m + 2) true).setIfInBounds m true = marked (m + 3) 0 (Array.replicate l.length false))
  (hmk3 : (marked (m + 3) 0 (Array.replicate l.length false)).setIfInBounds (m + 3) true = marked (m + 4) 0 (Array.replicate l.length false))
  (hz : ∀ W,(Instr.alloc ty true (.tuple #[])).run P W = .ok (ptrTo W.heap.size) (W.alloc (.cells zs t)))
  (hxv : ∀ W,(execOp a.eval ox).run P W = .ok (.value vx) W) (hxv2 : ∀ g W,(execOp (a.put (some d) (ptrTo g)).eval ox).run P W = .ok (.value vx) W)
  (hx : ∀ g,(a.put (some d) (ptrTo g)).eval (.tmp d) = ptrTo g) (hx2 : ∀ g,((a.put (some dx) vx).put (some d) (ptrTo g)).eval (.tmp d) = ptrTo g)
  (hy : ∀ g,(a.put (some d) (ptrTo g)).eval y = .agg cells) (hy2 : ∀ g,((a.put (some dx) vx).put (some d) (ptrTo g)).eval y = .agg cells) (hze : ∀ g,((a.put (some dx) vx).put (some d) (ptrTo g)).eval z = v)
  (hi : (P.info? ty).map (·.size) = some cells.size) (hold : zs.size = cells.size) (h1 : cells.all (·.oneCell') = true)
  (h : ∀ g W,w.heap.size ≤ g → W.heap[g]? = some (.cells cells t (0,0)) → Ext w W → Q .normal (((a.put (some dx) vx).put (some d) (ptrTo g)).put (some de) v) W) : Rest P l Q m (m + 2) a w:=by
 have comm : ∀ g,(a.put (some d) (ptrTo g)).put (some dx) vx = (a.put (some dx) vx).put (some d) (ptrTo g):=fun g => (Act.put_comm a vx (ptrTo g) (by simpa using hne.symm)).symm
 -- the assign,at last
 have fin : ∀ (f : Nat) (g : Nat) (W : World),w.heap.size ≤ g → W.heap[g]? = some (.cells cells t (0,0)) → Ext w W → wpG P .any l.toArray Q (m + 2) (f + 1) (marked (m + 3) 0 (Array.replicate l.length false)) ((a.put (some dx) vx).put (some d) (ptrTo g)) W:=fun f g W hg' hb hE => by
  refine ⟨fun h0 => (by rw [hr3] at h0; cases h0),fun j hj W3 hW3 => ?_⟩
  rw [hr3] at hj
  obtain rfl : j = m + 3:=by simpa using hj
  refine zek (v:=v) hoe hge (by unfold execOp; simp only [hoe2,hze,Sem.run_pure]) ⟨fun h0 => by omega,?_⟩
  rw [hmk3,hde]
  cases f with
  | zero => exact ⟨hr4,fun W4 hW4 => h g W4 hg' ((hW3.trans hW4).block hb) (hE.trans (hW3.trans hW4))⟩
  | succ f => exact ⟨fun _ W4 hW4 => h g W4 hg' ((hW3.trans hW4).block hb) (hE.trans (hW3.trans hW4)),fun j hj => by rw [hr4] at hj; cases hj⟩
 unfold Rest
 rw [show l.length - m = 0 + 1 + 1 + 1 + 1 by omega]
 refine ⟨fun h0 => (by rw [hr] at h0; cases h0),fun i hi' W hW => ?_⟩
 rw [hr] at hi'
 obtain rfl | rfl : i = m ∨ i = m + 1:=by simpa using hi'
 ·
  -- the result first
  refine zek hox hgx (hxv W) ⟨fun _ => Ext.refl _,?_⟩
  rw [hmk,hdx]
  refine ⟨fun h0 => (by rw [hr1] at h0; cases h0),fun j hj W1 hW1 => ?_⟩
  rw [hr1] at hj
  obtain rfl : j = i + 1:=by simpa using hj
  refine zbd hoa hga (zbv hoa2 hz ⟨fun _ => Ext.alloc _ _,?_⟩)
  rw [hmk1,hda]
  refine ⟨fun h0 => (by rw [hr2] at h0; cases h0),fun j hj W2 hW2 => ?_⟩
  rw [hr2] at hj
  obtain rfl : j = i + 2:=by simpa using hj
  refine zbd hos hg (wp_store_row ty _ y ho W1.heap.size cells (hx2 _) (hy2 _) t zs (hW2.block (zbm _ _)) hi hold h1 ⟨fun h0 => absurd h0 (Nat.lt_irrefl _),?_⟩)
  rw [hmk2,hd]
  exact fin _ _ _ (Nat.le_trans (Below.size hW) (Below.size hW1)) (setRow_heap W2 _ zs cells t (0,0) (hW2.block (zbm _ _))) (zci ((hW.trans hW1).trans ((Ext.alloc _ _).trans hW2)) (Nat.le_trans (Below.size hW) (Below.size hW1)) cells)
 ·
  -- the variable first
  refine zbd hoa hga (zbv hoa2 hz ⟨fun _ => Ext.alloc _ _,?_⟩)
  rw [hda]
  refine ⟨fun h0 => (by rw [hrb] at h0; cases h0),fun j hj W1 hW1 => ?_⟩
  rw [hrb] at hj
  obtain rfl | rfl : j = m ∨ j = m + 2:=by simpa using hj
  ·
   refine zek hox hgx (hxv2 _ W1) ⟨fun _ => Ext.refl _,?_⟩
   rw [hmkb,hdx,comm]
   refine ⟨fun h0 => (by rw [hr2] at h0; cases h0),fun k hk W2 hW2 => ?_⟩
   rw [hr2] at hk
   obtain rfl : k = j + 2:=by simpa using hk
   refine zbd hos hg (wp_store_row ty _ y ho W.heap.size cells (hx2 _) (hy2 _) t zs ((hW1.trans hW2).block (zbm _ _)) hi hold h1 ⟨fun h0 => absurd h0 (Nat.lt_irrefl _),?_⟩)
   rw [hmk2,hd]
   exact fin _ _ _ (Below.size hW) (setRow_heap W2 _ zs cells t (0,0) ((hW1.trans hW2).block (zbm _ _))) (zci (hW.trans ((Ext.alloc _ _).trans (hW1.trans hW2))) (Below.size hW) cells)
  ·
   refine zbd hos hg (wp_store_row ty _ y ho W.heap.size cells (hx _) (hy _) t zs (hW1.block (zbm _ _)) hi hold h1 ⟨fun h0 => absurd h0 (Nat.lt_irrefl _),?_⟩)
   rw [hd]
   have hb2:=setRow_heap W1 W.heap.size zs cells t (0,0) (hW1.block (zbm _ _))
   have hE2 : Ext w (W1.setRow W.heap.size cells):=zci (hW.trans ((Ext.alloc _ _).trans hW1)) (Below.size hW) cells
   refine ⟨fun h0 => (by rw [hrc] at h0; cases h0),fun k hk W2 hW2 => ?_⟩
   rw [hrc] at hk
   obtain rfl : k = m:=by simpa using hk
   refine zek hox hgx (hxv2 _ W2) ⟨fun _ => Ext.refl _,?_⟩
   rw [hmkc,hdx]
   show wpG P .any l.toArray Q (k + 2) (0 + 1) _ ((a.put (some d) (ptrTo W.heap.size)).put (some dx) vx) W2
   rw [comm]
   exact fin _ _ _ (Below.size hW) (hW2.block hb2) (hE2.trans hW2)
theorem made_index {o : Oper} {ty e : TypeId} {x k : Operand} {g n cap i sz : Nat} (ho : o.op = .indexAddr ty x k) (hx : a.eval x = .slice (some ⟨g,0,none⟩) n cap) (hk : a.eval k = .int .i64 (i : Int)) (hi : i < n) (hu : P.underlying ty = some (.slice e)) (hs : (P.info? e).map (·.size) = some sz) : Made P o (.pointer (some ⟨g,i * sz,none⟩)) a w:=zce fun W _ => by
 obtain ⟨inf,h1,h2⟩ : ∃ inf,P.info? e = some inf ∧ inf.size = sz:=by
  cases h : P.info? e with
  | none => simp [h] at hs
  | some inf => exact ⟨inf,rfl,by simpa [h] using hs⟩
 unfold execOp
 simp only [ho,hx,hk]
 simp [Instr.indexAt,asIntOf,run_underlying hu,sizeOf,typeInfo,h1,h2,hi,Result.andThen_ok,Addr.add_mid]
end
end Go.Proofs.YtmfjigcdhijkjaaDoor
namespace Go.Proofs.YtmfjigcdhijkjaaDoor
def rot (x n : Nat) : Nat:=x / 2 ^ n + 2 ^ (32 - n) * (x % 2 ^ n)
theorem zdb {x n : Nat} (hn : n ≤ 32) (hx : x < 2 ^ 32) : rot x n < 2 ^ 32:=by
 have hp : 0 < 2 ^ n:=Nat.pow_pos (by omega)
 have e : 2 ^ 32 = 2 ^ (32 - n) * 2 ^ n:=by rw [← Nat.pow_add]; congr 1; omega
 have hq : x / 2 ^ n < 2 ^ (32 - n):=by rw [Nat.div_lt_iff_lt_mul hp,← e]; exact hx
 have hr:=Nat.mod_lt x hp
 unfold rot
 rw [e]
 have : 2 ^ (32 - n) * (x % 2 ^ n + 1) ≤ 2 ^ (32 - n) * 2 ^ n:=Nat.mul_le_mul_left _ hr
 rw [Nat.mul_add] at this
 omega
end Go.Proofs.YtmfjigcdhijkjaaDoor
namespace Go.Proofs.YtmfjigcdhijkjaaDoor
def kList : List Nat:=[1116352408,1899447441,3049323471,3921009573,961987163,1508970993,2453635748,2870763221,3624381080,310598401,607225278,1426881987,1925078388,2162078206,2614888103,3248222580,3835390401,4022224774,264347078,604807628,770255983,1249150122,1555081692,1996064986,2554220882,2821834349,2952996808,3210313671,3336571891,3584528711,113926993,338241895,666307205,773529912,1294757372,1396182291,1695183700,1986661051,2177026350,2456956037,2730485921,2820302411,3259730800,3345764771,3516065817,3600352804,4094571909,275423344,430227734,506948616,659060556,883997877,958139571,1322822218,1537002063,1747873779,1955562222,2024104815,2227730452,2361852424,2428436474,2756734187,3204031479,3329325298]
def kc (t : Nat) : Nat:=kList.getD t 0
def ad (x y : Nat) : Nat:=(x + y) % 4294967296
def sg0 (x : Nat) : Nat:=rot x 7 ^^^ rot x 18 ^^^ (x / 2 ^ 3)
def sg1 (x : Nat) : Nat:=rot x 17 ^^^ rot x 19 ^^^ (x / 2 ^ 10)
def bs0 (x : Nat) : Nat:=rot x 2 ^^^ rot x 13 ^^^ rot x 22
def bs1 (x : Nat) : Nat:=rot x 6 ^^^ rot x 11 ^^^ rot x 25
def chN (x y z : Nat) : Nat:=(x &&& y) ^^^ ((4294967295 - x) &&& z)
def majN (x y z : Nat) : Nat:=(x &&& y) ^^^ (x &&& z) ^^^ (y &&& z)
theorem getD_lo (l r : List Nat) {t : Nat} (h : t < l.length) : (l ++ r).getD t 0 = l.getD t 0:=by simp [List.getD,List.getElem?_append_left h]
theorem getD_at (l : List Nat) (x : Nat) {t : Nat} (h : l.length = t) : (l ++ [x]).getD t 0 = x:=by subst h; simp [List.getD]
def sched (m : Nat → Nat) : Nat → List Nat
 | 0 => []
 | t + 1 => let l:=sched m t
  l ++ [if t < 16 then m t else ad (ad (ad (sg1 (l.getD (t - 2) 0)) (l.getD (t - 7) 0)) (sg0 (l.getD (t - 15) 0))) (l.getD (t - 16) 0)]
theorem zgd (m : Nat → Nat) : ∀ t,(sched m t).length = t
 | 0 => rfl
 | t + 1 => by simp [sched,zgd m t]
def wt (m : Nat → Nat) (t : Nat) : Nat:=(sched m (t + 1)).getD t 0
theorem zem (m : Nat → Nat) (t : Nat) : ∀ n,t < n → (sched m n).getD t 0 = wt m t
 | 0,h => by omega
 | n + 1,h => by
  by_cases e : t = n
  ·
   subst e; rfl
  ·
   have ih:=zem m t n (by omega)
   rw [← ih]
   show (sched m n ++ _).getD t 0 = _
   rw [getD_lo _ _ (by rw [zgd]; omega)]
theorem wt_lo (m : Nat → Nat) {t : Nat} (h : t < 16) : wt m t = m t:=by
 unfold wt
 show (sched m t ++ _).getD t 0 = _
 rw [getD_at _ _ (zgd m t),if_pos h]
theorem wt_hi (m : Nat → Nat) {t : Nat} (h : ¬ t < 16) : wt m t = ad (ad (ad (sg1 (wt m (t - 2))) (wt m (t - 7))) (sg0 (wt m (t - 15)))) (wt m (t - 16)):=by
 conv => lhs; unfold wt
 show (sched m t ++ _).getD t 0 = _
 rw [getD_at _ _ (zgd m t),if_neg h,zem m _ t (by omega),zem m _ t (by omega),zem m _ t (by omega),zem m _ t (by omega)]
structure St where
 a : Nat
 b : Nat
 c : Nat
 d : Nat
 e : Nat
 f : Nat
 g : Nat
 h : Nat
def t1N (s : St) (k w : Nat) : Nat:=ad (ad (ad (ad s.h (bs1 s.e)) (chN s.e s.f s.g)) k) w
def t2N (s : St) : Nat:=ad (bs0 s.a) (majN s.a s.b s.c)
def stepN (s : St) (k w : Nat) : St:=⟨ad (t1N s k w) (t2N s),s.a,s.b,s.c,ad s.d (t1N s k w),s.e,s.f,s.g⟩
def roundsN (m : Nat → Nat) (s : St) : Nat → St
 | 0 => s
 | t + 1 => stepN (roundsN m s t) (kc t) (wt m t)
def addSt (x y : St) : St:=⟨ad x.a y.a,ad x.b y.b,ad x.c y.c,ad x.d y.d,ad x.e y.e,ad x.f y.f,ad x.g y.g,ad x.h y.h⟩
def blockN (m : Nat → Nat) (s : St) : St:=addSt s (roundsN m s 64)
def word (text : Nat → Nat) (i : Nat) : Nat:=text i * 16777216 + text (i + 1) * 65536 + text (i + 2) * 256 + text (i + 3)
def blocksN (text : Nat → Nat) : Nat → St
 | 0 => ⟨1779033703,3144134277,1013904242,2773480762,1359893119,2600822924,528734635,1541459225⟩
 | n + 1 => blockN (fun t => word text (64 * n + 4 * t)) (blocksN text n)
def nBlocks (len : Nat) : Nat:=(len + 9 + 63) / 64
def padded (b : Nat → Nat) (len : Nat) : Nat → Nat:=fun i =>
 if i < len then b i else if i = len then 128 else if i < 64 * nBlocks len - 8 then 0 else 8 * len / 256 ^ (64 * nBlocks len - 1 - i) % 256
def shaSt (b : Nat → Nat) (len : Nat) : St:=blocksN (padded b len) (nBlocks len)
end Go.Proofs.YtmfjigcdhijkjaaDoor
namespace Go.Proofs.YtmfjigcdhijkjaaDoor
theorem wrap32 (n : Int) : IntKind.u32.wrap n = n % 4294967296:=by simp [IntKind.wrap,IntKind.signed,IntKind.bits]
section
variable (a b : Nat) (ha : a < 4294967296) (hb : b < 4294967296)
include ha hb
theorem ofInt32 : (BitVec.ofInt 32 (a : Int)).toNat = a ∧ (BitVec.ofInt 32 (b : Int)).toNat = b:=by
 constructor <;> (rw [BitVec.ofInt_natCast,BitVec.toNat_ofNat]; exact Nat.mod_eq_of_lt (by omega))
theorem and32 : bits .and .u32 (a : Int) (b : Int) = ((a &&& b : Nat) : Int):=by
 have hx : a &&& b < 2 ^ 32:=Nat.and_lt_two_pow _ (by omega)
 show IntKind.u32.wrap ((BitVec.ofInt 32 (a : Int) &&& BitVec.ofInt 32 (b : Int)).toNat : Int) = _
 rw [BitVec.toNat_and,(ofInt32 a b ha hb).1,(ofInt32 a b ha hb).2,wrap32]
 omega
theorem or32 : bits .or .u32 (a : Int) (b : Int) = ((a ||| b : Nat) : Int):=by
 have hx : a ||| b < 2 ^ 32:=Nat.or_lt_two_pow (by omega) (by omega)
 show IntKind.u32.wrap ((BitVec.ofInt 32 (a : Int) ||| BitVec.ofInt 32 (b : Int)).toNat : Int) = _
 rw [BitVec.toNat_or,(ofInt32 a b ha hb).1,(ofInt32 a b ha hb).2,wrap32]
 omega
theorem xor32 : bits .xor .u32 (a : Int) (b : Int) = ((a ^^^ b : Nat) : Int):=by
 have hx : a ^^^ b < 2 ^ 32:=Nat.xor_lt_two_pow (by omega) (by omega)
 show IntKind.u32.wrap ((BitVec.ofInt 32 (a : Int) ^^^ BitVec.ofInt 32 (b : Int)).toNat : Int) = _
 rw [BitVec.toNat_xor,(ofInt32 a b ha hb).1,(ofInt32 a b ha hb).2,wrap32]
 omega
end
theorem not_bit {x : Nat} (hx : x < 2 ^ 32) (i : Nat) : (4294967295 - x).testBit i = (decide (i < 32) && !x.testBit i):=by
 have h:=Nat.testBit_two_pow_sub_succ hx i
 rwa [show 2 ^ 32 - (x + 1) = 4294967295 - x by omega] at h
theorem rot_or {x n : Nat} (hn : n ≤ 32) (hx : x < 2 ^ 32) : rot x n = (x / 2 ^ n) ||| (x * 2 ^ (32 - n) % 2 ^ 32):=by
 have hp : 0 < 2 ^ n:=Nat.pow_pos (by omega)
 have e : 2 ^ 32 = 2 ^ (32 - n) * 2 ^ n:=by rw [← Nat.pow_add]; congr 1; omega
 have hq : x / 2 ^ n < 2 ^ (32 - n):=by rw [Nat.div_lt_iff_lt_mul hp,← e]; exact hx
 have h1 : x * 2 ^ (32 - n) % 2 ^ 32 = 2 ^ (32 - n) * (x % 2 ^ n):=by rw [e,Nat.mul_comm x,Nat.mul_mod_mul_left]
 rw [h1,Nat.or_comm,← Nat.two_pow_add_eq_or_of_lt hq]
 unfold rot
 omega
/-! ### all is below 2^32 -/
theorem ad_lt (x y : Nat) : ad x y < 2 ^ 32:=Nat.mod_lt _ (by decide)
theorem shr_lt {x : Nat} (n : Nat) (hx : x < 2 ^ 32) : x / 2 ^ n < 2 ^ 32:=Nat.lt_of_le_of_lt (Nat.div_le_self _ _) hx
theorem wt_lt {m : Nat → Nat} (hm : ∀ t,t < 16 → m t < 2 ^ 32) (t : Nat) : wt m t < 2 ^ 32:=by
 by_cases h : t < 16
 ·
  rw [wt_lo m h]; exact hm t h
 ·
  rw [wt_hi m h]; exact ad_lt _ _
structure St.Ok (s : St) : Prop where
 a : s.a < 2 ^ 32
 b : s.b < 2 ^ 32
 c : s.c < 2 ^ 32
 d : s.d < 2 ^ 32
 e : s.e < 2 ^ 32
 f : s.f < 2 ^ 32
 g : s.g < 2 ^ 32
 h : s.h < 2 ^ 32
theorem stepN_ok {s : St} (h : s.Ok) (k w : Nat) : (stepN s k w).Ok:=⟨ad_lt _ _,h.a,h.b,h.c,ad_lt _ _,h.e,h.f,h.g⟩
theorem roundsN_ok {m : Nat → Nat} {s : St} (h : s.Ok) : ∀ t,(roundsN m s t).Ok
 | 0 => h
 | t + 1 => stepN_ok (roundsN_ok h t) _ _
theorem blockN_ok (m : Nat → Nat) (s : St) : (blockN m s).Ok:=⟨ad_lt _ _,ad_lt _ _,ad_lt _ _,ad_lt _ _,ad_lt _ _,ad_lt _ _,ad_lt _ _,ad_lt _ _⟩
theorem blocksN_ok (text : Nat → Nat) : ∀ n,(blocksN text n).Ok
 | 0 => by constructor <;> (show _ < _; simp [blocksN])
 | n + 1 => blockN_ok _ _
theorem zey {f g : Nat → Nat} : ∀ n,(∀ i,i < 64 * n → f i = g i) → blocksN f n = blocksN g n
 | 0,_ => rfl
 | n + 1,h => by
  have ih:=zey n fun i hi => h i (by omega)
  have hw : ∀ t,t < 16 → word f (64 * n + 4 * t) = word g (64 * n + 4 * t):=by
   intro t ht
   unfold word
   rw [h _ (by omega),h _ (by omega),h _ (by omega),h _ (by omega)]
  have hs : ∀ k,sched (fun t => word f (64 * n + 4 * t)) k = sched (fun t => word g (64 * n + 4 * t)) k:=by
   intro k
   induction k with
   | zero => simp only [sched]
   | succ k ihk =>
    simp only [sched]
    rw [ihk]
    by_cases hk : k < 16
    ·
     simp only [if_pos hk]; rw [hw k hk]
    ·
     simp only [if_neg hk]
  have hr : ∀ s k,roundsN (fun t => word f (64 * n + 4 * t)) s k = roundsN (fun t => word g (64 * n + 4 * t)) s k:=by
   intro s k
   induction k with
   | zero => simp only [roundsN]
   | succ k ihk =>
    simp only [roundsN]
    rw [ihk]; unfold wt; rw [hs]
  simp only [blocksN]
  rw [ih]; unfold blockN; rw [hr]
end Go.Proofs.YtmfjigcdhijkjaaDoor
namespace Go.Proofs.YtmfjigcdhijkjaaDoor
open Go.RowKit
open Go.Act renaming put → aP
open List renaming setIfInBounds_toArray → lA, set_cons_zero → lZ, set_cons_succ → lS
def St.at (s : St) (j : Nat) : Nat:=match j with | 0 => s.a | 1 => s.b | 2 => s.c | 3 => s.d | 4 => s.e | 5 => s.f | 6 => s.g | _ => s.h
def hcells (s : St) (blk : Nat → Nat) (len : Nat) : Nat → Value:=fun j => if j < 8 then .int .u32 (s.at j : Nat) else if j < 72 then .int .u8 (blk (j - 8) : Nat) else .int .i64 (len : Int)
def HRow (w : World) (g : Nat) (s : St) (blk : Nat → Nat) (len : Nat) : Prop:=w.rowIs g 114 73 (hcells s blk len)
section
variable {w w' : World} {g B len : Nat} {s : St} {blk : Nat → Nat}
theorem HRow.lt (h : HRow w g s blk len) : g < w.heap.size:=World.rowIs.lt h
theorem HRow.below (h : HRow w g s blk len) (hb : Below B w w') (hlt : g < B) : HRow w' g s blk len:=zak h hb hlt
theorem HRow.call (h : HRow w g s blk len) (hb : Below w.heap.size w w') : HRow w' g s blk len:=zak h hb h.lt
theorem HRow.alloc (h : HRow w g s blk len) (o : Obj) : HRow (w.alloc o) g s blk len:=World.rowIs.alloc h o
theorem HRow.drew (h : HRow w g s blk len) : HRow w.drew g s blk len:=h
theorem HRow.drewN (h : HRow w g s blk len) (k : Nat) : HRow (w.drewN k) g s blk len:=h
theorem HRow.of_block (h : HRow w g s blk len) (e : w'.heap[g]? = w.heap[g]?) : HRow w' g s blk len:=World.rowIs.of_block h e
theorem HRow.state (h : HRow w g s blk len) {j : Nat} (hj : j < 8) : w.cell? ⟨g,j,none⟩ = some (.int .u32 (s.at j : Nat)):=by
 rw [World.rowIs.cell h (show j < 73 by omega),hcells,if_pos hj]
theorem HRow.byte (h : HRow w g s blk len) {j : Nat} (hj : j < 64) : w.cell? ⟨g,8 + j,none⟩ = some (.int .u8 (blk j : Nat)):=by
 rw [World.rowIs.cell h (show 8 + j < 73 by omega),hcells,if_neg (by omega),if_pos (by omega),show 8 + j - 8 = j by omega]
theorem HRow.length (h : HRow w g s blk len) : w.cell? ⟨g,72,none⟩ = some (.int .i64 (len : Int)):=by
 rw [World.rowIs.cell h (show 72 < 73 by omega),hcells,if_neg (by omega),if_neg (by omega)]
theorem HRow.block (h : HRow w g s blk len) : w.rangeAt g 8 ((List.range 64).map fun j => Value.int .u8 (blk j : Nat)):=by
 intro j v hv
 have hj : j < 64:=by simpa using (List.getElem?_eq_some_iff.1 hv).1
 rw [h.byte hj,← hv]
 simp [hj]
theorem HRow.words (h : HRow w g s blk len) : w.rangeAt g 0 ((List.range 8).map fun j => Value.int .u32 (s.at j : Nat)):=by
 intro j v hv
 have hj : j < 8:=by simpa using (List.getElem?_eq_some_iff.1 hv).1
 rw [Nat.zero_add,h.state hj,← hv]
 simp [hj]
end
structure KT (w : World) : Prop where
 lt : 0 < w.heap.size
 cell : ∀ j,j < 64 → w.cell? ⟨0,j,none⟩ = some (.int .u32 (kc j : Nat))
section
variable {w w' : World} {B : Nat}
theorem KT.of_block (h : KT w) (e : w'.heap[0]? = w.heap[0]?) (hs : w.heap.size ≤ w'.heap.size) : KT w' :=
 ⟨Nat.lt_of_lt_of_le h.lt hs,fun j hj => (World.cell?_of_block (w:=w) (a:=⟨0,j,none⟩) e).trans (h.cell j hj)⟩
theorem KT.below (h : KT w) (hb : Below B w w') (hB : 0 < B) : KT w':=h.of_block (hb.block 0 hB) hb.size
theorem KT.call (h : KT w) (hb : Below w.heap.size w w') : KT w':=h.below hb h.lt
theorem KT.alloc (h : KT w) (o : Obj) : KT (w.alloc o):=h.of_block (Below.heap_alloc _ _ _ h.lt) (by simp)
theorem KT.drew (h : KT w) : KT w.drew:=⟨h.lt,h.cell⟩
theorem KT.drewN (h : KT w) (k : Nat) : KT (w.drewN k):=⟨h.lt,h.cell⟩
theorem KT.far {b i : Nat} (h : KT w) (hne : 0 ≠ b) (v : Value) : KT (w.setCell ⟨b,i,none⟩ v):=h.of_block (Below.heap_setCell _ _ _ _ hne) (by simp [World.setCell])
theorem KT.grown {r : Nat} (h : KT w) (hg : w.grownBy w' (some r)) (hne : 0 ≠ r) : KT w':=h.of_block (hg.block 0 h.lt (by simpa using hne)) hg.size
end
theorem veil32 {p : Prop} (h : p) : Hid p:=h
theorem neg_and : ∀ n : Fin 32,n.1 ≠ 0 → bits .and .u64 (IntKind.u64.wrap (-(n.1 : Int))) 31 = 32 - (n.1 : Int):=by decide
theorem rot_bits {x n : Nat} (hx : x < 2 ^ 32) (hn : n < 32) : bits .or .u32 ((x : Int) * 2 ^ (32 - n) % 4294967296) ((x : Int) / 2 ^ (32 - (32 - n))) = ((rot x n : Nat) : Int):=by
 have e : 32 - (32 - n) = n:=by omega
 have e1 : (x : Int) * 2 ^ (32 - n) % 4294967296 = ((x * 2 ^ (32 - n) % 2 ^ 32 : Nat) : Int):=by
  rw [Int.natCast_emod,Int.natCast_mul,Int.natCast_pow]; rfl
 have e2 : (x : Int) / 2 ^ n = ((x / 2 ^ n : Nat) : Int):=by
  rw [Int.natCast_ediv,Int.natCast_pow]; rfl
 rw [e,e1,e2,or32 _ _ (Nat.mod_lt _ (by decide)) (shr_lt n hx),rot_or (by omega) hx,Nat.or_comm]
theorem ret_u32 {a : Int} {b : Nat} (h : a = (b : Int)) : Ending.returned (.int .u32 a) = .returned (.int .u32 (b : Nat)):=by rw [h]
theorem rotl_calls (x n : Nat) (hx : x < 2 ^ 32) (h0 : n ≠ 0) (hn : n < 32) (w : World) :
  Calls Tryd.prog 104 #[.int .u32 (x : Int),.int .i64 (-(n : Int))] w fun e w' => e = .returned (.int .u32 (rot x n : Nat)) ∧ w' = w:=by
 have k1:=neg_and ⟨n,hn⟩ h0
 simp only at k1
 go_enter Tryd.func104,Tryd.ntmps104
 go_wp2
 go_ret
 exact ⟨ret_u32 (rot_bits hx hn),rfl⟩
theorem zcb (x n : Nat) (hx : x < 2 ^ 32) (h0 : n ≠ 0) (hn : n < 32) (w : World) :
  Calls Tryd.prog 101 #[.int .u32 (x : Int),.int .i64 (n : Int)] w fun e w' => e = .returned (.int .u32 (rot x n : Nat)) ∧ w' = w:=by
 go_enter Tryd.func101,Tryd.ntmps101
 go_wp2_with (go_at_call 104; refine (rotl_calls x n hx h0 hn _).mono ?_; rintro e w' ⟨rfl,rfl⟩)
 go_ret
 exact ⟨rfl,rfl⟩
theorem bigOne_calls (x : Nat) (hx : x < 2 ^ 32) (w : World) :
  Calls Tryd.prog 90 #[.int .u32 (x : Int)] w fun e w' => e = .returned (.int .u32 (bs1 x : Nat)) ∧ w' = w:=by
 have k1:=xor32 (rot x 6) (rot x 11) (zdb (by omega) hx) (zdb (by omega) hx)
 have k2:=xor32 (rot x 6 ^^^ rot x 11) (rot x 25) (Nat.xor_lt_two_pow (n:=32) (zdb (by omega) hx) (zdb (by omega) hx)) (zdb (by omega) hx)
 have H1 : Hid (∀ W,Calls Tryd.prog 101 #[.int .u32 (x : Int),.int .i64 6] W fun e w' => e = .returned (.int .u32 (rot x 6 : Nat)) ∧ w' = W):=veil32 (fun W => zcb x 6 hx (by decide) (by decide) W)
 have H2 : Hid (∀ W,Calls Tryd.prog 101 #[.int .u32 (x : Int),.int .i64 11] W fun e w' => e = .returned (.int .u32 (rot x 11 : Nat)) ∧ w' = W):=veil32 (fun W => zcb x 11 hx (by decide) (by decide) W)
 have H3 : Hid (∀ W,Calls Tryd.prog 101 #[.int .u32 (x : Int),.int .i64 25] W fun e w' => e = .returned (.int .u32 (rot x 25 : Nat)) ∧ w' = W):=veil32 (fun W => zcb x 25 hx (by decide) (by decide) W)
 go_enter Tryd.func90,Tryd.ntmps90
 go_wp2_with (go_at_call 101; (first | ((with_reducible refine (H1.out _).mono ?_); rintro e w' ⟨rfl,rfl⟩) | ((with_reducible refine (H2.out _).mono ?_); rintro e w' ⟨rfl,rfl⟩) | ((with_reducible refine (H3.out _).mono ?_); rintro e w' ⟨rfl,rfl⟩)))
 go_ret
 exact ⟨rfl,rfl⟩
theorem bigZero_calls (x : Nat) (hx : x < 2 ^ 32) (w : World) :
  Calls Tryd.prog 92 #[.int .u32 (x : Int)] w fun e w' => e = .returned (.int .u32 (bs0 x : Nat)) ∧ w' = w:=by
 have k1:=xor32 (rot x 2) (rot x 13) (zdb (by omega) hx) (zdb (by omega) hx)
 have k2:=xor32 (rot x 2 ^^^ rot x 13) (rot x 22) (Nat.xor_lt_two_pow (n:=32) (zdb (by omega) hx) (zdb (by omega) hx)) (zdb (by omega) hx)
 have H1 : Hid (∀ W,Calls Tryd.prog 101 #[.int .u32 (x : Int),.int .i64 2] W fun e w' => e = .returned (.int .u32 (rot x 2 : Nat)) ∧ w' = W):=veil32 (fun W => zcb x 2 hx (by decide) (by decide) W)
 have H2 : Hid (∀ W,Calls Tryd.prog 101 #[.int .u32 (x : Int),.int .i64 13] W fun e w' => e = .returned (.int .u32 (rot x 13 : Nat)) ∧ w' = W):=veil32 (fun W => zcb x 13 hx (by decide) (by decide) W)
 have H3 : Hid (∀ W,Calls Tryd.prog 101 #[.int .u32 (x : Int),.int .i64 22] W fun e w' => e = .returned (.int .u32 (rot x 22 : Nat)) ∧ w' = W):=veil32 (fun W => zcb x 22 hx (by decide) (by decide) W)
 go_enter Tryd.func92,Tryd.ntmps92
 go_wp2_with (go_at_call 101; (first | ((with_reducible refine (H1.out _).mono ?_); rintro e w' ⟨rfl,rfl⟩) | ((with_reducible refine (H2.out _).mono ?_); rintro e w' ⟨rfl,rfl⟩) | ((with_reducible refine (H3.out _).mono ?_); rintro e w' ⟨rfl,rfl⟩)))
 go_ret
 exact ⟨rfl,rfl⟩
theorem smallOne_calls (x : Nat) (hx : x < 2 ^ 32) (w : World) :
  Calls Tryd.prog 99 #[.int .u32 (x : Int)] w fun e w' => e = .returned (.int .u32 (sg1 x : Nat)) ∧ w' = w:=by
 obtain ⟨q,hq⟩ : ∃ q,q = x / 2 ^ 10:=⟨_,rfl⟩
 have hql : q < 2 ^ 32:=by rw [hq]; exact shr_lt 10 hx
 have k3 : (x : Int) / 1024 = (q : Int):=by rw [hq,Int.natCast_ediv]; rfl
 have HQ:=veil32 hq
 clear hq
 have k1:=xor32 (rot x 17) (rot x 19) (zdb (by omega) hx) (zdb (by omega) hx)
 have k2:=xor32 (rot x 17 ^^^ rot x 19) (q) (Nat.xor_lt_two_pow (n:=32) (zdb (by omega) hx) (zdb (by omega) hx)) (hql)
 have H1 : Hid (∀ W,Calls Tryd.prog 101 #[.int .u32 (x : Int),.int .i64 17] W fun e w' => e = .returned (.int .u32 (rot x 17 : Nat)) ∧ w' = W):=veil32 (fun W => zcb x 17 hx (by decide) (by decide) W)
 have H2 : Hid (∀ W,Calls Tryd.prog 101 #[.int .u32 (x : Int),.int .i64 19] W fun e w' => e = .returned (.int .u32 (rot x 19 : Nat)) ∧ w' = W):=veil32 (fun W => zcb x 19 hx (by decide) (by decide) W)
 go_enter Tryd.func99,Tryd.ntmps99
 go_wp2_with (go_at_call 101; (first | ((with_reducible refine (H1.out _).mono ?_); rintro e w' ⟨rfl,rfl⟩) | ((with_reducible refine (H2.out _).mono ?_); rintro e w' ⟨rfl,rfl⟩)))
 go_ret
 exact ⟨by unfold sg1; rw [← HQ.out]; rfl,rfl⟩
theorem smallZero_calls (x : Nat) (hx : x < 2 ^ 32) (w : World) :
  Calls Tryd.prog 100 #[.int .u32 (x : Int)] w fun e w' => e = .returned (.int .u32 (sg0 x : Nat)) ∧ w' = w:=by
 obtain ⟨q,hq⟩ : ∃ q,q = x / 2 ^ 3:=⟨_,rfl⟩
 have hql : q < 2 ^ 32:=by rw [hq]; exact shr_lt 3 hx
 have k3 : (x : Int) / 8 = (q : Int):=by rw [hq,Int.natCast_ediv]; rfl
 have HQ:=veil32 hq
 clear hq
 have k1:=xor32 (rot x 7) (rot x 18) (zdb (by omega) hx) (zdb (by omega) hx)
 have k2:=xor32 (rot x 7 ^^^ rot x 18) (q) (Nat.xor_lt_two_pow (n:=32) (zdb (by omega) hx) (zdb (by omega) hx)) (hql)
 have H1 : Hid (∀ W,Calls Tryd.prog 101 #[.int .u32 (x : Int),.int .i64 7] W fun e w' => e = .returned (.int .u32 (rot x 7 : Nat)) ∧ w' = W):=veil32 (fun W => zcb x 7 hx (by decide) (by decide) W)
 have H2 : Hid (∀ W,Calls Tryd.prog 101 #[.int .u32 (x : Int),.int .i64 18] W fun e w' => e = .returned (.int .u32 (rot x 18 : Nat)) ∧ w' = W):=veil32 (fun W => zcb x 18 hx (by decide) (by decide) W)
 go_enter Tryd.func100,Tryd.ntmps100
 go_wp2_with (go_at_call 101; (first | ((with_reducible refine (H1.out _).mono ?_); rintro e w' ⟨rfl,rfl⟩) | ((with_reducible refine (H2.out _).mono ?_); rintro e w' ⟨rfl,rfl⟩)))
 go_ret
 exact ⟨by unfold sg0; rw [← HQ.out]; rfl,rfl⟩
theorem xor_all {x : Nat} (hx : x < 2 ^ 32) : bits .xor .u32 IntKind.u32.max (x : Int) = ((4294967295 - x : Nat) : Int):=by
 have h:=xor32 4294967295 x (by decide) hx
 have e : 4294967295 ^^^ x = 4294967295 - x:=by
  apply Nat.eq_of_testBit_eq
  intro i
  rw [Nat.testBit_xor,not_bit hx,show (4294967295 : Nat) = 2 ^ 32 - 1 from rfl,Nat.testBit_two_pow_sub_one]
  by_cases h : i < 32
  ·
   simp [h]
  ·
   have h32 : 2 ^ 32 ≤ 2 ^ i:=Nat.pow_le_pow_right (by omega) (by omega)
   rw [Nat.testBit_lt_two_pow (Nat.lt_of_lt_of_le hx h32)]
   simp [h]
 rw [e] at h
 exact h
theorem choice_calls (x y z : Nat) (hx : x < 2 ^ 32) (hy : y < 2 ^ 32) (hz : z < 2 ^ 32) (w : World) :
  Calls Tryd.prog 91 #[.int .u32 (x : Int),.int .u32 (y : Int),.int .u32 (z : Int)] w fun e w' => e = .returned (.int .u32 (chN x y z : Nat)) ∧ w' = w:=by
 have k1:=and32 x y hx hy
 have k2:=xor_all hx
 have k3:=and32 (4294967295 - x) z (by omega) hz
 have k4:=xor32 (x &&& y) ((4294967295 - x) &&& z) (Nat.lt_of_le_of_lt Nat.and_le_left hx) (Nat.lt_of_le_of_lt Nat.and_le_left (by omega))
 go_enter Tryd.func91,Tryd.ntmps91
 go_wp2
 go_ret
 exact ⟨rfl,rfl⟩
theorem majority_calls (x y z : Nat) (hx : x < 2 ^ 32) (hy : y < 2 ^ 32) (hz : z < 2 ^ 32) (w : World) :
  Calls Tryd.prog 93 #[.int .u32 (x : Int),.int .u32 (y : Int),.int .u32 (z : Int)] w fun e w' => e = .returned (.int .u32 (majN x y z : Nat)) ∧ w' = w:=by
 have k1:=and32 x y hx hy
 have k2:=and32 x z hx hz
 have k3:=and32 y z hy hz
 have l1 : x &&& y < 2 ^ 32:=Nat.lt_of_le_of_lt Nat.and_le_left hx
 have l2 : x &&& z < 2 ^ 32:=Nat.lt_of_le_of_lt Nat.and_le_left hx
 have l3 : y &&& z < 2 ^ 32:=Nat.lt_of_le_of_lt Nat.and_le_left hy
 have k4:=xor32 (x &&& y) (x &&& z) l1 l2
 have k5:=xor32 ((x &&& y) ^^^ (x &&& z)) (y &&& z) (Nat.xor_lt_two_pow (n:=32) l1 l2) l3
 clear l1 l2 l3 hx hy hz
 go_enter Tryd.func93,Tryd.ntmps93
 go_wp2
 go_ret
 exact ⟨rfl,rfl⟩
theorem info8 : (Tryd.prog.info? 112).map (·.size) = some 64:=by kernel_rfl
theorem info32 : (Tryd.prog.info? 126).map (·.size) = some 64:=by kernel_rfl
theorem zeros64 : (#[.int .u32 0,.int .u32 0,.int .u32 0,.int .u32 0,.int .u32 0,.int .u32 0,.int .u32 0,.int .u32 0,.int .u32 0,.int .u32 0,.int .u32 0,.int .u32 0,.int .u32 0,.int .u32 0,.int .u32 0,.int .u32 0,.int .u32 0,.int .u32 0,.int .u32 0,.int .u32 0,.int .u32 0,.int .u32 0,.int .u32 0,.int .u32 0,.int .u32 0,.int .u32 0,.int .u32 0,.int .u32 0,.int .u32 0,.int .u32 0,.int .u32 0,.int .u32 0,.int .u32 0,.int .u32 0,.int .u32 0,.int .u32 0,.int .u32 0,.int .u32 0,.int .u32 0,.int .u32 0,.int .u32 0,.int .u32 0,.int .u32 0,.int .u32 0,.int .u32 0,.int .u32 0,.int .u32 0,.int .u32 0,.int .u32 0,.int .u32 0,.int .u32 0,.int .u32 0,.int .u32 0,.int .u32 0,.int .u32 0,.int .u32 0,.int .u32 0,.int .u32 0,.int .u32 0,.int .u32 0,.int .u32 0,.int .u32 0,.int .u32 0,.int .u32 0] : Array Value) = arrOf 64 (fun _ => .int .u32 0):=rfl
def pwb (blk : Nat → Nat) (j : Nat) : Nat → Nat
 | 0 => 0
 | m + 1 => pwb blk j m * 256 + blk (4 * j + m)
theorem pwb_lt {blk : Nat → Nat} (h : ∀ j,blk j < 256) (j : Nat) : ∀ m,pwb blk j m < 256 ^ m
 | 0 => by simp [pwb]
 | m + 1 => by
  have ih:=pwb_lt h j m
  have hb:=h (4 * j + m)
  show pwb blk j m * 256 + blk (4 * j + m) < 256 ^ (m + 1)
  rw [Nat.pow_succ]; omega
def pw (blk : Nat → Nat) (k j : Nat) : Nat:=pwb blk j (min (k - 4 * j) 4)
theorem pw_zero (blk : Nat → Nat) (j : Nat) : pw blk 0 j = 0:=by unfold pw; rw [Nat.zero_sub,Nat.zero_min]; rfl
theorem pw_step {blk : Nat → Nat} {k : Nat} (j : Nat) : pw blk (k + 1) j = if j = k / 4 then pw blk k j * 256 + blk k else pw blk k j:=by
 unfold pw
 by_cases h : j = k / 4
 ·
  rw [if_pos h,show min (k + 1 - 4 * j) 4 = min (k - 4 * j) 4 + 1 by omega]
  show pwb blk j _ * 256 + blk (4 * j + _) = _
  rw [show 4 * j + min (k - 4 * j) 4 = k by omega]
 ·
  rw [if_neg h,show min (k + 1 - 4 * j) 4 = min (k - 4 * j) 4 by omega]
theorem pw_lt {blk : Nat → Nat} (h : ∀ j,blk j < 256) (k : Nat) : pw blk k (k / 4) < 16777216:=by
 unfold pw
 have:=pwb_lt h (k / 4) (min (k - 4 * (k / 4)) 4)
 have h2 : 256 ^ min (k - 4 * (k / 4)) 4 ≤ 256 ^ 3:=Nat.pow_le_pow_right (by omega) (by omega)
 have h3 : (256 : Nat) ^ 3 = 16777216:=by decide
 omega
theorem pw_all {blk : Nat → Nat} {j : Nat} (hj : j < 16) : pw blk 64 j = word blk (4 * j):=by
 unfold pw
 rw [show min (64 - 4 * j) 4 = 4 by omega]
 show (((0 * 256 + blk (4 * j + 0)) * 256 + blk (4 * j + 1)) * 256 + blk (4 * j + 2)) * 256 + blk (4 * j + 3) = _
 unfold word
 rw [Nat.add_zero]
 omega
theorem pw_none {blk : Nat → Nat} {j : Nat} (hj : 16 ≤ j) : pw blk 64 j = 0:=by
 unfold pw
 rw [show min (64 - 4 * j) 4 = 0 by omega]; rfl
theorem or_byte {x y : Nat} (hx : x < 16777216) (hy : y < 256) : bits .or .u32 ((x : Int) * 256) (y : Int) = ((x * 256 + y : Nat) : Int):=by
 have h:=or32 (x * 256) y (by omega) (by omega)
 rw [show x * 256 = 2 ^ 8 * x by omega,← Nat.two_pow_add_eq_or_of_lt (show y < 2 ^ 8 by omega)] at h
 rw [show x * 256 = 2 ^ 8 * x by omega,← h]
 rw [Int.natCast_mul,Int.mul_comm]; rfl
theorem words_calls (g : Nat) (s : St) (blk : Nat → Nat) (len : Nat) (hblk : ∀ j,blk j < 256) (w : World) (hH : HRow w g s blk len) :
  Calls Tryd.prog 89 #[.pointer (some ⟨g,0,none⟩)] w fun e w' => e = .returned (.agg (arrOf 64 fun t => .int .u32 (wt (fun t => word blk (4 * t)) t : Nat))) ∧ Below w.heap.size w w':=by
 go_enter Tryd.func89,Tryd.ntmps89
 go_upto_region 2 with (fail)
 rw [zeros64]
 have hN0 : ((w.alloc (.cells (arrOf 64 (fun _ => .int .u32 0)) 126)).alloc (.cells (arrOf 64 (fun _ => .int .u32 0)) 126)).rowIs w.heap.size 126 64 (fun _ => .int .u32 0):=(zcd w 64 126 (fun _ => .int .u32 0) rfl).alloc _
 have hR : ((w.alloc (.cells (arrOf 64 (fun _ => .int .u32 0)) 126)).alloc (.cells (arrOf 64 (fun _ => .int .u32 0)) 126)).rowIs (w.heap.size + 1) 126 64 (fun _ => .int .u32 0):=zcd _ 64 126 (fun _ => .int .u32 0) (by simp)
 have hb : Below w.heap.size w ((w.alloc (.cells (arrOf 64 (fun _ => .int .u32 0)) 126)).alloc (.cells (arrOf 64 (fun _ => .int .u32 0)) 126)):=((Below.refl _ _).alloc (by simp) _).alloc (by simp) _
 have hH1:=(hH.alloc (.cells (arrOf 64 (fun _ => .int .u32 0)) 126)).alloc (.cells (arrOf 64 (fun _ => .int .u32 0)) 126)
 generalize ((w.alloc (.cells (arrOf 64 (fun _ => .int .u32 0)) 126)).alloc (.cells (arrOf 64 (fun _ => .int .u32 0)) 126)) = w1 at *
 have HB:=veil hH1.block
 obtain ⟨B,hB⟩ : ∃ B,B = ((List.range 64).map fun j => Value.int .u8 (blk j : Nat)).toArray:=⟨_,rfl⟩
 have HBB:=veil hB
 clear hB
 go_wp2_with ((with_reducible refine zbw 10 ?_); refine wpList_load_mid rfl 112 _ rfl g 8 rfl ((List.range 64).map fun j => Value.int .u8 (blk j : Nat)) _ HB.out Tryd.underlying112 rfl info8 ?_; rw [← HBB.out])
 go_loopw [11] (fun c wr => ∃ k : Nat,k ≤ 64 ∧ c = .int .i64 k ∧ wr.rowIs (w.heap.size + 1) 126 64 (fun j => .int .u32 (pw blk k j : Nat)) ∧ wr.rowIs w.heap.size 126 64 (fun _ => .int .u32 0) ∧ Below w.heap.size w wr)
  (fun c _ => 64 - (intOf c).toNat)
 case atStart => exact ⟨0,by omega,rfl,hR.congr fun j _ => by rw [pw_zero]; rfl,hN0,hb⟩
 case round =>
  obtain ⟨k,hk,rfl,hR,hN0,hb⟩:=hrel
  by_cases hlt : k < 64
  ·
   have hBk : B[k]? = some (.int .u8 (blk k : Nat)):=by rw [HBB.out]; simp [hlt]
   have hst:=fun j => pw_step (blk:=blk) (k:=k) j
   have hx:=pw_lt hblk k
   have hy:=hblk k
   obtain ⟨q,hq⟩ : ∃ q,q = k / 4:=⟨_,rfl⟩
   rw [← hq] at hst hx
   have hq16 : q < 16:=by omega
   have hqi : (k : Int) / 4 = (q : Int):=by omega
   obtain ⟨x,hxx⟩ : ∃ x,x = pw blk k q:=⟨_,rfl⟩
   obtain ⟨y,hyy⟩ : ∃ y,y = blk k:=⟨_,rfl⟩
   have c1:=hR.cell (show q < 64 by omega)
   have f1:=hR.frozen q
   rw [← hxx] at hx c1
   rw [← hyy] at hy hBk
   have ko:=or_byte hx hy
   have HS:=veil hst
   have HX:=veil hxx
   have HY:=veil hyy
   have HQ:=veil hq
   have kx:=fun W => zdx (P:=Tryd.prog) (t:=112) (cs:=B) (v:=.int .u8 (y : Int)) Tryd.underlying112 (by kernel_rfl) (fun W => run_part_plain (P:=Tryd.prog) W (e:=5) (by kernel_rfl) (xs:=B) (off:=k) hBk) hlt .i64 W
   clear hst hxx hyy hq hBk
   go_wp2
   go_roundw
   case rel =>
    refine ⟨k + 1,by omega,by go_num,(hR.set q _).congr fun j hj => ?_,zbh hN0 (by omega) _,zax hb (by omega) _⟩
    by_cases h : j = q
    ·
     subst h
     rw [if_pos rfl,HS.out,if_pos rfl,← HX.out,← HY.out]
     rfl
    ·
     rw [if_neg h,HS.out,if_neg h]
   case measure => simp [intOf]; omega
  ·
   have e64 : k = 64:=by omega
   have hR:=e64 ▸ hR
   have HK:=veil e64
   have hkf : decide ((k : Int) < 64) = false:=by simp; omega
   clear e64 hlt hk
   have hm : ∀ t,t < 16 → word blk (4 * t) < 2 ^ 32:=fun t _ => by
    unfold word
    have h0:=hblk (4 * t); have h1:=hblk (4 * t + 1); have h2:=hblk (4 * t + 2); have h3:=hblk (4 * t + 3)
    omega
   have hR : wr.rowIs (w.heap.size + 1) 126 64 (fun j => .int .u32 ((if j < 16 then wt (fun t => word blk (4 * t)) j else 0 : Nat) : Int)):=hR.congr fun j _ => by
    by_cases h : j < 16
    ·
     rw [if_pos h,wt_lo _ h,pw_all h]
    ·
     rw [if_neg h,pw_none (by omega)]
   have hW:=fun t => wt_lt (m:=fun t => word blk (4 * t)) hm t
   obtain ⟨m,hm0⟩ : ∃ m,m = fun t => word blk (4 * t):=⟨_,rfl⟩
   rw [← hm0] at hR hW
   have HM0:=veil hm0
   clear hm0
   have HM:=veil hm
   have HW:=veil hW
   have HBL:=veil hblk
   clear hm hW hblk
   go_wp2
   go_loopw [6] (fun c wr => ∃ t : Nat,16 ≤ t ∧ t ≤ 64 ∧ c = .int .i64 t ∧ wr.rowIs (w.heap.size + 1) 126 64 (fun j => .int .u32 ((if j < t then wt m j else 0 : Nat) : Int)) ∧ wr.rowIs w.heap.size 126 64 (fun _ => .int .u32 0) ∧ Below w.heap.size w wr)
    (fun c _ => 64 - (intOf c).toNat)
   case atStart => exact ⟨16,by omega,by omega,rfl,hR,hN0,hb⟩
   case round =>
    obtain ⟨t,ht16,ht,rfl,hR,hN0,hb⟩:=hrel
    by_cases hlt : t < 64
    ·
     obtain ⟨t16,e16⟩ : ∃ t16,t = t16 + 16:=⟨t - 16,by omega⟩
     have cell : ∀ d,0 < d → d ≤ 16 → wr.cell? ⟨w.heap.size + 1,t - d,none⟩ = some (.int .u32 (wt m (t - d) : Nat)):=fun d h0 h1 => by
      rw [hR.cell (show t - d < 64 by omega),if_pos (by omega)]
     have c2:=cell 2 (by omega) (by omega)
     have c7:=cell 7 (by omega) (by omega)
     have c15:=cell 15 (by omega) (by omega)
     have c16:=cell 16 (by omega) (by omega)
     have cT : wr.cell? ⟨w.heap.size + 1,t,none⟩ = some (.int .u32 0):=by
      rw [hR.cell hlt,if_neg (by omega)]; rfl
     have fT:=hR.frozen t
     have hwt:=wt_hi m (show ¬ t < 16 by omega)
     have l2:=HW.out (t - 2)
     have l7:=HW.out (t - 7)
     have l15:=HW.out (t - 15)
     have l16:=HW.out (t - 16)
     obtain ⟨x2,hx2⟩ : ∃ x,x = wt m (t - 2):=⟨_,rfl⟩
     obtain ⟨x7,hx7⟩ : ∃ x,x = wt m (t - 7):=⟨_,rfl⟩
     obtain ⟨x15,hx15⟩ : ∃ x,x = wt m (t - 15):=⟨_,rfl⟩
     obtain ⟨x16,hx16⟩ : ∃ x,x = wt m (t - 16):=⟨_,rfl⟩
     rw [← hx2] at c2 hwt l2
     rw [← hx7] at c7 hwt l7
     rw [← hx15] at c15 hwt l15
     rw [← hx16] at c16 hwt l16
     have i2 : (t : Int) - 2 = ((t - 2 : Nat) : Int):=by omega
     have i7 : (t : Int) - 7 = ((t - 7 : Nat) : Int):=by omega
     have i15 : (t : Int) - 15 = ((t - 15 : Nat) : Int):=by omega
     have i16 : (t : Int) - 16 = ((t - 16 : Nat) : Int):=by omega
     have b2 : t - 2 < 64:=by omega
     have b7 : t - 7 < 64:=by omega
     have b15 : t - 15 < 64:=by omega
     have b16 : t - 16 < 64:=by omega
     generalize t - 2 = t2 at *
     generalize t - 7 = t7 at *
     generalize t - 15 = t15 at *
     generalize t - 16 = t16' at *
     have a1 : ∀ x y : Nat,((x : Int) + (y : Int)) % 4294967296 = ((ad x y : Nat) : Int):=fun x y => by unfold ad; rw [Int.natCast_emod,Int.natCast_add]; rfl
     have a2 : ∀ x y : Nat,IntKind.u32.wrap ((x : Int) + (y : Int)) = ((ad x y : Nat) : Int):=fun x y => by rw [wrap32]; exact a1 x y
     have w2 : IntKind.i64.wrap (t2 : Int) = (t2 : Int):=IntWalk.i64_in _ (by omega)
     have w7 : IntKind.i64.wrap (t7 : Int) = (t7 : Int):=IntWalk.i64_in _ (by omega)
     have w15 : IntKind.i64.wrap (t15 : Int) = (t15 : Int):=IntWalk.i64_in _ (by omega)
     have w16 : IntKind.i64.wrap (t16' : Int) = (t16' : Int):=IntWalk.i64_in _ (by omega)
     have j2 : (t2 : Int) < 64:=by omega
     have j7 : (t7 : Int) < 64:=by omega
     have j15 : (t15 : Int) < 64:=by omega
     have j16 : (t16' : Int) < 64:=by omega
     have jT : (t : Int) < 64:=by omega
     have K1:=veil (fun W => smallOne_calls x2 l2 W)
     have K2:=veil (fun W => smallZero_calls x15 l15 W)
     have HT:=veil hwt
     have HH:=veil (And.intro hx2 (And.intro hx7 (And.intro hx15 hx16)))
     have E16:=veil e16
     clear cell hwt hx2 hx7 hx15 hx16 e16 l2 l15 l7 l16
     go_wp2
     go_still_tail 23,(by kernel_rfl)
     still_call (by first | ((with_reducible refine (K1.out _).mono ?_); rintro e w' ⟨rfl,rfl⟩; exact ⟨rfl,rfl⟩))
     repeat still_step
     still_call (by first | ((with_reducible refine (K2.out _).mono ?_); rintro e w' ⟨rfl,rfl⟩; exact ⟨rfl,rfl⟩))
     repeat still_step
     refine wpStill_nil ?_
     have hR2:=hR.drew
     have hN2:=hN0.drew
     have hb2:=hb.drew
     have cT2 : wr.drew.cell? ⟨w.heap.size + 1,t,none⟩ = some (.int .u32 0):=cT
     have fT2 : wr.drew.frozen? ⟨w.heap.size + 1,t,none⟩ = false:=fT
     change wpList _ _ _ _ _ wr.drew
     generalize wr.drew = w2 at *
     clear c2 c7 c15 c16 cT fT hR hN0 hb
     go_wp2
     go_roundw
     case rel =>
      refine ⟨t + 1,by omega,by omega,by go_num,(hR2.set t _).congr fun j hj => ?_,zbh hN2 (by omega) _,zax hb2 (by omega) _⟩
      by_cases h : j = t
      ·
       subst h
       rw [if_pos rfl,if_pos (by omega),HT.out]
      ·
       rw [if_neg h]
       by_cases h2 : j < t
       ·
        rw [if_pos h2,if_pos (by omega)]
       ·
        rw [if_neg h2,if_neg (by omega)]
     case measure => simp [intOf]; omega
    ·
     have e64 : t = 64:=by omega
     have hR:=e64 ▸ hR
     have hR : wr.rowIs (w.heap.size + 1) 126 64 (fun j => .int .u32 (wt m j : Nat)):=hR.congr fun j hj => by rw [if_pos hj]
     have htf : decide ((t : Int) < 64) = false:=by simp; omega
     clear HM HB HBB e64 hlt ht ht16
     have hA:=veil (blkOf hR)
     have hN:=veil (blkOf hN0)
     obtain ⟨A,hA2⟩ : ∃ A,A = arrOf 64 (fun j => .int .u32 (wt m j : Nat)):=⟨_,rfl⟩
     rw [← hA2] at hA
     have HE:=veil hA2
     have hs : A.size = 64:=by rw [hA2,zbb]
     have h1 : A.all (·.oneCell') = true:=by rw [hA2]; exact zca fun _ _ => rfl
     have h2 : (Tryd.prog.info? 126).map (·.size) = some A.size:=by rw [hs]; exact info32
     have HZ:=veil (And.intro hs (And.intro h1 h2))
     clear hs h1 h2 hA2
     go_wp2_with (first
      | ((with_reducible refine zbw 54 ?_); refine wpList_load_row rfl 126 _ rfl (w.heap.size + 1) rfl 126 A (0,0) _ hA.out Tryd.underlying126 rfl HZ.out.2.2 ?_)
      | ((with_reducible refine zck ?_); refine wpList_store_row rfl 126 _ _ rfl w.heap.size A rfl rfl 126 _ hN.out HZ.out.2.2 (by rw [HZ.out.1,zbb]) HZ.out.2.1 ?_))
     exact bodyPost_ret (results_cell_row rfl _ _ w.heap.size 126 A (0,0) _ rfl (setRow_heap wr w.heap.size _ A 126 (0,0) hN.out) Tryd.underlying126 rfl HZ.out.2.2) rfl ⟨by rw [HE.out,HM0.out],zcy hb (Nat.le_refl _) _⟩
def Own (w : World) (base e : Nat) (v : Value) (n : Nat) (f : Nat → Value) : Prop:=w.ownsRow base e 1 v n ((List.range n).map f)
section
variable {w w' : World} {base e n : Nat} {v : Value} {f h : Nat → Value}
theorem Own.congr (o : Own w base e v n f) (hf : ∀ i,i < n → f i = h i) : Own w base e v n h:=by
 unfold Own at *
 have : (List.range n).map f = (List.range n).map h:=List.map_congr_left fun i hi => hf i (by simpa using hi)
 rw [← this]; exact o
theorem Own.nil (w : World) (base e : Nat) (f : Nat → Value) : Own w base e (.slice none 0 0) 0 f:=World.ownsRow_nil _ _ _ _
theorem Own.made (w : World) {cs : Array Value} {base : Nat} (hb : base ≤ w.heap.size) (hm : cs.size ≤ maxLen) (hf : ∀ i,i < cs.size → cs[i]? = some (f i)) :
  Own (w.alloc (.cells cs e)) base e (.slice (some ⟨w.heap.size,0,none⟩) cs.size cs.size) cs.size f:=by
 refine ⟨by simp,.inr ⟨w.heap.size,cs.size,cs,rfl,hb,heap_alloc_new w _,Nat.le_refl _,hm,by simp,?_⟩⟩
 rw [Nat.mul_one,List.take_of_length_le (by simp)]
 apply List.ext_getElem?
 intro i
 by_cases hi : i < cs.size
 ·
  simp [hi]; have:=hf i hi; simpa [hi] using this
 ·
  simp [hi]
theorem Own.alloc (o : Own w base e v n f) (ob : Obj) : Own (w.alloc ob) base e v n f:=World.ownsRow.alloc o ob
theorem Own.drew (o : Own w base e v n f) : Own w.drew base e v n f:=o
theorem Own.drewN (o : Own w base e v n f) (k : Nat) : Own (w.drewN k) base e v n f:=o
theorem Own.lt (o : Own w base e v n f) {k : Nat} (hk : v.ownBlock = some k) : base ≤ k ∧ k < w.heap.size:=World.ownsRow.lt o k hk
theorem Own.kept {row : Option Nat} (o : Own w base e v n f) (hg : w.grownBy w' row) (hne : v.ownBlock = none ∨ v.ownBlock ≠ row) : Own w' base e v n f:=World.ownsRow.kept o hg hne
theorem Own.below {B : Nat} (o : Own w base e v n f) (hb : Below B w w') (hB : w.heap.size ≤ B) : Own w' base e v n f:=by
 refine ⟨o.1,?_⟩
 rcases o.2 with hn | ⟨g,cap,cur,rfl,hbg,hh,rest⟩
 ·
  exact .inl hn
 ·
  exact .inr ⟨g,cap,cur,rfl,hbg,(hb.block g (by have:=(Array.getElem?_eq_some_iff.1 hh).1; omega)).trans hh,rest⟩
theorem Own.base_le {base' : Nat} (o : Own w base e v n f) (hb : base' ≤ base) : Own w base' e v n f :=
 ⟨o.1,o.2.elim .inl fun ⟨g,cap,cur,hv,hg,r⟩ => .inr ⟨g,cap,cur,hv,Nat.le_trans hb hg,r⟩⟩
theorem Own.pre (o : Own w base e v n f) (hn : 0 < n) : ∃ g cap,v = .slice (some ⟨g,0,none⟩) n cap ∧ n ≤ cap ∧ base ≤ g ∧ Pre w g e n f:=Pre.of_own o hn
end
def From (w : World) (A : Option Addr) (m : Nat) (y : Nat → Value) : Prop:=m = 0 ∨ ∃ ad,A = some ad ∧ ∀ j,j < m → w.cell? (ad.add j) = some (y j)
theorem own_append {P : Program} (w : World) (base t ty e : Nat) (i : TypeInfo) (z : Value) (bytes : Nat) (ht : P.underlying t = some (.slice e)) (hi : P.info? e = some i) (hz : i.zero = some z) (hsize : i.size = 1) (hby : i.bytes = bytes) (hzs : z.cells.size = 1)
  (v : Value) (n : Nat) (f : Nat → Value) (hown : Own w base e v n f) (A : Option Addr) (m c : Nat) (y : Nat → Value) (hs : From w A m y) (h1 : ∀ j,(y j).oneCell' = true)
  (h63 : n + m ≤ maxLen) (hbytes : (n + m) * bytes ≤ 140737488355328) (hbase : base ≤ w.heap.size) :
  ∃ v' w',(Builtin.append_ #[t,t] ty #[v,.slice A m c]).run P w = .ok v' w' ∧ Own w' base e v' (n + m) (fun j => if j < n then f j else y (j - n)) ∧ w.grownBy w' v.ownBlock ∧ (v'.ownBlock = v.ownBlock ∨ v'.ownBlock = some w.heap.size) ∧ (∀ g,v.ownBlock = some g → ∀ j,j < n → w'.cell? ⟨g,j,none⟩ = w.cell? ⟨g,j,none⟩):=by
 have hl : (List.range n).map f ++ (List.range m).map y = (List.range (n + m)).map (fun j => if j < n then f j else y (j - n)):=by
  apply List.ext_getElem?
  intro k
  by_cases h1 : k < n
  ·
   rw [List.getElem?_append_left (by simpa using h1)]; simp [h1,show k < n + m by omega]
  ·
   rw [List.getElem?_append_right (by simpa using Nat.le_of_not_lt h1)]
   by_cases h2 : k < n + m
   ·
    simp [h1,h2,show k - n < m by omega]
   ·
    simp [h2,show ¬ k - n < m by omega]
 rcases A with _ | ad
 ·
  have hm : m = 0:=by
   rcases hs with h | ⟨ad,h,_⟩
   ·
    exact h
   ·
    cases h
  subst hm
  refine ⟨v,w,?_,hown.congr fun j hj => (if_pos hj).symm,World.grownBy.refl w _,.inl rfl,fun _ _ _ _ => rfl⟩
  rcases hown.2 with ⟨rfl,rfl⟩ | ⟨g,cap,cur,rfl,_,_,hnc,_⟩
  ·
   simp [Builtin.append_,run_underlying ht,sizeOf,typeInfo,hi,Builtin.lenOf,Builtin.firstCells]
  ·
   simp [Builtin.append_,run_underlying ht,sizeOf,typeInfo,hi,Builtin.lenOf,Builtin.firstCells,hnc,storeCells]
 ·
  have hc : ∀ j,j < m → w.cell? (ad.add j) = some (y j):=by
   rcases hs with h | ⟨ad',h,hc⟩
   ·
    intro j hj; omega
   ·
    cases h; exact hc
  obtain ⟨v',w',hr,h2,h3,_,h5⟩:=run_append_own_at (P:=P) w base t ty e i z 1 bytes ht hi hz hsize hby hzs (by omega) v n _ hown ad m c ((List.range m).map y) (by simp) (fun j u hu => by
   have hj : j < m:=by have:=(List.getElem?_eq_some_iff.1 hu).1; simpa using this
   rw [hc j hj,← hu]; simp [hj]) (fun u hu => by simp at hu; obtain ⟨j,_,rfl⟩:=hu; exact h1 j) h63 hbytes hbase
  rw [hl] at h2
  refine ⟨v',w',hr,h2,h3,h5,fun g hg j hj => ?_⟩
  have cellAt : ∀ (b k : Nat),(⟨b,0,none⟩ : Addr).add k = ⟨b,k,none⟩:=fun b k => by rw [Addr.add_mid,Nat.zero_add]
  rcases hown.2 with ⟨rfl,_⟩ | ⟨g',cap,cur,rfl,hbg,hgc,hnc,hcm,hcs,htake⟩
  ·
   simp [Value.ownBlock] at hg
  ·
   obtain rfl : g' = g:=by simpa [Value.ownBlock] using hg
   have hold : w.cell? ⟨g',j,none⟩ = some (f j):=by
    rw [← cellAt g' j]
    exact hown.cells (g:=g') rfl j _ (by simp [hj])
   by_cases hroom : n + m ≤ cap
   ·
    have hr2:=run_append_room (P:=P) w t ty e i ht hi g' n cap cur hgc ad m c ((List.range m).map y) (by simp [hsize]) (fun j u hu => by
     have hj : j < m:=by have:=(List.getElem?_eq_some_iff.1 hu).1; simpa using this
     rw [hc j hj,← hu]; simp [hj]) (fun u hu => by simp at hu; obtain ⟨j,_,rfl⟩:=hu; exact h1 j) hroom (by rw [hsize]; simp; omega)
    rw [hr] at hr2
    injection hr2 with hv _
    rw [hold]
    rw [← cellAt g' j]
    rw [World.ownsRow.cells (g:=g') h2 (by rw [hv]; rfl) j (f j) (by simp [hj,show j < n + m by omega])]
   ·
    have hr2:=run_append_grow (P:=P) w t ty e i z ht hi hz ⟨g',0,none⟩ n cap ((List.range n).map f) (by simp [hsize]) (fun j u hu => hown.cells (g:=g') rfl j u hu) ad m c ((List.range m).map y) (by simp [hsize]) (fun j u hu => by
     have hj : j < m:=by have:=(List.getElem?_eq_some_iff.1 hu).1; simpa using this
     rw [hc j hj,← hu]; simp [hj]) (by omega) (by simp only [maxLen] at h63; omega) (growslice_fits (by omega) (by rw [hby]; exact hbytes))
    rw [hr] at hr2
    injection hr2 with _ hw
    rw [hw]
    exact World.cell?_of_block (w:=w) (a:=⟨g',j,none⟩) (Below.heap_alloc w.drew _ g' (Array.getElem?_eq_some_iff.1 hgc).1)
theorem zdg {P : Program} (w : World) {ops : Array Oper} {rest : List Oper} {o : Oper} {a : Act} {Q : Exit → Act → World → Prop} (hgd : o.guard = none) (s x : Operand) (t : TypeId)
  (ho : o.op = .call { callee:=.builtin .append,args:=#[s,x],argTypes:=#[t,t] })
  (base e : Nat) (i : TypeInfo) (z : Value) (bytes : Nat) (ht : P.underlying t = some (.slice e)) (hi : P.info? e = some i) (hz : i.zero = some z) (hsize : i.size = 1) (hby : i.bytes = bytes) (hzs : z.cells.size = 1)
  (v : Value) (n : Nat) (f : Nat → Value) (hs : a.eval s = v) (hown : Own w base e v n f) (A : Option Addr) (m c : Nat) (hx : a.eval x = .slice A m c) (y : Nat → Value) (hsr : From w A m y) (h1 : ∀ j,(y j).oneCell' = true)
  (h63 : n + m ≤ maxLen) (hbytes : (n + m) * bytes ≤ 140737488355328) (hbase : base ≤ w.heap.size)
  (h : ∀ v' w',Own w' base e v' (n + m) (fun j => if j < n then f j else y (j - n)) → w.grownBy w' v.ownBlock → (v'.ownBlock = v.ownBlock ∨ v'.ownBlock = some w.heap.size) → wpList P ops Q rest (a.put o.dst v') w') : wpList P ops Q (o :: rest) a w:=by
 refine wpList_plain hgd fun K hK => ?_
 obtain ⟨v',w',hr,h2,h3,h5,_⟩:=own_append (P:=P) w base t o.type e i z bytes ht hi hz hsize hby hzs v n f hown A m c y hsr h1 h63 hbytes hbase
 unfold Oper.wp execOp
 simp only [ho,resolve,invoke,builtin,Sem.run_bind,Sem.run_pure,Result.andThen_ok,List.map_toArray,List.map_cons,List.map_nil,hs,hx,hr]
 exact hK _ _ (h v' w' h2 h3 h5)
theorem step_append_from {P : Program} (w : World) {ops : Array Oper} {o : Oper} {a : Act} {K : Act → World → Prop} {Q : Exit → Act → World → Prop} {E : Prop} (hgd : o.guard = none) (s x : Operand) (t : TypeId)
  (ho : o.op = .call { callee:=.builtin .append,args:=#[s,x],argTypes:=#[t,t] })
  (base e : Nat) (i : TypeInfo) (z : Value) (bytes : Nat) (ht : P.underlying t = some (.slice e)) (hi : P.info? e = some i) (hz : i.zero = some z) (hsize : i.size = 1) (hby : i.bytes = bytes) (hzs : z.cells.size = 1)
  (v : Value) (n : Nat) (f : Nat → Value) (hs : a.eval s = v) (hown : Own w base e v n f) (A : Option Addr) (m c : Nat) (hx : a.eval x = .slice A m c) (y : Nat → Value) (hsr : From w A m y) (h1 : ∀ j,(y j).oneCell' = true)
  (h63 : n + m ≤ maxLen) (hbytes : (n + m) * bytes ≤ 140737488355328) (hbase : base ≤ w.heap.size)
  (h : ∀ v' w',Own w' base e v' (n + m) (fun j => if j < n then f j else y (j - n)) → w.grownBy w' v.ownBlock → (v'.ownBlock = v.ownBlock ∨ v'.ownBlock = some w.heap.size) → (∀ g,v.ownBlock = some g → ∀ j,j < n → w'.cell? ⟨g,j,none⟩ = w.cell? ⟨g,j,none⟩) → K (a.put o.dst v') w') :
  if Region.wanted o (yielded ops a.tmps) = true then Oper.wp P o a w K Q else E:=by
 have hw : Region.wanted o (yielded ops a.tmps) = true:=by simp [Region.wanted,hgd]
 rw [if_pos hw]
 obtain ⟨v',w',hr,h2,h3,h5,h6⟩:=own_append (P:=P) w base t o.type e i z bytes ht hi hz hsize hby hzs v n f hown A m c y hsr h1 h63 hbytes hbase
 unfold Oper.wp execOp
 simp only [ho,resolve,invoke,builtin,Sem.run_bind,Sem.run_pure,Result.andThen_ok,List.map_toArray,List.map_cons,List.map_nil,hs,hx,hr]
 exact h v' w' h2 h3 h5 h6
theorem zec {B : Nat} {a w w' : World} {row : Option Nat} (h : Below B a w) (hg : w.grownBy w' row) (hB : B ≤ w.heap.size) (hr : ∀ k,row = some k → B ≤ k) : Below B a w':=h.grown hg hB hr
def cutA (A : Option Addr) (m c : Nat) : Option Addr:=if c = m then A else A.map (·.add (m * 1))
theorem cut_from (A : Option Addr) (r c m : Nat) (hm : m ≤ r) (w : World) : (Instr.sliceAt 27 (.slice A r c) (some (.int .i64 (m : Int))) none none).run Tryd.prog w = .ok (.slice (cutA A m c) (r - m) (c - m)) w:=by
 have e2 : ((sizeOf (Tryd.prog.elem 27)).run Tryd.prog w) = .ok 1 w:=by kernel_rfl
 rw [run_sliceAt_slice w 27 _ _ _ _ (by kernel_rfl),run_slice_l w 27 A r c (by kernel_rfl) .i64 (m : Int) (by omega) (by omega),e2]
 simp [sliced,Result.andThen,cutA]
theorem cut_to (A : Option Addr) (r c m : Nat) (hm : m ≤ c) (w : World) : (Instr.sliceAt 27 (.slice A r c) none (some (.int .i64 (m : Int))) none).run Tryd.prog w = .ok (.slice (cutA A 0 c) m c) w:=by
 have e2 : ((sizeOf (Tryd.prog.elem 27)).run Tryd.prog w) = .ok 1 w:=by kernel_rfl
 rw [run_sliceAt_slice w 27 _ _ _ _ (by kernel_rfl),run_slice_h w 27 A r c (by kernel_rfl) .i64 (m : Int) (by omega) (by omega),e2]
 simp [sliced,Result.andThen,cutA]
end Go.Proofs.YtmfjigcdhijkjaaDoor
