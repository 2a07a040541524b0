/-
  Of S0 S3 S4 V0 V1 ArgG.
-/
import Derived.Deep.RegionHeld3
import Derived.Deep.CutRange
import Derived.Deep.CutBlock
import Derived.Deep.RegionLaw
import Derived.ChangeSame
import Derived.Test.YtmfjigcdhijkjaaDoorZB7
import Derived.Test.YtmfjigcdhijkjaaDoorZB9
import Derived.Test.YtmfjigcdhijkjaaDoorZB3
import Derived.Test.YtmfjigcdhijkjaaDoorZB1
import Derived.Test.YtmfjigcdhijkjaaDoorZB5
import Derived.Test.YtmfjigcdhijkjaaDoorZB13
import Derived.Test.YtmfjigcdhijkjaaDoorZB8
import Derived.Test.YtmfjigcdhijkjaaDoorZB14
set_option maxRecDepth 1000000
set_option maxHeartbeats 20000000
namespace Go.Proofs.YtmfjigcdhijkjaaDoor
open Go.RowKit
open Go.Act renaming put → aP
open List renaming setIfInBounds_toArray → lA, set_cons_zero → lZ, set_cons_succ → lS
def gc (r s : Nat) : Array Value:=#[.int .u64 (wd r 0),.int .u64 (wd r 1),.int .u64 (wd r 2),.int .u64 (wd r 3),.int .u64 (wd s 0),.int .u64 (wd s 1),.int .u64 (wd s 2),.int .u64 (wd s 3)]
def gv (r s : Nat) : Value:=.agg (gc r s)
theorem zbu (r s : Nat) : (gc r s).all (·.oneCell') = true:=by simp [gc,Value.oneCell']
theorem iSg (r s : Nat) : (Tryd.prog.info? 26).map (·.size) = some (gc r s).size:=by kernel_rfl
def dgc (y : Nat → Nat) : Array Value:=arrOf 32 fun i => .int .u8 (y i : Nat)
def dgv (y : Nat → Nat) : Value:=.agg (dgc y)
theorem iDg (y : Nat → Nat) : (Tryd.prog.info? 38).map (·.size) = some (dgc y).size:=by
 unfold dgc
 rw [zbb]; exact infoD
section
variable (g : Nat) (W : World)
theorem fldG0 : (Instr.fieldAt 26 (ptrTo g) 0).run Tryd.prog W = .ok (.pointer (some ⟨g,0,none⟩)) W:=by simp [Instr.fieldAt,go_sem]
theorem fldG1 : (Instr.fieldAt 26 (ptrTo g) 1).run Tryd.prog W = .ok (.pointer (some ⟨g,4,none⟩)) W:=by simp [Instr.fieldAt,go_sem]
theorem hzG : (Instr.alloc 26 true (.tuple #[])).run Tryd.prog W = .ok (ptrTo W.heap.size) (W.alloc (.cells #[.int .u64 0,.int .u64 0,.int .u64 0,.int .u64 0,.int .u64 0,.int .u64 0,.int .u64 0,.int .u64 0] 26)):=by simp [Instr.alloc,go_sem]
theorem bldG (r s : Nat) : (Instr.build 26 [(0,nv r),(1,nv s)].toArray).run Tryd.prog W = .ok (gv r s) W:=by simp [Instr.build,go_sem,nv,nc,gv,gc]
theorem bldG0 : (Instr.build 26 [].toArray).run Tryd.prog W = .ok (gv 0 0) W:=by
 obtain ⟨h0,h1,h2,h3⟩:=wd_z
 unfold gv gc
 rw [h0,h1,h2,h3]
 simp [Instr.build,go_sem]
theorem sliceD : (Instr.sliceAt 38 (ptrTo g) none none none).run Tryd.prog W = .ok (.slice (some ⟨g,0,none⟩) 32 32) W:=by kernel_rfl
end
/-! ### points -/
def pv (q : Pt.Q) : Value:=qv (Pt.pX q.1) (Pt.pY q.1) (Pt.pFar q.1)
theorem base_x : Pt.pX Pt.base.1 = Pt.gx ∧ Pt.pY Pt.base.1 = Pt.gy ∧ Pt.pFar Pt.base.1 = false:=by decide +kernel
theorem rmay_is {X : Nat} {r : Bool} (h : mayB X = r) (hX : X < top) (w : World) : Calls Tryd.prog 15 #[nv X] w fun e w' => e = .returned (.bool r) ∧ Ext w w':=by
 subst h; exact may_calls X hX w
/-! ### numbers modulo n -/
theorem nn_1 : 1 < Pt.nn:=Pt.nn_one
theorem nn_pos : 0 < Pt.nn:=Nat.lt_trans Nat.zero_lt_one nn_1
theorem mod_nn {M X : Nat} (h : M = X % Pt.nn) : M < Pt.nn:=by rw [h]; exact Nat.mod_lt _ nn_pos
theorem zdy {M X : Nat} (h : M = X % Pt.nn) : M < top:=Nat.lt_trans (mod_nn h) zcs
theorem mul_top {M X Y : Nat} (h : M = X * Y % Pt.nn) : M < top:=zdy h
theorem inv_nn {t S : Nat} (h : t = Pt.iG Pt.nn S) : t < Pt.nn:=by rw [h]; exact Pt.iG_lt Pt.nn S
theorem zhg {t S : Nat} (h : t = Pt.iG Pt.nn S) : t < top:=Nat.lt_trans (inv_nn h) zcs
theorem zfx {X : Nat} (h : mayB X = true) : X < Pt.nn:=((Pt.inR_iff X).1 h).2
theorem may_ne {X : Nat} (h : mayB X = true) : X ≠ 0:=((Pt.inR_iff X).1 h).1
theorem inR_may (X : Nat) : Pt.inR X = mayB X:=rfl
def pick (D E : Nat) : List Nat → Option (Nat × Nat)
 | [] => none
 | k :: l => if (mayB (Pt.rOf k) && mayB (Pt.sOf D E k)) = true then some (Pt.rOf k,Pt.sOf D E k) else pick D E l
def sigOf (D E : Nat) (xs : List Nat) : Option (Nat × Nat):=if xs.length < 16 then none else pick D E xs
theorem pick_yes {D E k : Nat} {l : List Nat} (h1 : mayB (Pt.rOf k) = true) (h2 : mayB (Pt.sOf D E k) = true) : pick D E (k :: l) = some (Pt.rOf k,Pt.sOf D E k):=by
 show (if _ then _ else _) = _
 rw [h1,h2]; rfl
theorem pick_no {D E k : Nat} {l : List Nat} (h : (mayB (Pt.rOf k) && mayB (Pt.sOf D E k)) = false) : pick D E (k :: l) = pick D E l:=by
 show (if _ then _ else _) = _
 rw [h]; rfl
def sgv : Option (Nat × Nat) → Value
 | none => gv 0 0
 | some (r,s) => gv r s
theorem OwnN.blk {w : World} {base : Nat} {v : Value} {xs : List Nat} (o : OwnN w base v xs) (hn : 0 < xs.length) : ∃ g cap cur,v = .slice (some ⟨g,0,none⟩) xs.length cap ∧ w.heap[g]? = some (.cells cur 24 (0,0)) ∧ ∀ i k,xs[i]? = some k → (cur.toList.drop (i * 4)).take 4 = (nc k).toList:=by
 rcases o.2 with ⟨_,h0⟩ | ⟨g,cap,cur,rfl,hbg,hh,hn,hm,hs,ht⟩
 ·
  omega
 ·
  refine ⟨g,cap,cur,rfl,hh,fun i k hk => ?_⟩
  have hi : i < xs.length:=(List.getElem?_eq_some_iff.1 hk).1
  have h1:=cellsN_at xs i k hk
  rw [← h1,← ht,List.drop_take,List.take_take,show min 4 (xs.length * 4 - i * 4) = 4 by omega]
theorem gc_zero : #[Value.int .u64 0,.int .u64 0,.int .u64 0,.int .u64 0,.int .u64 0,.int .u64 0,.int .u64 0,.int .u64 0] = gc 0 0:=by
 unfold gc
 rw [zeg,zeg,zeg,zeg]
theorem drop_at {xs : List Nat} {i k : Nat} (h : xs[i]? = some k) : xs.drop i = k :: xs.drop (i + 1):=by
 obtain ⟨hi,rfl⟩:=List.getElem?_eq_some_iff.1 h
 exact List.drop_eq_getElem_cons hi
theorem cells_sig : Tryd.prog.cellsOf 26 = 8:=by kernel_rfl
theorem lits_sig (X Y : Nat) (D : Nat) : Tryd.prog.keyLits (D + 3) 26 (gc X Y).toList = some [.int .u64 (wd X 0),.int .u64 (wd X 1),.int .u64 (wd X 2),.int .u64 (wd X 3),.int .u64 (wd Y 0),.int .u64 (wd Y 1),.int .u64 (wd Y 2),.int .u64 (wd Y 3)]:=by
 unfold Program.keyLits gc
 simp [Tryd.underlying26,cells_sig,zdj,lits_num]
theorem eql_sig {X Y X' Y' : Nat} (hX : X < top) (hY : Y < top) (hX' : X' < top) (hY' : Y' < top) (w : World) : (binOp .eql 26 (gv X Y) (gv X' Y')).run Tryd.prog w = .ok (.bool (decide (X = X' ∧ Y = Y'))) w:=by
 unfold gv
 rw [run_eql_struct]
 obtain ⟨r,hr,hiff⟩:=run_equalIn_deep (P:=Tryd.prog) 9990 10 26 (by kernel_rfl) w 10000 10000 (.agg (gc X Y)) (.agg (gc X' Y')) _ _ (by simp [Value.formed,Tryd.underlying26,cells_sig,gc]) (by simp [Value.formed,Tryd.underlying26,cells_sig,gc]) (lits_sig X Y 9997) (lits_sig X' Y' 9997)
 rw [hr,Result.andThen_ok]
 congr 2
 have hd : r = true ↔ (X = X' ∧ Y = Y'):=by
  rw [hiff]
  simp only [List.cons.injEq,Lit.int.injEq,true_and,and_true]
  constructor
  ·
   rintro ⟨a0,a1,a2,a3,b0,b1,b2,b3⟩
   exact ⟨wd_inj hX hX' a0 a1 a2 a3,wd_inj hY hY' b0 b1 b2 b3⟩
  ·
   rintro ⟨rfl,rfl⟩
   exact ⟨rfl,rfl,rfl,rfl,rfl,rfl,rfl,rfl⟩
 cases r with
 | true => exact (decide_eq_true (hd.1 rfl)).symm
 | false => exact (decide_eq_false fun h => by have:=hd.2 h; cases this).symm
theorem eqG {X Y : Nat} (hX : X < top) (hY : Y < top) (W : World) : (binOp .eql 26 (gv X Y) (gv X Y)).run Tryd.prog W = .ok (.bool true) W:=by
 have e:=eql_sig hX hY hX hY W
 rw [decide_eq_true ⟨rfl,rfl⟩] at e
 exact e
theorem gG (X Y X' Y' : Nat) (op : BinOp) (x y : Operand) (W : World) : (eqGuard op 26 x y (gv X Y) (gv X' Y')).run Tryd.prog W = .ok () W:=by
 unfold gv gc
 cases op <;> simp [eqGuard,go_sem]
section
variable {P : Program} {o : Oper} {a : Act} {w : World}
theorem made_eqb {x y : Operand} {t : TypeId} {ty : TypeId} {b : Bool} (ho : o.op = .binOp .eql ty x y t) (hx : a.eval x = .bool b) (hy : a.eval y = .bool b)
  (hg : ∀ b W,(eqGuard .eql ty x y (.bool b) (.bool b)).run P W = .ok () W) (hr : ∀ b W,(binOp .eql ty (.bool b) (.bool b)).run P W = .ok (.bool true) W) : Made P o (.bool true) a w:=zce fun W _ => by
 unfold execOp
 simp only [ho,hx,hy,Sem.run_bind,hg b W,Result.andThen_ok,hr b W,Sem.run_pure]
end
theorem eqbG (x y : Operand) (b : Bool) (W : World) : (eqGuard .eql 4 x y (.bool b) (.bool b)).run Tryd.prog W = .ok () W:=by simp [eqGuard,go_sem]
theorem eqbR (b : Bool) (W : World) : (binOp .eql 4 (.bool b) (.bool b)).run Tryd.prog W = .ok (.bool true) W:=by cases b <;> kernel_rfl
theorem sig_top {D E r s : Nat} {l : List Nat} (h : pick D E l = some (r,s)) : r < top ∧ s < top:=by
 induction l with
 | nil => cases h
 | cons k l ih =>
  unfold pick at h
  split at h
  ·
   injection h with h
   injection h with h1 h2
   rename_i hc
   simp only [Bool.and_eq_true] at hc
   rw [← h1,← h2]
   exact ⟨Nat.lt_trans (zfx hc.1) zcs,Nat.lt_trans (zfx hc.2) zcs⟩
  ·
   exact ih h
theorem sigOf_top {D E r s : Nat} {l : List Nat} (h : sigOf D E l = some (r,s)) : r < top ∧ s < top:=by
 unfold sigOf at h
 split at h
 ·
  cases h
 ·
  exact sig_top h
structure Code7 : Prop where
 up : ∀ w,KT w → Calls Tryd.prog 6 #[] w fun e w' => e = .returned (.bool true) ∧ Ext w w'
 pub_bad : ∀ D w,D < top → mayB D = false → Calls Tryd.prog 11 #[nv D] w fun e w' => e = .returned (.tuple #[qv 0 0 false,.iface 34 (.int .i64 1)]) ∧ Ext w w'
 pub_ok : ∀ D w,mayB D = true → Calls Tryd.prog 11 #[nv D] w fun e w' => e = .returned (.tuple #[pv (Pt.grp.mul D Pt.base),.nilIface]) ∧ Ext w w'
 sign_bad : ∀ D y w,D < top → KT w → mayB D = false → Calls Tryd.prog 12 #[nv D,dgv y] w fun e w' => e = .returned (.tuple #[gv 0 0,.iface 34 (.int .i64 1)]) ∧ Ext w w'
 sign_ok : ∀ D y w,KT w → mayB D = true → (∀ j,y j < 256) → Calls Tryd.prog 12 #[nv D,dgv y] w fun e w' => ∃ s o,Ends D (num32 y % Pt.nn) 16 s ∧ sigOf D (num32 y) (outN D (num32 y % Pt.nn) s) = o ∧ e = .returned (.tuple #[sgv o,if o.isSome then .nilIface else .iface 34 (.int .i64 4)]) ∧ Ext w w'
 chk_no : ∀ X Y f R S y w,X < top → Y < top → R < top → S < top → onB X Y f = false → Calls Tryd.prog 13 #[qv X Y f,dgv y,gv R S] w fun e w' => e = .returned (.bool false) ∧ Ext w w'
 chk_yes : ∀ (p : Pt.Q) R S y w,R < top → S < top → (∀ j,y j < 256) → Calls Tryd.prog 13 #[pv p,dgv y,gv R S] w fun e w' => e = .returned (.bool (Pt.verB p (num32 y) R S)) ∧ Ext w w'
theorem ends_ex (D M many : Nat) : ∃ s,Ends D M many s:=by
 have h : ∀ n,n ≤ 100 → (∃ s,Ends D M many s) ∨ ∀ j,j < n → (outN D M j).length < many:=by
  intro n
  induction n with
  | zero => intro _; exact .inr fun j hj => by omega
  | succ n ih =>
   intro hn
   rcases ih (by omega) with h | h
   ·
    exact .inl h
   ·
    by_cases hl : (outN D M n).length < many
    ·
     exact .inr (pre_more h hl)
    ·
     exact .inl ⟨n,by omega,h,.inr hl⟩
 rcases h 100 (Nat.le_refl _) with h | h
 ·
  exact h
 ·
  exact ⟨100,Nat.le_refl _,h,.inl rfl⟩
section
variable {D s : Nat} {y : Nat → Nat} (hmay : mayB D = true) (hy : ∀ j,y j < 256) (hE : Ends D (num32 y % Pt.nn) 16 s)
include hmay hy hE
end
theorem vpub_is (C : Code7) {D : Nat} {P : Pt.Q} (hP : P = Pt.grp.mul D Pt.base) (hmay : mayB D = true) (w : World) : Calls Tryd.prog 11 #[nv D] w fun e w' => e = .returned (.tuple #[qv (Pt.pX P.1) (Pt.pY P.1) (Pt.pFar P.1),.nilIface]) ∧ Ext w w':=by
 subst hP; exact C.pub_ok D w hmay
section
variable (C : Code7) {D s : Nat} {y : Nat → Nat} (hmay : mayB D = true) (hy : ∀ j,y j < 256) (hE : Ends D (num32 y % Pt.nn) 16 s)
include C hmay hy hE
theorem vsign_none (ho : sigOf D (num32 y) (outN D (num32 y % Pt.nn) s) = none) (w : World) (hK : KT w) : Calls Tryd.prog 12 #[nv D,dgv y] w fun e w' => e = .returned (.tuple #[gv 0 0,.iface 34 (.int .i64 4)]) ∧ Ext w w' :=
 (C.sign_ok D y w hK hmay hy).mono fun e w' ⟨s2,o,h2,ho2,he,hx⟩ => by
  obtain rfl:=h2.same hE
  rw [ho] at ho2
  subst ho2
  exact ⟨he,hx⟩
theorem vsign_some {r z : Nat} (ho : sigOf D (num32 y) (outN D (num32 y % Pt.nn) s) = some (r,z)) (w : World) (hK : KT w) : Calls Tryd.prog 12 #[nv D,dgv y] w fun e w' => e = .returned (.tuple #[gv r z,.nilIface]) ∧ Ext w w' :=
 (C.sign_ok D y w hK hmay hy).mono fun e w' ⟨s2,o,h2,ho2,he,hx⟩ => by
  obtain rfl:=h2.same hE
  rw [ho] at ho2
  subst ho2
  exact ⟨he,hx⟩
end
end Go.Proofs.YtmfjigcdhijkjaaDoor
namespace Go.Proofs.YtmfjigcdhijkjaaDoor
open Go.ChangeShapes Go.WideShapes Go.ChangeAt Go.RowKit
theorem cellsSig : Tryd.prog.cellsOf 26 = 8:=by kernel_rfl
def sigD {H : Type} (X Y : Nat) : DataW H:=.agg [numD X,numD Y]
theorem array8 {cs : Array Value} (h : cs.size = 8) : ∃ c0 c1 c2 c3 c4 c5 c6 c7,cs = #[c0,c1,c2,c3,c4,c5,c6,c7]:=by
 obtain ⟨l⟩:=cs
 match l,h with
 | [c0,c1,c2,c3,c4,c5,c6,c7],_ => exact ⟨c0,c1,c2,c3,c4,c5,c6,c7,rfl⟩
section
variable {H : Type} {enc : TypeId × Value → H}
theorem open_sig {W : World} {base : Nat} {v : Value} {d : DataW H} {p : List MemPlace} (hv : Value.okWide Tryd.prog W .any base 26 v) (h : DataW.Trod enc Tryd.prog W 0 (fun _ => true) true 26 v d p) :
  ∃ X Y,X < top ∧ Y < top ∧ v = gv X Y ∧ d = sigD X Y ∧ p = []:=by
 obtain ⟨cs,rfl,hsz⟩:=okWide_struct Tryd.underlying26 hv
 rw [cellsSig] at hsz
 obtain ⟨c0,c1,c2,c3,c4,c5,c6,c7,rfl⟩:=array8 hsz
 obtain ⟨fuel,hf⟩:=h
 obtain ⟨y0,y1,m,hx,_,hy0,hy1⟩:=trod_struct2 Tryd.underlying26 hf
 have hy0 : DataW.trod enc Tryd.prog W 0 (fun _ => true) true m 24 [c0,c1,c2,c3] = some y0:=by simpa [Value.cells,zdj] using hy0
 have hy1 : DataW.trod enc Tryd.prog W 0 (fun _ => true) true m 24 [c4,c5,c6,c7] = some y1:=by simpa [Value.cells,zdj] using hy1
 obtain ⟨X,lX,rfl,rfl,rfl,rfl,rfl⟩:=zex hy0
 obtain ⟨Y,lY,rfl,rfl,rfl,rfl,rfl⟩:=zex hy1
 simp only [Prod.mk.injEq,List.append_nil] at hx
 obtain ⟨rfl,rfl⟩:=hx
 exact ⟨X,Y,lX,lY,rfl,rfl,rfl⟩
theorem shut_sig (W : World) (base : Nat) (sp : Nat → Bool) (hd : Bool) (X Y : Nat) : DataW.Trod enc Tryd.prog W base sp hd 26 (gv X Y) (sigD X Y) [] :=
 ⟨3,by simp [sigD,gv,gc,numD,DataW.trod,Value.cells,Tryd.underlying26,Tryd.underlying24,Tryd.underlying22,cellsSig,zdj,zgt,wf_wd,show List.range 4 = [0,1,2,3] from rfl]⟩
end
end Go.Proofs.YtmfjigcdhijkjaaDoor
