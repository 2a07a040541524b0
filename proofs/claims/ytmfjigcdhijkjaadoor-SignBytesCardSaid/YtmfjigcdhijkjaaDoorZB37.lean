/-
  Of Y0 Y1 Y6 Y7 W3.
-/
import Derived.Test.YtmfjigcdhijkjaaDoorZB32
import Derived.Test.YtmfjigcdhijkjaaDoorZB22
import Derived.Test.YtmfjigcdhijkjaaDoorZB25
import Derived.Test.YtmfjigcdhijkjaaDoorZB36
import Derived.Test.YtmfjigcdhijkjaaDoorZB15
import Derived.Test.YtmfjigcdhijkjaaDoorZB14
import Derived.Test.YtmfjigcdhijkjaaDoorZB5
import Derived.Test.YtmfjigcdhijkjaaDoorZB12
import Derived.Test.YtmfjigcdhijkjaaDoorZB27
set_option maxRecDepth 1000000
set_option maxHeartbeats 20000000
namespace Go.Proofs.YtmfjigcdhijkjaaDoor
open Go.RowKit
open Go.Act renaming put → aP
open List renaming setIfInBounds_toArray → lA, set_cons_zero → lZ, set_cons_succ → lS
/-! ### the field of n -/
def Fn (w : World) (b : Nat) : Prop:=∃ N Q,Fok Pt.nn N Q ∧ Fb w b Pt.nn N Q
theorem Fn.ext {w w' : World} {b : Nat} (h : Fn w b) (k : Ext w w') : Fn w' b:=by
 obtain ⟨N,Q,h1,h2⟩:=h
 exact ⟨N,Q,h1,h2.call k⟩
theorem Fn.but {w w' : World} {b r : Nat} (h : Fn w b) (k : But r w w') (hne : b ≠ r) : Fn w' b:=by
 obtain ⟨N,Q,h1,h2⟩:=h
 exact ⟨N,Q,h1,World.rowIs.of_block h2 (k.block b h2.lt (fun e => hne (Option.some.inj e)))⟩
section
variable {b : Nat} {w : World}
theorem nadd_p {X Y Z : Nat} (hZ : Z = (X % Pt.nn + Y % Pt.nn) % Pt.nn) (hX : X < top) (hY : Y < top) (hF : Fn w b) : Calls Tryd.prog 67 #[ptrTo b,nv X,nv Y] w fun e w' => e = .returned (nv Z) ∧ Ext w w':=by
 obtain ⟨N,Q,h1,h2⟩:=hF
 exact zga b X Y Pt.nn N Q Z hX hY h1 hZ.symm w h2
theorem ncut_p {X Z : Nat} (hZ : Z = X % Pt.nn) (hX : X < top) (hF : Fn w b) : Calls Tryd.prog 67 #[ptrTo b,nv X,nv 0] w fun e w' => e = .returned (nv Z) ∧ Ext w w' :=
 nadd_p (by rw [hZ,Nat.zero_mod,Nat.add_zero,Nat.mod_mod]) hX zcp hF
theorem nmul_p {X Y Z : Nat} (hZ : Z = X * Y % Pt.nn) (hX : X < top) (hY : Y < top) (hF : Fn w b) : Calls Tryd.prog 33 #[ptrTo b,nv X,nv Y] w fun e w' => e = .returned (nv Z) ∧ Ext w w':=by
 obtain ⟨N,Q,h1,h2⟩:=hF
 exact fmul2_calls b X Y Pt.nn N Q Z hX hY h1 hZ.symm w h2
theorem ninv_p {X t : Nat} (h0 : X ≠ 0) (hX : X < Pt.nn) (ht : t = Pt.iG Pt.nn X) (hF : Fn w b) : Calls Tryd.prog 31 #[ptrTo b,nv X] w fun e w' => e = .returned (.tuple #[nv t,.nilIface]) ∧ Ext w w':=by
 obtain ⟨N,Q,h1,h2⟩:=hF
 refine (zgs b X Pt.nn N Q (Nat.lt_trans hX zcs) h1 w h2).mono ?_
 rintro e w' ⟨⟨y,hy,hi,rfl⟩,hb⟩
 have hg:=Pt.gcd_nn h0 hX
 have e1 : y = t:=by rw [ht]; exact Pt.iG_of Pt.nn Pt.nn_root Pt.nn_one hy (hi hg)
 rw [zgq hg,e1]
 exact ⟨rfl,hb⟩
end
/-! ### a maker -/
def mc (g D E : Nat) : Array Value:=#[ptrTo g,.int .u64 (wd D 0),.int .u64 (wd D 1),.int .u64 (wd D 2),.int .u64 (wd D 3),.int .u64 (wd E 0),.int .u64 (wd E 1),.int .u64 (wd E 2),.int .u64 (wd E 3)]
def mv (g D E : Nat) : Value:=.agg (mc g D E)
theorem mc_one (g D E : Nat) : (mc g D E).all (·.oneCell') = true:=by simp [mc,ptrTo,Value.oneCell']
theorem iMk (g D E : Nat) : (Tryd.prog.info? 65).map (·.size) = some (mc g D E).size:=by kernel_rfl
theorem gz_size (r s : Nat) : (#[.int .u64 0,.int .u64 0,.int .u64 0,.int .u64 0,.int .u64 0,.int .u64 0,.int .u64 0,.int .u64 0] : Array Value).size = (gc r s).size:=by simp [gc]
theorem qz_size (x y : Nat) (f : Bool) : (#[.int .u64 0,.int .u64 0,.int .u64 0,.int .u64 0,.int .u64 0,.int .u64 0,.int .u64 0,.int .u64 0,.bool false] : Array Value).size = (qc x y f).size:=by simp [qc]
theorem gc_size (r s : Nat) : (gc 0 0).size = (gc r s).size:=by simp [gc]
theorem zhf (W : World) : (isAgg 63).run Tryd.prog W = .ok false W:=by simp [isAgg,go_sem]
section
variable (g : Nat) (W : World)
theorem fldM0 : (Instr.fieldAt 65 (ptrTo g) 0).run Tryd.prog W = .ok (.pointer (some ⟨g,0,none⟩)) W:=by simp [Instr.fieldAt,go_sem]
theorem fldM1 : (Instr.fieldAt 65 (ptrTo g) 1).run Tryd.prog W = .ok (.pointer (some ⟨g,1,none⟩)) W:=by simp [Instr.fieldAt,go_sem]
theorem fldM2 : (Instr.fieldAt 65 (ptrTo g) 2).run Tryd.prog W = .ok (.pointer (some ⟨g,5,none⟩)) W:=by simp [Instr.fieldAt,go_sem]
theorem bldM (D E : Nat) : (Instr.build 65 [(0,ptrTo g),(1,nv D),(2,nv E)].toArray).run Tryd.prog W = .ok (mv g D E) W:=by simp [Instr.build,go_sem,nv,nc,mv,mc]
end
theorem zfg {S : World → Prop} {P : Program} {ops : Array Oper} {o : Oper} {a : Act} {ty : TypeId} {parts : List (Nat × Operand)} {vs : List (Nat × Value)} {v : Value} (hw : Region.wanted o (yielded ops a.tmps) = true) (ho : o.op = .build ty parts.toArray) (hx : parts.map (fun p => (p.1,a.eval p.2)) = vs)
  (hb : ∀ W,(Instr.build ty vs.toArray).run P W = .ok v W) : YieldsIf P ops S o v a:=Or.inl ⟨hw,fun W _ => by
 unfold execOp
 simp only [ho,List.map_toArray]
 rw [show (parts.map fun x => match x with | (i,x) => (i,a.eval x)) = vs from hx]
 simp only [Sem.run_bind,hb W,Result.andThen_ok,Sem.run_pure]⟩
theorem yif_pickB {S : World → Prop} {P : Program} {ops : Array Oper} {o : Oper} {a : Act} {c x y : Operand} {b : Bool} {v : Value} (hw : Region.wanted o (yielded ops a.tmps) = true) (ho : o.op = .pick c x y) (hc : a.eval c = .bool b) (hx : (if b then a.eval x else a.eval y) = v) : YieldsIf P ops S o v a:=Or.inl ⟨hw,fun W _ => by
 unfold execOp
 simp only [ho]
 generalize a.eval = ρ at *
 subst hx
 rw [hc]
 cases b <;> simp [go_sem,asBool]⟩
/-! ### what the layers below answer -/
theorem ofl_is {y : Nat → Nat} {X : Nat} (hy : ∀ j,y j < 256) (hX : X = num32 y) {g : Nat} (w : World) (hb : w.heap[g]? = some (.cells (dgc y) 38 (0,0))) : Calls Tryd.prog 21 #[.slice (some ⟨g,0,none⟩) 32 32] w fun e w' => e = .returned (.tuple #[nv X,.nilIface]) ∧ Ext w w':=by
 subst hX
 exact zhb g 0 32 32 y hy (by decide) w (Array.getElem?_eq_some_iff.1 hb).1 (fun j hj => by rw [Nat.zero_add,cell_of_row w g j _ _ _ hb]; exact zcw _ hj)
theorem mulb_is {K : Nat} (hK : K < top) {P : Pt.Q} (hP : P = Pt.grp.mul K Pt.base) (w : World) : Calls Tryd.prog 25 #[nv K,qv Pt.gx Pt.gy false] w fun e w' => e = .returned (.tuple #[qv (Pt.pX P.1) (Pt.pY P.1) (Pt.pFar P.1),.nilIface]) ∧ Ext w w':=by
 subst hP
 have h:=mul_yes K hK Pt.base w
 unfold qvP at h
 rwa [base_x.1,base_x.2.1,base_x.2.2] at h
theorem mulq_is {K X Y : Nat} {f : Bool} (hK : K < top) {p q : Pt.Q} (hp : X = Pt.pX p.1 ∧ Y = Pt.pY p.1 ∧ f = Pt.pFar p.1) (hq : q = Pt.grp.mul K p) (w : World) : Calls Tryd.prog 25 #[nv K,qv X Y f] w fun e w' => e = .returned (.tuple #[qv (Pt.pX q.1) (Pt.pY q.1) (Pt.pFar q.1),.nilIface]) ∧ Ext w w':=by
 obtain ⟨rfl,rfl,rfl⟩:=hp
 subst hq
 exact mul_yes K hK p w
theorem addq_is {a b c : Pt.Q} (hc : c = Pt.grp.op a b) (w : World) : Calls Tryd.prog 64 #[qv (Pt.pX a.1) (Pt.pY a.1) (Pt.pFar a.1),qv (Pt.pX b.1) (Pt.pY b.1) (Pt.pFar b.1)] w fun e w' => e = .returned (.tuple #[qv (Pt.pX c.1) (Pt.pY c.1) (Pt.pFar c.1),.nilIface]) ∧ Ext w w':=by
 subst hc; exact add_yes a b w
theorem onp_is {X Y : Nat} {f r : Bool} (h : onB X Y f = r) (hX : X < top) (hY : Y < top) (w : World) : Calls Tryd.prog 14 #[qv X Y f] w fun e w' => e = .returned (.bool r) ∧ Ext w w':=by
 subst h; exact on_is X Y f hX hY w
theorem eqN0 {X : Nat} (hX : X < top) (h0 : X ≠ 0) (W : World) : (binOp .eql 24 (nv X) (nv 0)).run Tryd.prog W = .ok (.bool false) W:=by
 have e:=eql_num hX zcp W
 rw [decide_eq_false h0] at e
 exact e
theorem iz_yes (w : World) :
  Calls Tryd.prog 46 #[nv 0] w fun e w' => e = .returned (.bool true) ∧ Ext w w':=by
 unfold nv nc
 go_enter Tryd.func46,Tryd.ntmps46
 go_upto_region 1 with (fail)
 obtain ⟨hx,b0⟩:=blocks1 w (.cells #[.int .u64 (wd 0 0),.int .u64 (wd 0 1),.int .u64 (wd 0 2),.int .u64 (wd 0 3)] 24)
 generalize w.alloc (.cells #[.int .u64 (wd 0 0),.int .u64 (wd 0 1),.int .u64 (wd 0 2),.int .u64 (wd 0 3)] 24) = w1 at *
 have b0 : w1.heap[w.heap.size]? = some (.cells (nc 0) 24 (0,0)):=b0
 refine' zaj (m:=4) (A:=_) (by kernel_rfl) ?h1 ?h2
 case h1 =>
  refine zaa (nv 0) rfl (zac rfl rfl b0 rfl uN rfl (iN _)) ?_;simp only [aP,lA,lZ,lS]
  refine zaa (nv 0) rfl (zau rfl rfl (bldN0 ·)) ?_;simp only [aP,lA,lZ,lS]
  refine zaa (.bool true) rfl (zbs rfl rfl rfl (gN _ _ _ _ _) eqN) ?_;simp only [aP,lA,lZ,lS]
  refine zaa (.bool true) rfl (zae (.inr rfl) rfl) ?_;simp only [aP,lA,lZ,lS]
  exact zah
 refine zam rfl ?_
 intro w2 hE
 replace hx:=hx.trans hE
 clear hE
 go_wp2
 go_ret
 exact ⟨rfl,hx⟩
theorem iz_no {X : Nat} (hX : X < top) (h0 : X ≠ 0) (w : World) :
  Calls Tryd.prog 46 #[nv X] w fun e w' => e = .returned (.bool false) ∧ Ext w w':=by
 have kX:=veil hX
 have k0:=veil h0
 clear h0 hX
 unfold nv nc
 go_enter Tryd.func46,Tryd.ntmps46
 go_upto_region 1 with (fail)
 obtain ⟨hx,b0⟩:=blocks1 w (.cells #[.int .u64 (wd X 0),.int .u64 (wd X 1),.int .u64 (wd X 2),.int .u64 (wd X 3)] 24)
 generalize w.alloc (.cells #[.int .u64 (wd X 0),.int .u64 (wd X 1),.int .u64 (wd X 2),.int .u64 (wd X 3)] 24) = w1 at *
 have b0 : w1.heap[w.heap.size]? = some (.cells (nc X) 24 (0,0)):=b0
 refine' zaj (m:=4) (A:=_) (by kernel_rfl) ?h1 ?h2
 case h1 =>
  refine zaa (nv X) rfl (zac rfl rfl b0 rfl uN rfl (iN _)) ?_;simp only [aP,lA,lZ,lS]
  refine zaa (nv 0) rfl (zau rfl rfl (bldN0 ·)) ?_;simp only [aP,lA,lZ,lS]
  refine zaa (.bool false) rfl (zbs rfl rfl rfl (gN _ _ _ _ _) (eqN0 kX.out k0.out ·)) ?_;simp only [aP,lA,lZ,lS]
  refine zaa (.bool false) rfl (zae (.inr rfl) rfl) ?_;simp only [aP,lA,lZ,lS]
  exact zah
 refine zam rfl ?_
 intro w2 hE
 replace hx:=hx.trans hE
 clear hE
 go_wp2
 go_ret
 exact ⟨rfl,hx⟩
theorem iz_is {X : Nat} {b : Bool} (hb : decide (X = 0) = b) (hX : X < top) (w : World) :
  Calls Tryd.prog 46 #[nv X] w fun e w' => e = .returned (.bool b) ∧ Ext w w':=by
 subst hb
 by_cases h : X = 0
 ·
  subst h
  exact iz_yes w
 ·
  rw [decide_eq_false h]
  exact iz_no hX h w
theorem rng_zero (w : World) :
  Calls Tryd.prog 24 #[nv 0] w fun e w' => e = .returned (.bool false) ∧ Ext w w':=by
 unfold nv nc
 go_enter Tryd.func24,Tryd.ntmps24
 go_upto_region 1 with (fail)
 obtain ⟨hx,b0⟩:=blocks1 w (.cells #[.int .u64 (wd 0 0),.int .u64 (wd 0 1),.int .u64 (wd 0 2),.int .u64 (wd 0 3)] 24)
 generalize w.alloc (.cells #[.int .u64 (wd 0 0),.int .u64 (wd 0 1),.int .u64 (wd 0 2),.int .u64 (wd 0 3)] 24) = w1 at *
 have b0 : w1.heap[w.heap.size]? = some (.cells (nc 0) 24 (0,0)):=b0
 refine' zcc (m:=10) (A:=_) 10 (by kernel_rfl) (by kernel_rfl) ?h1 ?h2
 case h1 =>
  refine zaa (nv 0) rfl (zac rfl rfl b0 rfl uN rfl (iN _)) ?_;simp only [aP,lA,lZ,lS]
  refine zaa (.bool true) rfl (zaf (args:=[nv 0]) rfl rfl (fun W => zab Tryd.func46 rfl rfl _ W) (fun W hW => iz_yes W)) ?_;simp only [aP,lA,lZ,lS]
  refine zaa (.bool false) rfl (zaz rfl rfl rfl) ?_;simp only [aP,lA,lZ,lS]
  refine zaa (.bool false) rfl (zae (.inl rfl) rfl) ?_;simp only [aP,lA,lZ,lS]
  refine zaw rfl ?_;simp only [aP,lA,lZ,lS]
  refine zaw rfl ?_;simp only [aP,lA,lZ,lS]
  refine zaw rfl ?_;simp only [aP,lA,lZ,lS]
  refine zaw rfl ?_;simp only [aP,lA,lZ,lS]
  refine zaa (.bool false) rfl (zaq rfl rfl rfl) ?_;simp only [aP,lA,lZ,lS]
  refine zaa (.bool false) rfl (zae (.inr rfl) rfl) ?_;simp only [aP,lA,lZ,lS]
  exact zah
 refine zbq rfl (by kernel_rfl) ?_
 intro w2 hE
 refine NoPanic.normal ?_
 replace hx:=hx.trans hE
 clear hE
 go_wp2
 go_ret
 exact ⟨rfl,hx⟩
theorem rng_in {X : Nat} (hX : X < top) (h0 : X ≠ 0) (hl : X < Pt.nn) (w : World) :
  Calls Tryd.prog 24 #[nv X] w fun e w' => e = .returned (.bool true) ∧ Ext w w':=by
 have kX:=veil hX
 have k0:=veil h0
 have kl:=veil hl
 clear hl h0 hX
 unfold nv nc
 go_enter Tryd.func24,Tryd.ntmps24
 go_upto_region 1 with (fail)
 obtain ⟨hx,b0⟩:=blocks1 w (.cells #[.int .u64 (wd X 0),.int .u64 (wd X 1),.int .u64 (wd X 2),.int .u64 (wd X 3)] 24)
 generalize w.alloc (.cells #[.int .u64 (wd X 0),.int .u64 (wd X 1),.int .u64 (wd X 2),.int .u64 (wd X 3)] 24) = w1 at *
 have b0 : w1.heap[w.heap.size]? = some (.cells (nc X) 24 (0,0)):=b0
 refine' zcc (m:=10) (A:=_) 10 (by kernel_rfl) (by kernel_rfl) ?h1 ?h2
 case h1 =>
  refine zaa (nv X) rfl (zac rfl rfl b0 rfl uN rfl (iN _)) ?_;simp only [aP,lA,lZ,lS]
  refine zaa (.bool false) rfl (zaf (args:=[nv X]) rfl rfl (fun W => zab Tryd.func46 rfl rfl _ W) (fun W hW => iz_no kX.out k0.out W)) ?_;simp only [aP,lA,lZ,lS]
  refine zaa (.bool true) rfl (zaz rfl rfl rfl) ?_;simp only [aP,lA,lZ,lS]
  refine zaa (.bool true) rfl (zae (.inl rfl) rfl) ?_;simp only [aP,lA,lZ,lS]
  refine zag (nv X) rfl (zac rfl rfl b0 rfl uN rfl (iN _)) ?_;simp only [aP,lA,lZ,lS]
  refine zag (nv Pt.nn) rfl (zaf (args:=[]) rfl rfl (fun W => zab Tryd.func17 rfl rfl _ W) (fun W hW => pN_is W)) ?_;simp only [aP,lA,lZ,lS]
  refine zag (.int .i64 (cmpN X Pt.nn)) rfl (zaf (args:=[nv X,nv Pt.nn]) rfl rfl (fun W => zab Tryd.func47 rfl rfl _ W) (fun W hW => zff X Pt.nn kX.out zcs W)) ?_;simp only [aP,lA,lZ,lS]
  refine zag (.bool true) rfl (zfe rfl rfl (cmpL kl.out)) ?_;simp only [aP,lA,lZ,lS]
  refine zaa (.bool true) rfl (zaq rfl rfl rfl) ?_;simp only [aP,lA,lZ,lS]
  refine zaa (.bool true) rfl (zae (.inr rfl) rfl) ?_;simp only [aP,lA,lZ,lS]
  exact zah
 refine zbq rfl (by kernel_rfl) ?_
 intro w2 hE
 refine NoPanic.normal ?_
 replace hx:=hx.trans hE
 clear hE
 go_wp2
 go_ret
 exact ⟨rfl,hx⟩
theorem rng_out {X : Nat} (hX : X < top) (h0 : X ≠ 0) (hl : ¬ X < Pt.nn) (w : World) :
  Calls Tryd.prog 24 #[nv X] w fun e w' => e = .returned (.bool false) ∧ Ext w w':=by
 have kX:=veil hX
 have k0:=veil h0
 have kl:=veil hl
 clear hl h0 hX
 unfold nv nc
 go_enter Tryd.func24,Tryd.ntmps24
 go_upto_region 1 with (fail)
 obtain ⟨hx,b0⟩:=blocks1 w (.cells #[.int .u64 (wd X 0),.int .u64 (wd X 1),.int .u64 (wd X 2),.int .u64 (wd X 3)] 24)
 generalize w.alloc (.cells #[.int .u64 (wd X 0),.int .u64 (wd X 1),.int .u64 (wd X 2),.int .u64 (wd X 3)] 24) = w1 at *
 have b0 : w1.heap[w.heap.size]? = some (.cells (nc X) 24 (0,0)):=b0
 refine' zcc (m:=10) (A:=_) 10 (by kernel_rfl) (by kernel_rfl) ?h1 ?h2
 case h1 =>
  refine zaa (nv X) rfl (zac rfl rfl b0 rfl uN rfl (iN _)) ?_;simp only [aP,lA,lZ,lS]
  refine zaa (.bool false) rfl (zaf (args:=[nv X]) rfl rfl (fun W => zab Tryd.func46 rfl rfl _ W) (fun W hW => iz_no kX.out k0.out W)) ?_;simp only [aP,lA,lZ,lS]
  refine zaa (.bool true) rfl (zaz rfl rfl rfl) ?_;simp only [aP,lA,lZ,lS]
  refine zaa (.bool true) rfl (zae (.inl rfl) rfl) ?_;simp only [aP,lA,lZ,lS]
  refine zag (nv X) rfl (zac rfl rfl b0 rfl uN rfl (iN _)) ?_;simp only [aP,lA,lZ,lS]
  refine zag (nv Pt.nn) rfl (zaf (args:=[]) rfl rfl (fun W => zab Tryd.func17 rfl rfl _ W) (fun W hW => pN_is W)) ?_;simp only [aP,lA,lZ,lS]
  refine zag (.int .i64 (cmpN X Pt.nn)) rfl (zaf (args:=[nv X,nv Pt.nn]) rfl rfl (fun W => zab Tryd.func47 rfl rfl _ W) (fun W hW => zff X Pt.nn kX.out zcs W)) ?_;simp only [aP,lA,lZ,lS]
  refine zag (.bool false) rfl (zfe rfl rfl (cmpG kl.out)) ?_;simp only [aP,lA,lZ,lS]
  refine zaa (.bool false) rfl (zaq rfl rfl rfl) ?_;simp only [aP,lA,lZ,lS]
  refine zaa (.bool false) rfl (zae (.inr rfl) rfl) ?_;simp only [aP,lA,lZ,lS]
  exact zah
 refine zbq rfl (by kernel_rfl) ?_
 intro w2 hE
 refine NoPanic.normal ?_
 replace hx:=hx.trans hE
 clear hE
 go_wp2
 go_ret
 exact ⟨rfl,hx⟩
theorem zep {X : Nat} {b : Bool} (hb : mayB X = b) (hX : X < top) (w : World) :
  Calls Tryd.prog 24 #[nv X] w fun e w' => e = .returned (.bool b) ∧ Ext w w':=by
 subst hb
 unfold mayB
 by_cases h0 : X = 0
 ·
  subst h0
  exact rng_zero w
 ·
  by_cases hl : X < Pt.nn
  ·
   rw [decide_eq_true h0,decide_eq_true hl]
   exact rng_in hX h0 hl w
  ·
   rw [decide_eq_true h0,decide_eq_false hl]
   exact rng_out hX h0 hl w
theorem zfk (w : World) :
  Calls Tryd.prog 30 #[] w fun e w' => (∃ b,e = .returned (ptrTo b) ∧ w.heap.size ≤ b ∧ Fn w' b) ∧ Ext w w':=by
 go_enter Tryd.func30,Tryd.ntmps30
 go_upto_region 1 with (fail)
 have HN:=veil (pN_is w)
 go_wp2_with (first
  | (go_at_call 17; refine HN.out.mono ?_; rintro e w5 ⟨rfl,hb5⟩)
  | (go_at_call 59; refine (new_good Pt.nn nn_odd.1 nn_odd.2 zcs w5).mono ?_; rintro e w6 ⟨⟨b,N,Q,hok,hfb,hge,rfl⟩,hb6⟩))
 go_ret
 exact ⟨⟨b,rfl,Nat.le_trans (Below.size hb5) hge,N,Q,hok,hfb⟩,hb5.trans hb6⟩
theorem zfu {y : Nat → Nat} (hy : ∀ j,y j < 256) {X : Nat} (hX : X = num32 y) (w : World) :
  Calls Tryd.prog 34 #[dgv y] w fun e w' => e = .returned (nv X) ∧ Ext w w':=by
 have ky:=veil hy
 have kX:=veil hX
 clear hX hy
 unfold nv nc dgv dgc
 go_enter Tryd.func34,Tryd.ntmps34
 go_upto_region 1 with (fail)
 obtain ⟨hx,b0,b1⟩:=blocks2 w (.cells (arrOf 32 fun i => .int .u8 (y i : Nat)) 38) (.cells #[.int .u64 0,.int .u64 0,.int .u64 0,.int .u64 0] 24)
 generalize (w.alloc (.cells (arrOf 32 fun i => .int .u8 (y i : Nat)) 38)).alloc (.cells #[.int .u64 0,.int .u64 0,.int .u64 0,.int .u64 0] 24) = w1 at *
 have b0 : w1.heap[w.heap.size]? = some (.cells (dgc y) 38 (0,0)):=b0
 refine' zaj (m:=5) (A:=_) (by kernel_rfl) ?h1 ?h2
 case h1 =>
  refine zaa (.slice (some ⟨w.heap.size,0,none⟩) 32 32) rfl (zet rfl rfl (sliceD _ ·)) ?_;simp only [aP,lA,lZ,lS]
  refine zaa (.tuple #[nv X,.nilIface]) rfl (zaf (args:=[.slice (some ⟨w.heap.size,0,none⟩) 32 32]) rfl rfl (fun W => zab Tryd.func21 rfl rfl _ W) (fun W hW => ofl_is ky.out kX.out W (hW.block b0))) ?_;simp only [aP,lA,lZ,lS]
  refine zaa (.tuple #[nv X,.nilIface]) rfl (zae (.inl rfl) rfl) ?_;simp only [aP,lA,lZ,lS]
  refine zaa (nv X) rfl (zar rfl rfl rfl) ?_;simp only [aP,lA,lZ,lS]
  refine zaa (.nilIface) rfl (zar rfl rfl rfl) ?_;simp only [aP,lA,lZ,lS]
  exact zah
 refine zbf _ _ rfl rfl rfl rfl rfl rfl rfl (hzN ·) (fun _ => rfl) (fun _ => rfl) (iN _) rfl (zbe _) ?_
 intro gx w2 hgx bx hE
 replace b1:=hE.block b1
 replace hx:=hx.trans hE
 clear hE
 simp only [aP,lA,lZ,lS]
 clear hgx
 go_upto_region 2 with (fail)
 refine' zaj (m:=1) (A:=_) (by kernel_rfl) ?h2a ?h2b
 case h2a =>
  refine zaa (nv X) rfl (zac rfl rfl bx rfl uN rfl (iN _)) ?_;simp only [aP,lA,lZ,lS]
  exact zah
 refine zbj _ rfl rfl rfl rfl rfl rfl b1 (iN _) rfl (zbe _) ?_
 intro w3 hB hb
 go_wp2
 exact bodyPost_ret (results_cell_row rfl _ _ (w.heap.size + 1) 24 (nc X) (0,0) _ rfl hb Tryd.underlying24 rfl (by kernel_rfl)) rfl ⟨rfl,hx.new hB (by omega)⟩
theorem scut_calls {b X Z : Nat} (hZ : Z = X % Pt.nn) (hX : X < top) {w : World} (hF : Fn w b) :
  Calls Tryd.prog 35 #[ptrTo b,nv X] w fun e w' => e = .returned (nv Z) ∧ Ext w w':=by
 have kZ:=veil hZ
 have kX:=veil hX
 clear hX hZ
 unfold nv nc
 go_enter Tryd.func35,Tryd.ntmps35
 go_upto_region 1 with (fail)
 obtain ⟨hx,b0,b1⟩:=blocks2 w (.cells #[.int .u64 (wd X 0),.int .u64 (wd X 1),.int .u64 (wd X 2),.int .u64 (wd X 3)] 24) (.cells #[.int .u64 0,.int .u64 0,.int .u64 0,.int .u64 0] 24)
 generalize (w.alloc (.cells #[.int .u64 (wd X 0),.int .u64 (wd X 1),.int .u64 (wd X 2),.int .u64 (wd X 3)] 24)).alloc (.cells #[.int .u64 0,.int .u64 0,.int .u64 0,.int .u64 0] 24) = w1 at *
 have b0 : w1.heap[w.heap.size]? = some (.cells (nc X) 24 (0,0)):=b0
 have hf:=hF.ext hx
 clear hF
 refine' zaj (m:=4) (A:=_) (by kernel_rfl) ?h1 ?h2
 case h1 =>
  refine zaa (ptrTo b) rfl (zae (.inl rfl) rfl) ?_;simp only [aP,lA,lZ,lS]
  refine zaa (nv X) rfl (zac rfl rfl b0 rfl uN rfl (iN _)) ?_;simp only [aP,lA,lZ,lS]
  refine zaa (nv 0) rfl (zau rfl rfl (bldN0 ·)) ?_;simp only [aP,lA,lZ,lS]
  refine zaa (nv Z) rfl (zaf (args:=[ptrTo b,nv X,nv 0]) rfl rfl (fun W => zab Tryd.func67 rfl rfl _ W) (fun W hW => ncut_p kZ.out kX.out (hf.ext hW))) ?_;simp only [aP,lA,lZ,lS]
  exact zah
 refine zbj _ rfl rfl rfl rfl rfl rfl b1 (iN _) rfl (zbe _) ?_
 intro w2 hB hb
 go_wp2
 exact bodyPost_ret (results_cell_row rfl _ _ (w.heap.size + 1) 24 (nc Z) (0,0) _ rfl hb Tryd.underlying24 rfl (by kernel_rfl)) rfl ⟨rfl,hx.new hB (by omega)⟩
theorem sumof_calls {u v X Y : Nat} {f : Bool} {p a b c : Pt.Q} (hu : u < top) (hv : v < top) (hp : X = Pt.pX p.1 ∧ Y = Pt.pY p.1 ∧ f = Pt.pFar p.1) (ha : a = Pt.grp.mul u Pt.base) (hb : b = Pt.grp.mul v p) (hc : c = Pt.grp.op a b) (w : World) :
  Calls Tryd.prog 32 #[nv u,nv v,qv X Y f] w fun e w' => e = .returned (qv (Pt.pX c.1) (Pt.pY c.1) (Pt.pFar c.1)) ∧ Ext w w':=by
 have ku:=veil hu
 have kv:=veil hv
 have kp:=veil hp
 have ka:=veil ha
 have kb:=veil hb
 have kc:=veil hc
 clear hc hb ha hp hv hu
 unfold nv nc qv qc
 go_enter Tryd.func32,Tryd.ntmps32
 go_upto_region 1 with (fail)
 obtain ⟨hx,b0,b1,b2,b3⟩:=blocks4 w (.cells #[.int .u64 (wd u 0),.int .u64 (wd u 1),.int .u64 (wd u 2),.int .u64 (wd u 3)] 24) (.cells #[.int .u64 (wd v 0),.int .u64 (wd v 1),.int .u64 (wd v 2),.int .u64 (wd v 3)] 24) (.cells #[.int .u64 (wd X 0),.int .u64 (wd X 1),.int .u64 (wd X 2),.int .u64 (wd X 3),.int .u64 (wd Y 0),.int .u64 (wd Y 1),.int .u64 (wd Y 2),.int .u64 (wd Y 3),.bool (f)] 40) (.cells #[.int .u64 0,.int .u64 0,.int .u64 0,.int .u64 0,.int .u64 0,.int .u64 0,.int .u64 0,.int .u64 0,.bool false] 40)
 generalize (((w.alloc (.cells #[.int .u64 (wd u 0),.int .u64 (wd u 1),.int .u64 (wd u 2),.int .u64 (wd u 3)] 24)).alloc (.cells #[.int .u64 (wd v 0),.int .u64 (wd v 1),.int .u64 (wd v 2),.int .u64 (wd v 3)] 24)).alloc (.cells #[.int .u64 (wd X 0),.int .u64 (wd X 1),.int .u64 (wd X 2),.int .u64 (wd X 3),.int .u64 (wd Y 0),.int .u64 (wd Y 1),.int .u64 (wd Y 2),.int .u64 (wd Y 3),.bool (f)] 40)).alloc (.cells #[.int .u64 0,.int .u64 0,.int .u64 0,.int .u64 0,.int .u64 0,.int .u64 0,.int .u64 0,.int .u64 0,.bool false] 40) = w1 at *
 have b0 : w1.heap[w.heap.size]? = some (.cells (nc u) 24 (0,0)):=b0
 have b1 : w1.heap[w.heap.size + 1]? = some (.cells (nc v) 24 (0,0)):=b1
 have b2 : w1.heap[w.heap.size + 1 + 1]? = some (.cells (qc X Y f) 40 (0,0)):=b2
 refine' zbn (m:=5) (A:=_) 7 (by kernel_rfl) (by kernel_rfl) (by kernel_rfl) ?h1 ?h2
 case h1 =>
  refine zaa (nv u) rfl (zac rfl rfl b0 rfl uN rfl (iN _)) ?_;simp only [aP,lA,lZ,lS]
  refine zaa (qv Pt.gx Pt.gy false) rfl (zaf (args:=[]) rfl rfl (fun W => zab Tryd.func26 rfl rfl _ W) (fun W hW => zgu W)) ?_;simp only [aP,lA,lZ,lS]
  refine zaa (.tuple #[qv (Pt.pX a.1) (Pt.pY a.1) (Pt.pFar a.1),.nilIface]) rfl (zaf (args:=[nv u,qv Pt.gx Pt.gy false]) rfl rfl (fun W => zab Tryd.func25 rfl rfl _ W) (fun W hW => mulb_is ku.out ka.out W)) ?_;simp only [aP,lA,lZ,lS]
  refine zaa (.tuple #[qv (Pt.pX a.1) (Pt.pY a.1) (Pt.pFar a.1),.nilIface]) rfl (zae (.inl rfl) rfl) ?_;simp only [aP,lA,lZ,lS]
  refine zaa (qv (Pt.pX a.1) (Pt.pY a.1) (Pt.pFar a.1)) rfl (zar rfl rfl rfl) ?_;simp only [aP,lA,lZ,lS]
  exact zah
 refine zdu (v:=.nilIface) (vx:=.nilIface) _ _ _ _ rfl rfl rfl rfl rfl rfl rfl rfl rfl rfl rfl rfl rfl rfl rfl rfl (by decide) (by kernel_rfl) (by kernel_rfl) (by kernel_rfl) (by kernel_rfl) (by kernel_rfl) (by kernel_rfl) (by kernel_rfl) rfl rfl rfl rfl rfl rfl (hzT ·) (zby rfl rfl rfl) (fun _ => zby rfl rfl rfl) (fun _ => rfl) (fun _ => rfl) (fun _ => rfl) (fun _ => rfl) (fun _ => rfl) (iT _ _ _) rfl (zdd _ _ _) ?_
 intro ga w2 hga ba hE
 refine NoPanic.normal ?_
 replace b1:=hE.block b1
 replace b2:=hE.block b2
 replace b3:=hE.block b3
 replace hx:=hx.trans hE
 clear hE
 simp only [aP,lA,lZ,lS]
 clear hga
 go_upto_region 2 with (fail)
 refine' zaj (m:=6) (A:=_) (by kernel_rfl) ?h2a ?h2b
 case h2a =>
  refine zaa (nv v) rfl (zac rfl rfl b1 rfl uN rfl (iN _)) ?_;simp only [aP,lA,lZ,lS]
  refine zaa (qv X Y f) rfl (zac rfl rfl b2 rfl Tryd.underlying40 rfl (iT _ _ _)) ?_;simp only [aP,lA,lZ,lS]
  refine zaa (.tuple #[qv (Pt.pX b.1) (Pt.pY b.1) (Pt.pFar b.1),.nilIface]) rfl (zaf (args:=[nv v,qv X Y f]) rfl rfl (fun W => zab Tryd.func25 rfl rfl _ W) (fun W hW => mulq_is kv.out kp.out kb.out W)) ?_;simp only [aP,lA,lZ,lS]
  refine zaa (.tuple #[qv (Pt.pX b.1) (Pt.pY b.1) (Pt.pFar b.1),.nilIface]) rfl (zae (.inl rfl) rfl) ?_;simp only [aP,lA,lZ,lS]
  refine zaa (qv (Pt.pX b.1) (Pt.pY b.1) (Pt.pFar b.1)) rfl (zar rfl rfl rfl) ?_;simp only [aP,lA,lZ,lS]
  refine zaa (.nilIface) rfl (zar rfl rfl rfl) ?_;simp only [aP,lA,lZ,lS]
  exact zah
 refine zbf _ _ rfl rfl rfl rfl rfl rfl rfl (hzT ·) (fun _ => rfl) (fun _ => rfl) (iT _ _ _) rfl (zdd _ _ _) ?_
 intro gb w3 hgb bb hE
 replace b3:=hE.block b3
 replace ba:=hE.block ba
 replace hx:=hx.trans hE
 clear hE
 simp only [aP,lA,lZ,lS]
 clear hgb
 go_upto_region 3 with (fail)
 refine' zaj (m:=6) (A:=_) (by kernel_rfl) ?h3a ?h3b
 case h3a =>
  refine zaa (qv (Pt.pX a.1) (Pt.pY a.1) (Pt.pFar a.1)) rfl (zac rfl rfl ba rfl Tryd.underlying40 rfl (iT _ _ _)) ?_;simp only [aP,lA,lZ,lS]
  refine zaa (qv (Pt.pX b.1) (Pt.pY b.1) (Pt.pFar b.1)) rfl (zac rfl rfl bb rfl Tryd.underlying40 rfl (iT _ _ _)) ?_;simp only [aP,lA,lZ,lS]
  refine zaa (.tuple #[qv (Pt.pX c.1) (Pt.pY c.1) (Pt.pFar c.1),.nilIface]) rfl (zaf (args:=[qv (Pt.pX a.1) (Pt.pY a.1) (Pt.pFar a.1),qv (Pt.pX b.1) (Pt.pY b.1) (Pt.pFar b.1)]) rfl rfl (fun W => zab Tryd.func64 rfl rfl _ W) (fun W hW => addq_is kc.out W)) ?_;simp only [aP,lA,lZ,lS]
  refine zaa (.tuple #[qv (Pt.pX c.1) (Pt.pY c.1) (Pt.pFar c.1),.nilIface]) rfl (zae (.inl rfl) rfl) ?_;simp only [aP,lA,lZ,lS]
  refine zaa (qv (Pt.pX c.1) (Pt.pY c.1) (Pt.pFar c.1)) rfl (zar rfl rfl rfl) ?_;simp only [aP,lA,lZ,lS]
  refine zaa (.nilIface) rfl (zar rfl rfl rfl) ?_;simp only [aP,lA,lZ,lS]
  exact zah
 refine zbf _ _ rfl rfl rfl rfl rfl rfl rfl (hzT ·) (fun _ => rfl) (fun _ => rfl) (iT _ _ _) rfl (zdd _ _ _) ?_
 intro gc w4 hgc bc hE
 replace b3:=hE.block b3
 replace hx:=hx.trans hE
 clear hE
 simp only [aP,lA,lZ,lS]
 clear hgc
 go_upto_region 4 with (fail)
 refine' zaj (m:=1) (A:=_) (by kernel_rfl) ?h4a ?h4b
 case h4a =>
  refine zaa (qv (Pt.pX c.1) (Pt.pY c.1) (Pt.pFar c.1)) rfl (zac rfl rfl bc rfl Tryd.underlying40 rfl (iT _ _ _)) ?_;simp only [aP,lA,lZ,lS]
  exact zah
 refine zbj _ rfl rfl rfl rfl rfl rfl b3 (iT _ _ _) rfl (zdd _ _ _) ?_
 intro w5 hB hb
 go_wp2
 exact bodyPost_ret (results_cell_row rfl _ _ (w.heap.size + 1 + 1 + 1) 40 (qc (Pt.pX c.1) (Pt.pY c.1) (Pt.pFar c.1)) (0,0) _ rfl hb Tryd.underlying40 rfl (by kernel_rfl)) rfl ⟨rfl,hx.new hB (by omega)⟩
theorem maker_calls {D E : Nat} {y : Nat → Nat} (hy : ∀ j,y j < 256) (hE : E = num32 y) (w : World) :
  Calls Tryd.prog 28 #[nv D,dgv y] w fun e w' => (∃ g,e = .returned (mv g D E) ∧ Fn w' g) ∧ Ext w w':=by
 have ky:=veil hy
 have kE:=veil hE
 clear hE hy
 unfold nv nc dgv dgc
 go_enter Tryd.func28,Tryd.ntmps28
 go_upto_region 1 with (fail)
 obtain ⟨hx,b0,b1,b2⟩:=blocks3 w (.cells #[.int .u64 (wd D 0),.int .u64 (wd D 1),.int .u64 (wd D 2),.int .u64 (wd D 3)] 24) (.cells (arrOf 32 fun i => .int .u8 (y i : Nat)) 38) (.cells #[.pointer none,.int .u64 0,.int .u64 0,.int .u64 0,.int .u64 0,.int .u64 0,.int .u64 0,.int .u64 0,.int .u64 0] 65)
 generalize ((w.alloc (.cells #[.int .u64 (wd D 0),.int .u64 (wd D 1),.int .u64 (wd D 2),.int .u64 (wd D 3)] 24)).alloc (.cells (arrOf 32 fun i => .int .u8 (y i : Nat)) 38)).alloc (.cells #[.pointer none,.int .u64 0,.int .u64 0,.int .u64 0,.int .u64 0,.int .u64 0,.int .u64 0,.int .u64 0,.int .u64 0] 65) = w1 at *
 have b0 : w1.heap[w.heap.size]? = some (.cells (nc D) 24 (0,0)):=b0
 have b1 : w1.heap[w.heap.size + 1]? = some (.cells (dgc y) 38 (0,0)):=b1
 have hb0:=(Array.getElem?_eq_some_iff.1 b0).1
 have hb1:=(Array.getElem?_eq_some_iff.1 b1).1
 have hb2:=(Array.getElem?_eq_some_iff.1 b2).1
 refine wp_region_noPanic ?_
 refine wp_region_held_drew (S:=fun W => But (w.heap.size + 1 + 1) w1 W) (by kernel_rfl) (But.of_below (Ext.drew w1)) (fun hH => ?_)
 refine wpAnyH_take (i:=1) (v:=nv D) rfl (by kernel_rfl) (by kernel_rfl) (by decide +kernel) (fun _ _ _ h => h) (yieldsIf_load_mid (by rfl) _ _ rfl _ _ rfl (nc D).toList _ (fun W hW j v hv => by rw [cell_of_row W _ _ (nc D) 24 (0,0) ((hW.block _ hb0 (by intro e; injection e; omega)).trans b0),Nat.zero_add]; simpa using hv) uN rfl (iN D)) hH ?_
 refine wpAnyH_take (i:=2) (v:=dgv y) rfl (by kernel_rfl) (by kernel_rfl) (by decide +kernel) (fun _ _ _ h => h) (yieldsIf_load_mid (by rfl) _ _ rfl _ _ rfl (dgc y).toList _ (fun W hW j v hv => by rw [cell_of_row W _ _ (dgc y) 38 (0,0) ((hW.block _ hb1 (by intro e; injection e; omega)).trans b1),Nat.zero_add]; simpa using hv) Tryd.underlying38 rfl (iDg y)) hH ?_
 refine wpAnyH_ready (rs:=[0]) (by decide +kernel) (by simp) ?_
 refine AllReadyH.cons rfl (fun K hK => ?_) AllReadyH.nil
 go_simp
 refine (zfk _).mono ?_
 rintro e w3 ⟨⟨g,rfl,hg,hF⟩,hE1⟩
 have hX : Ext w1 w3:=(Ext.drew w1).trans hE1
 have hg2 : w1.heap.size ≤ g:=hg
 refine hK.out _ _ (But.of_below hX) (fun hH => ?_)
 clear hK K hE1 hg
 refine wpAnyH_ready (rs:=[3]) (by decide +kernel) (by simp) ?_
 refine AllReadyH.cons rfl (fun K hK => ?_) AllReadyH.nil
 go_simp
 refine (zfu ky.out kE.out _).mono ?_
 rintro e w4 ⟨rfl,hE2⟩
 have hF:=hF.ext hE2
 have hX:=hX.trans hE2
 refine hK.out _ _ (But.of_below hX) (fun hH => ?_)
 clear hK K hE2
 refine wpAnyH_take (i:=4) (v:=mv g D E) rfl (by kernel_rfl) (by kernel_rfl) (by decide +kernel) (fun _ _ _ h => h) (zfg (vs:=[(0,ptrTo g),(1,nv D),(2,nv E)]) (by rfl) rfl rfl (fun W => bldM g W D E)) hH ?_
 refine wpAnyH_ready (rs:=[5]) (by decide +kernel) (by simp) ?_
 refine AllReadyH.cons rfl (fun K hK => ?_) AllReadyH.nil
 refine wp_store_row 65 _ _ rfl (w.heap.size + 1 + 1) (mc g D E) rfl rfl 65 _ (hX.block b2) (iMk _ _ _) rfl (mc_one _ _ _) ?_
 have hB:=zct (But.refl (w.heap.size + 1 + 1) w4) (mc g D E)
 have hb:=setRow_heap w4 _ _ (mc g D E) 65 (0,0) (hX.block b2)
 have hF:=hF.but hB (by omega)
 refine hK.out _ _ (zct (But.of_below hX) _) (fun hH => ?_)
 clear hK K
 refine wpAnyH_done (by decide +kernel) ?_ _
 refine NoPanic.normal ?_
 go_wp2
 exact bodyPost_ret (results_cell_row rfl _ _ (w.heap.size + 1 + 1) 65 (mc g D E) (0,0) _ rfl hb Tryd.underlying65 rfl (iMk _ _ _)) rfl ⟨⟨g,rfl,hF⟩,hx.new hH (by omega)⟩
theorem bsv_one (X : Nat) : ∀ j,(bsv X j).oneCell' = true:=fun j => by simp [bsv,Value.oneCell']
theorem zgy (R S : Nat) (w : World) :
  Calls Tryd.prog 7 #[gv R S] w fun e w' => (∃ v,e = .returned v ∧ Own w' w.heap.size 5 v 64 (ptB R S)) ∧ Ext w w':=by
 have kb:=fun X W => bytes_calls X W
 have KB:=veil kb
 clear kb
 unfold gv gc
 go_enter Tryd.func7,Tryd.ntmps7
 go_upto_region 1 with (fail)
 obtain ⟨hx,b0⟩:=blocks1 w (.cells #[.int .u64 (wd R 0),.int .u64 (wd R 1),.int .u64 (wd R 2),.int .u64 (wd R 3),.int .u64 (wd S 0),.int .u64 (wd S 1),.int .u64 (wd S 2),.int .u64 (wd S 3)] 26)
 generalize w.alloc (.cells #[.int .u64 (wd R 0),.int .u64 (wd R 1),.int .u64 (wd R 2),.int .u64 (wd R 3),.int .u64 (wd S 0),.int .u64 (wd S 1),.int .u64 (wd S 2),.int .u64 (wd S 3)] 26) = w1 at *
 have b0 : w1.heap[w.heap.size]? = some (.cells (gc R S) 26 (0,0)):=b0
 refine wp_region_noPanic ?_
 refine wp_region_held_drew (S:=fun W => Ext w1 W) (by kernel_rfl) (Ext.drew _) (fun hH => ?_)
 have hS : ∀ W,Ext w1 W → W.rangeAt w.heap.size 0 (nc R).toList:=fun W hW j v hv => by
  rw [cell_of_row W _ _ (gc R S) 26 (0,0) (hW.block b0),Nat.zero_add]
  have hj : j < 4:=(List.getElem?_eq_some_iff.1 hv).1
  rw [← hv]
  match j,hj with
  | 0,_ => rfl
  | 1,_ => rfl
  | 2,_ => rfl
  | 3,_ => rfl
 have hS4 : ∀ W,Ext w1 W → W.rangeAt w.heap.size 4 (nc S).toList:=fun W hW j v hv => by
  rw [cell_of_row W _ _ (gc R S) 26 (0,0) (hW.block b0)]
  have hj : j < 4:=(List.getElem?_eq_some_iff.1 hv).1
  rw [← hv]
  match j,hj with
  | 0,_ => rfl
  | 1,_ => rfl
  | 2,_ => rfl
  | 3,_ => rfl
 refine wpAnyH_take (i:=0) (v:=ptrTo w.heap.size) rfl (by kernel_rfl) (by kernel_rfl) (by decide +kernel) (fun _ _ _ h => h) (Or.inl ⟨by rfl,fun W hSw => (by dsimp only at hSw; go_simp)⟩) hH ?_
 refine wpAnyH_take (i:=1) (v:=nv R) rfl (by kernel_rfl) (by kernel_rfl) (by decide +kernel) (fun _ _ _ h => h) (yieldsIf_load_mid (by rfl) _ _ rfl _ _ rfl (nc R).toList _ hS uN rfl (iN R)) hH ?_
 refine wpAnyH_take (i:=3) (v:=.pointer (some ⟨w.heap.size,4,none⟩)) rfl (by kernel_rfl) (by kernel_rfl) (by decide +kernel) (fun _ _ _ h => h) (Or.inl ⟨by rfl,fun W hSw => (by dsimp only at hSw; go_simp)⟩) hH ?_
 refine wpAnyH_take (i:=4) (v:=nv S) rfl (by kernel_rfl) (by kernel_rfl) (by decide +kernel) (fun _ _ _ h => h) (yieldsIf_load_mid (by rfl) _ _ rfl _ _ rfl (nc S).toList _ hS4 uN rfl (iN S)) hH ?_
 refine wpAnyH_ready (rs:=[2]) (by decide +kernel) (by simp) ?_
 refine AllReadyH.cons rfl (fun K hK => ?_) AllReadyH.nil
 go_simp
 refine (KB.out R _).mono ?_
 rintro e w3 ⟨g1,rfl,hg1,r1,hE1⟩
 have hE1 : Ext _ w3:=hE1
 refine hK.out _ _ (hH.trans hE1) (fun hH => ?_)
 clear hK K hE1
 refine wpAnyH_ready (rs:=[5]) (by decide +kernel) (by simp) ?_
 refine AllReadyH.cons rfl (fun K hK => ?_) AllReadyH.nil
 go_simp
 refine (KB.out S _).mono ?_
 rintro e w4 ⟨g2,rfl,hg2,r2,hE2⟩
 have hE2 : Ext w3 w4:=hE2
 have r1:=Ext.row r1 hE2
 refine hK.out _ _ (hH.trans hE2) (fun hH => ?_)
 clear hK K hE2
 refine wpAnyH_ready (rs:=[6]) (by decide +kernel) (by simp) ?_
 refine AllReadyH.cons rfl (fun K hK => ?_) AllReadyH.nil
 go_simp
 have hb4:=zbm w4 (.cells #[.slice (some ⟨g1,0,none⟩) 32 32,.slice (some ⟨g2,0,none⟩) 32 32] 27)
 have r1:=r1.alloc (.cells #[.slice (some ⟨g1,0,none⟩) 32 32,.slice (some ⟨g2,0,none⟩) 32 32] 27)
 have r2:=r2.alloc (.cells #[.slice (some ⟨g1,0,none⟩) 32 32,.slice (some ⟨g2,0,none⟩) 32 32] 27)
 refine hK.out _ _ (hH.trans (Ext.alloc _ _)) (fun hH => ?_)
 clear hK K
 refine wpAnyH_ready (rs:=[7]) (by decide +kernel) (by simp) ?_
 refine AllReadyH.cons rfl (fun K hK => ?_) AllReadyH.nil
 go_simp
 refine (concat_calls w4.heap.size g1 g2 32 32 (bsv R) (bsv S) (bsv_one R) (bsv_one S) _ hb4 r1 r2).mono ?_
 rintro e w5 ⟨⟨v,rfl,ho⟩,hE5⟩
 have ho : Own w5 w.heap.size 5 v 64 (ptB R S):=ho.base_le (Nat.le_trans (Below.size hx) (Below.size hH))
 refine hK.out _ _ (hH.trans hE5) (fun hH => ?_)
 clear hK K hE5
 refine wpAnyH_ready (rs:=[8]) (by decide +kernel) (by simp) ?_
 refine AllReadyH.cons rfl (fun K hK => ?_) AllReadyH.nil
 go_simp
 refine hK.out _ _ hH (fun hH => ?_)
 clear hK K
 refine wpAnyH_done (by decide +kernel) ?_ _
 refine NoPanic.normal ?_
 go_wp2
 go_ret
 exact ⟨⟨_,rfl,ho⟩,hx.trans hH⟩
theorem le_lo (y : Nat → Nat) : lev (fun k => y (32 - 1 - k)) 32 = be32 y 0:=by
 unfold be32
 simp only [Nat.zero_add]
theorem le_hi (y : Nat → Nat) : lev (fun k => y (32 + (32 - 1 - k))) 32 = be32 y 32:=rfl
theorem ofl_lo {b o c : Nat} {y : Nat → Nat} (hy : ∀ j,y j < 256) {w : World} (hlt : b < w.heap.size) (hcell : ∀ j,j < 64 → w.cell? ⟨b,o + j,none⟩ = some (.int .u8 (y j : Nat))) (W : World) (hW : Ext w W) : Calls Tryd.prog 21 #[.slice (some ⟨b,o,none⟩) 32 c] W fun e W' => e = .returned (.tuple #[nv (be32 y 0),.nilIface]) ∧ Ext W W':=by
 have h:=zhb b o 32 c y hy (by decide) W (Nat.lt_of_lt_of_le hlt (Below.size hW)) (fun j hj => (Below.cell (p:=⟨b,o + j,none⟩) hW hlt).trans (hcell j (by omega)))
 rw [le_lo] at h
 exact h
theorem ofl_hi {b o c : Nat} {y : Nat → Nat} (hy : ∀ j,y j < 256) {w : World} (hlt : b < w.heap.size) (hcell : ∀ j,j < 64 → w.cell? ⟨b,o + j,none⟩ = some (.int .u8 (y j : Nat))) (W : World) (hW : Ext w W) : Calls Tryd.prog 21 #[.slice (some ⟨b,o + 32,none⟩) 32 (c - 32)] W fun e W' => e = .returned (.tuple #[nv (be32 y 32),.nilIface]) ∧ Ext W W':=by
 have h:=zhb b (o + 32) 32 (c - 32) (fun j => y (32 + j)) (fun j => hy _) (by decide) W (Nat.lt_of_lt_of_le hlt (Below.size hW)) (fun j hj => by
  rw [Nat.add_assoc]
  exact (Below.cell (p:=⟨b,o + (32 + j),none⟩) hW hlt).trans (hcell (32 + j) (by omega)))
 rw [le_hi] at h
 exact h
theorem cut_lo (b o : Nat) {c : Nat} (hc : 64 ≤ c) (W : World) : (Instr.sliceAt 27 (.slice (some ⟨b,o,none⟩) 64 c) none (some (.int .i64 32)) none).run Tryd.prog W = .ok (.slice (some ⟨b,o,none⟩) 32 c) W:=by
 have h:=cut_to (some ⟨b,o,none⟩) 64 c 32 (by omega) W
 unfold cutA at h
 by_cases h0 : c = 0
 ·
  omega
 ·
  simpa [Addr.add_mid,h0] using h
theorem cut_hi (b o : Nat) {c : Nat} (hc : 64 ≤ c) (W : World) : (Instr.sliceAt 27 (.slice (some ⟨b,o,none⟩) 64 c) (some (.int .i64 32)) none none).run Tryd.prog W = .ok (.slice (some ⟨b,o + 32,none⟩) 32 (c - 32)) W:=by
 have h:=cut_from (some ⟨b,o,none⟩) 64 c 32 (by omega) W
 unfold cutA at h
 rw [if_neg (by omega)] at h
 simpa [Addr.add_mid] using h
theorem sparse_no (A : Option Addr) (n c : Nat) (hn : n ≠ 64) (w : World) :
  Calls Tryd.prog 8 #[.slice A n c] w fun e w' => e = .returned (.tuple #[gv 0 0,.iface 34 (.int .i64 2)]) ∧ Ext w w':=by
 have hn2 : ¬ (n : Int) = 64:=by omega
 clear hn
 go_enter Tryd.func8,Tryd.ntmps8
 go_upto_region 1 with (fail)
 rw [gc_zero]
 obtain ⟨hx,b0⟩:=blocks1 w (.cells (gc 0 0) 26)
 generalize w.alloc (.cells (gc 0 0) 26) = w1 at *
 go_upto_region 2 with (fail)
 refine' zaj (m:=2) (A:=_) (by kernel_rfl) ?h1 ?h2
 case h1 =>
  refine zaa (gv 0 0) rfl (zau rfl rfl (bldG0 ·)) ?_;simp only [aP,lA,lZ,lS]
  refine zaa (.iface 34 (.int .i64 2)) rfl (zeu rfl (mkErr2 ·)) ?_;simp only [aP,lA,lZ,lS]
  exact zah
 refine zcr _ rfl rfl rfl rfl rfl rfl b0 (iSg _ _) (gc_size _ _) (zbu _ _) ?_
 intro w2 hB hb
 go_wp2
 exact bodyPost_ret (zba rfl _ _ (w.heap.size) 26 (gc 0 0) (0,0) _ rfl hb Tryd.underlying26 rfl (iSg _ _)) rfl ⟨rfl,hx.new hB (by omega)⟩
theorem sparse_64 (b o c : Nat) (y : Nat → Nat) (hy : ∀ j,y j < 256) (hc : 64 ≤ c) (w : World) (hlt : b < w.heap.size) (hcell : ∀ j,j < 64 → w.cell? ⟨b,o + j,none⟩ = some (.int .u8 (y j : Nat))) :
  Calls Tryd.prog 8 #[.slice (some ⟨b,o,none⟩) 64 c] w fun e w' => e = .returned (.tuple #[gv (be32 y 0) (be32 y 32),.nilIface]) ∧ Ext w w':=by
 have kx:=fun (W : World) (hW : Ext w W) => ofl_lo (c:=c) hy hlt hcell W hW
 have ky:=fun (W : World) (hW : Ext w W) => ofl_hi (c:=c) hy hlt hcell W hW
 have q1:=cut_lo b o hc
 have q2:=cut_hi b o hc
 clear hy hc hlt hcell
 generalize be32 y 0 = PX at *
 generalize be32 y 32 = PY at *
 have KX:=veil kx
 have KY:=veil ky
 have Q1:=veil q1
 have Q2:=veil q2
 clear q1 q2 kx ky
 go_enter Tryd.func8,Tryd.ntmps8
 go_upto_region 1 with (fail)
 rw [gc_zero]
 obtain ⟨hx,b0⟩:=blocks1 w (.cells (gc 0 0) 26)
 generalize w.alloc (.cells (gc 0 0) 26) = w1 at *
 go_upto_region 3 with (fail)
 refine' zaj (m:=6) (A:=_) (by kernel_rfl) ?h1 ?h2
 case h1 =>
  refine zaa (.slice (some ⟨b,o,none⟩) 64 c) rfl (zae (.inl rfl) rfl) ?_;simp only [aP,lA,lZ,lS]
  refine zaa (.slice (some ⟨b,o,none⟩) 32 c) rfl (zet rfl rfl Q1.out) ?_;simp only [aP,lA,lZ,lS]
  refine zaa (.tuple #[nv PX,.nilIface]) rfl (zaf (args:=[.slice (some ⟨b,o,none⟩) 32 c]) rfl rfl (fun W => zab Tryd.func21 rfl rfl _ W) (fun W hW => KX.out W (hx.trans hW))) ?_;simp only [aP,lA,lZ,lS]
  refine zaa (.tuple #[nv PX,.nilIface]) rfl (zae (.inl rfl) rfl) ?_;simp only [aP,lA,lZ,lS]
  refine zaa (nv PX) rfl (zar rfl rfl rfl) ?_;simp only [aP,lA,lZ,lS]
  refine zaa (.nilIface) rfl (zar rfl rfl rfl) ?_;simp only [aP,lA,lZ,lS]
  exact zah
 refine zbf _ _ rfl rfl rfl rfl rfl rfl rfl (hzN ·) (fun _ => rfl) (fun _ => rfl) (iN _) (hsN _) (zbe _) ?_
 intro gx w2 hgx bx hE
 replace b0:=hE.block b0
 replace hx:=hx.trans hE
 clear hE
 simp only [aP,lA,lZ,lS]
 clear hgx
 go_upto_region 4 with (fail)
 refine' zaj (m:=6) (A:=_) (by kernel_rfl) ?h2a ?h2b
 case h2a =>
  refine zaa (.slice (some ⟨b,o,none⟩) 64 c) rfl (zae (.inl rfl) rfl) ?_;simp only [aP,lA,lZ,lS]
  refine zaa (.slice (some ⟨b,o + 32,none⟩) 32 (c - 32)) rfl (zet rfl rfl Q2.out) ?_;simp only [aP,lA,lZ,lS]
  refine zaa (.tuple #[nv PY,.nilIface]) rfl (zaf (args:=[.slice (some ⟨b,o + 32,none⟩) 32 (c - 32)]) rfl rfl (fun W => zab Tryd.func21 rfl rfl _ W) (fun W hW => KY.out W (hx.trans hW))) ?_;simp only [aP,lA,lZ,lS]
  refine zaa (.tuple #[nv PY,.nilIface]) rfl (zae (.inl rfl) rfl) ?_;simp only [aP,lA,lZ,lS]
  refine zaa (nv PY) rfl (zar rfl rfl rfl) ?_;simp only [aP,lA,lZ,lS]
  refine zaa (.nilIface) rfl (zar rfl rfl rfl) ?_;simp only [aP,lA,lZ,lS]
  exact zah
 refine zbf _ _ rfl rfl rfl rfl rfl rfl rfl (hzN ·) (fun _ => rfl) (fun _ => rfl) (iN _) (hsN _) (zbe _) ?_
 intro gz w3 hgz bz hE
 replace b0:=hE.block b0
 replace bx:=hE.block bx
 replace hx:=hx.trans hE
 clear hE
 simp only [aP,lA,lZ,lS]
 clear hgz
 go_upto_region 5 with (fail)
 refine' zaj (m:=3) (A:=_) (by kernel_rfl) ?h3a ?h3b
 case h3a =>
  refine zaa (nv PX) rfl (zac rfl rfl bx rfl uN rfl (iN _)) ?_;simp only [aP,lA,lZ,lS]
  refine zaa (nv PY) rfl (zac rfl rfl bz rfl uN rfl (iN _)) ?_;simp only [aP,lA,lZ,lS]
  refine zaa (gv PX PY) rfl (zau (vs:=[(0,nv PX),(1,nv PY)]) rfl rfl (fun W => bldG W _ _)) ?_;simp only [aP,lA,lZ,lS]
  exact zah
 refine zcr _ rfl rfl rfl rfl rfl rfl b0 (iSg _ _) (gc_size _ _) (zbu _ _) ?_
 intro w4 hB hb
 go_wp2
 exact bodyPost_ret (zba rfl _ _ (w.heap.size) 26 (gc PX PY) (0,0) _ rfl hb Tryd.underlying26 rfl (iSg _ _)) rfl ⟨rfl,hx.new hB (by omega)⟩
theorem on_q_is (q : Pt.Q) (w : World) : Calls Tryd.prog 14 #[pv q] w fun e w' => e = .returned (.bool true) ∧ Ext w w':=by
 have h:=on_is (Pt.pX q.1) (Pt.pY q.1) (Pt.pFar q.1) (p_top q.1).1 (p_top q.1).2 w
 rw [onB_of] at h
 exact h
end Go.Proofs.YtmfjigcdhijkjaaDoor
