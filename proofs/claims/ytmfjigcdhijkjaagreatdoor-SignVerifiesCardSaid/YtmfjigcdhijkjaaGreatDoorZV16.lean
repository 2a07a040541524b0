/-
  Of S3 S4 V0 V1 V2 ArgG.
-/
import Derived.Deep.Cut
import Derived.Deep.CutRange
import Derived.Deep.LoopGhost
import Derived.Deep.CutBlock
import Derived.Deep.RegionLaw
import Derived.ChangeSame
import Derived.Test.YtmfjigcdhijkjaaGreatDoorZV14
import Derived.Test.YtmfjigcdhijkjaaGreatDoorZV11
import Derived.Test.YtmfjigcdhijkjaaGreatDoorZV8
import Derived.Test.YtmfjigcdhijkjaaGreatDoorZV13
import Derived.Test.YtmfjigcdhijkjaaGreatDoorZV15
set_option maxRecDepth 1000000
set_option maxHeartbeats 20000000
namespace Go.Proofs.YtmfjigcdhijkjaaGreatDoor
open Go.RowKit
open Go.Act renaming put → aP
open List renaming setIfInBounds_toArray → lA, set_cons_zero → lZ, set_cons_succ → lS
theorem inR_may (X : Nat) : Pt.inR X = mayB X:=rfl
theorem ver_no {X Y R S : Nat} {f : Bool} (hX : X < top) (hY : Y < top) (hR : R < top) (hS : S < top) (h : onB X Y f = false) (y : Nat → Nat) (w : World) :
  Calls Tryz.prog 12 #[qv X Y f,dgv y,gv R S] w fun e w' => e = .returned (.bool false) ∧ Ext w w':=by
 cases hr : mayB R <;> cases hs : mayB S
 ·
  exact ver_off_ff hX hY hR hS h hr hs y
 ·
  exact ver_off_ft hX hY hR hS h hr hs y
 ·
  exact ver_off_tf hX hY hR hS h hr hs y
 ·
  exact ver_off_tt hX hY hR hS h hr hs y
theorem ver_yes (p : Pt.Q) {R S : Nat} (hR : R < top) (hS : S < top) (y : Nat → Nat) (hy : ∀ j,y j < 256) (w : World) :
  Calls Tryz.prog 12 #[pv p,dgv y,gv R S] w fun e w' => e = .returned (.bool (Pt.verB p (num32 y) R S)) ∧ Ext w w':=by
 have hon:=onB_of p
 have hX:=(p_top p.1).1
 have hY:=(p_top p.1).2
 unfold pv Pt.verB
 rw [inR_may,inR_may]
 cases hf : Pt.pFar p.1 with
 | true =>
  rw [hf] at hon
  show Calls _ _ _ w fun e w' => e = .returned (.bool false) ∧ Ext w w'
  cases hr : mayB R <;> cases hs : mayB S
  ·
   exact ver_farq_ff hX hY hR hS hon hr hs y
  ·
   exact ver_farq_ft hX hY hR hS hon hr hs y
  ·
   exact ver_farq_tf hX hY hR hS hon hr hs y
  ·
   exact ver_farq_tt hX hY hR hS hon hr hs y
 | false =>
  rw [hf] at hon
  cases hr : mayB R <;> cases hs : mayB S
  ·
   exact ver_near_ff hX hY hR hS hon hr hs y
  ·
   exact ver_near_ft hX hY hR hS hon hr hs y
  ·
   exact ver_near_tf hX hY hR hS hon hr hs y
  ·
   cases hc : Pt.pFar (Pt.sumOf p (num32 y) R S).1 with
   | true => exact ver_all_t y hX hY hR hS hon hr hs ⟨rfl,rfl,hf.symm⟩ hy rfl rfl rfl rfl rfl rfl rfl hc rfl
   | false =>
    refine (ver_all_f (m:=Pt.pX (Pt.sumOf p (num32 y) R S).1 % Pt.nn) y hX hY hR hS hon hr hs ⟨rfl,rfl,hf.symm⟩ hy rfl rfl rfl rfl rfl rfl rfl hc rfl).mono ?_
    rintro e w' ⟨rfl,hE⟩
    exact ⟨by simp only [Bool.not_false,Bool.true_and],hE⟩
def pick (D E : Nat) : List Nat → Option (Nat × Nat)
 | [] => none
 | k :: l => if (mayB (Pt.rOf k) && mayB (Pt.sOf D E k)) = true then some (Pt.rOf k,Pt.sOf D E k) else pick D E l
def sigOf (D E : Nat) (xs : List Nat) : Option (Nat × Nat):=if xs.length < 16 then none else pick D E xs
theorem pick_yes {D E k : Nat} {l : List Nat} (h1 : mayB (Pt.rOf k) = true) (h2 : mayB (Pt.sOf D E k) = true) : pick D E (k :: l) = some (Pt.rOf k,Pt.sOf D E k):=by
 show (if _ then _ else _) = _
 rw [h1,h2]; rfl
theorem pick_no {D E k : Nat} {l : List Nat} (h : (mayB (Pt.rOf k) && mayB (Pt.sOf D E k)) = false) : pick D E (k :: l) = pick D E l:=by
 show (if _ then _ else _) = _
 rw [h]; rfl
def sgv : Option (Nat × Nat) → Value
 | none => gv 0 0
 | some (r,s) => gv r s
theorem OwnN.blk {w : World} {base : Nat} {v : Value} {xs : List Nat} (o : OwnN w base v xs) (hn : 0 < xs.length) : ∃ g cap cur,v = .slice (some ⟨g,0,none⟩) xs.length cap ∧ w.heap[g]? = some (.cells cur 24 (0,0)) ∧ ∀ i k,xs[i]? = some k → (cur.toList.drop (i * 4)).take 4 = (nc k).toList:=by
 rcases o.2 with ⟨_,h0⟩ | ⟨g,cap,cur,rfl,hbg,hh,hn,hm,hs,ht⟩
 ·
  omega
 ·
  refine ⟨g,cap,cur,rfl,hh,fun i k hk => ?_⟩
  have hi : i < xs.length:=(List.getElem?_eq_some_iff.1 hk).1
  have h1:=cellsN_at xs i k hk
  rw [← h1,← ht,List.drop_take,List.take_take,show min 4 (xs.length * 4 - i * 4) = 4 by omega]
theorem drop_at {xs : List Nat} {i k : Nat} (h : xs[i]? = some k) : xs.drop i = k :: xs.drop (i + 1):=by
 obtain ⟨hi,rfl⟩:=List.getElem?_eq_some_iff.1 h
 exact List.drop_eq_getElem_cons hi
section
variable {P : Program} {o : Oper} {a : Act} {w : World}
theorem made_eqb {x y : Operand} {t : TypeId} {ty : TypeId} {b : Bool} (ho : o.op = .binOp .eql ty x y t) (hx : a.eval x = .bool b) (hy : a.eval y = .bool b)
  (hg : ∀ b W,(eqGuard .eql ty x y (.bool b) (.bool b)).run P W = .ok () W) (hr : ∀ b W,(binOp .eql ty (.bool b) (.bool b)).run P W = .ok (.bool true) W) : Made P o (.bool true) a w:=zcn fun W _ => by
 unfold execOp
 simp only [ho,hx,hy,Sem.run_bind,hg b W,Result.andThen_ok,hr b W,Sem.run_pure]
end
theorem eqbG (x y : Operand) (b : Bool) (W : World) : (eqGuard .eql 4 x y (.bool b) (.bool b)).run Tryz.prog W = .ok () W:=by simp [eqGuard,go_sem]
theorem eqbR (b : Bool) (W : World) : (binOp .eql 4 (.bool b) (.bool b)).run Tryz.prog W = .ok (.bool true) W:=by cases b <;> kernel_rfl
structure Code7 : Prop where
 up : ∀ w,KT w → Calls Tryz.prog 5 #[] w fun e w' => e = .returned (.bool true) ∧ Ext w w'
 chk_no : ∀ X Y f R S y w,X < top → Y < top → R < top → S < top → onB X Y f = false → Calls Tryz.prog 11 #[qv X Y f,dgv y,gv R S] w fun e w' => e = .returned (.bool false) ∧ Ext w w'
 chk_yes : ∀ (p : Pt.Q) R S y w,R < top → S < top → (∀ j,y j < 256) → Calls Tryz.prog 11 #[pv p,dgv y,gv R S] w fun e w' => e = .returned (.bool (Pt.verB p (num32 y) R S)) ∧ Ext w w'
section
variable {D s : Nat} {y : Nat → Nat} (hmay : mayB D = true) (hy : ∀ j,y j < 256) (hE : Ends D (num32 y % Pt.nn) 16 s)
include hmay hy hE
end
section
variable (C : Code7) {D s : Nat} {y : Nat → Nat} (hmay : mayB D = true) (hy : ∀ j,y j < 256) (hE : Ends D (num32 y % Pt.nn) 16 s)
include C hmay hy hE
end
theorem verifies_off (hC : Code7) {X Y R S : Nat} {f : Bool} (hX : X < top) (hY : Y < top) (hR : R < top) (hS : S < top) (hon : onB X Y f = false) (y : Nat → Nat) {w : World} (hK : KT w) :
  Calls Tryz.prog 4 #[qv X Y f,dgv y,gv R S] w fun e w' => e = .returned (.bool true) ∧ Ext w w':=by
 have kC:=veil hC
 have kX:=veil hX
 have kY:=veil hY
 have kR:=veil hR
 have kS:=veil hS
 have kon:=veil hon
 have kK:=veil hK
 clear hK hon hS hR hY hX hC
 unfold qv qc gv gc dgv dgc
 go_enter Tryz.func4,Tryz.ntmps4
 go_upto_region 1 with (fail)
 obtain ⟨hx,b0,b1,b2⟩:=blocks3 w (.cells #[.int .u64 (wd X 0),.int .u64 (wd X 1),.int .u64 (wd X 2),.int .u64 (wd X 3),.int .u64 (wd Y 0),.int .u64 (wd Y 1),.int .u64 (wd Y 2),.int .u64 (wd Y 3),.bool (f)] 29) (.cells (arrOf 32 fun i => .int .u8 (y i : Nat)) 26) (.cells #[.int .u64 (wd R 0),.int .u64 (wd R 1),.int .u64 (wd R 2),.int .u64 (wd R 3),.int .u64 (wd S 0),.int .u64 (wd S 1),.int .u64 (wd S 2),.int .u64 (wd S 3)] 35)
 generalize ((w.alloc (.cells #[.int .u64 (wd X 0),.int .u64 (wd X 1),.int .u64 (wd X 2),.int .u64 (wd X 3),.int .u64 (wd Y 0),.int .u64 (wd Y 1),.int .u64 (wd Y 2),.int .u64 (wd Y 3),.bool (f)] 29)).alloc (.cells (arrOf 32 fun i => .int .u8 (y i : Nat)) 26)).alloc (.cells #[.int .u64 (wd R 0),.int .u64 (wd R 1),.int .u64 (wd R 2),.int .u64 (wd R 3),.int .u64 (wd S 0),.int .u64 (wd S 1),.int .u64 (wd S 2),.int .u64 (wd S 3)] 35) = w1 at *
 have b0 : w1.heap[w.heap.size]? = some (.cells (qc X Y f) 29 (0,0)):=b0
 have b1 : w1.heap[w.heap.size + 1]? = some (.cells (dgc y) 26 (0,0)):=b1
 have b2 : w1.heap[w.heap.size + 1 + 1]? = some (.cells (gc R S) 35 (0,0)):=b2
 refine' zan (m:=2) (A:=_) (by kernel_rfl) ?h1 ?h2
 case h1 =>
  refine zaa (.bool true) rfl (zah (args:=[]) rfl rfl (fun W => zab Tryz.func5 rfl rfl _ W) (fun W hW => kC.out.up W (kK.out.call (hx.trans hW)))) ?_
  refine zaa (.bool true) rfl (zaf (.inr rfl) rfl) ?_;simp only [aP,lA,lZ,lS]
  exact zaj
 refine zak rfl ?_
 intro w2 hE
 replace b0:=hE.block b0
 replace b1:=hE.block b1
 replace b2:=hE.block b2
 replace hx:=hx.trans hE
 clear hE
 go_upto_region 2 with (fail)
 refine' zcf (m:=13) (A:=_) 13 (by kernel_rfl) (by kernel_rfl) ?h2a ?h2b
 case h2a =>
  refine zaa (.bool true) rfl (zaf (.inl rfl) rfl) ?_
  refine zaa (.bool true) rfl (zaf (.inl rfl) rfl) ?_;simp only [aP,lA,lZ,lS]
  refine zam (qv X Y f) rfl (zac rfl rfl b0 rfl Tryz.underlying29 rfl (iT _ _ _)) ?_
  refine zam (dgv y) rfl (zac rfl rfl b1 rfl Tryz.underlying26 rfl (iDg _)) ?_;simp only [aP,lA,lZ,lS]
  refine zam (gv R S) rfl (zac rfl rfl b2 rfl Tryz.underlying35 rfl (iSg _ _)) ?_
  refine zam (.bool false) rfl (zah (args:=[qv X Y f,dgv y,gv R S]) rfl rfl (fun W => zab Tryz.func11 rfl rfl _ W) (fun W hW => kC.out.chk_no _ _ _ _ _ y W kX.out kY.out kR.out kS.out kon.out)) ?_;simp only [aP,lA,lZ,lS]
  refine zam (qv X Y f) rfl (zac rfl rfl b0 rfl Tryz.underlying29 rfl (iT _ _ _)) ?_
  refine zam (dgv y) rfl (zac rfl rfl b1 rfl Tryz.underlying26 rfl (iDg _)) ?_;simp only [aP,lA,lZ,lS]
  refine zam (gv R S) rfl (zac rfl rfl b2 rfl Tryz.underlying35 rfl (iSg _ _)) ?_
  refine zam (.bool false) rfl (zah (args:=[qv X Y f,dgv y,gv R S]) rfl rfl (fun W => zab Tryz.func12 rfl rfl _ W) (fun W hW => ver_no kX.out kY.out kR.out kS.out kon.out y W)) ?_;simp only [aP,lA,lZ,lS]
  refine zam (.bool true) rfl (zed rfl rfl rfl (fun _ => by kernel_rfl) (fun _ => by kernel_rfl)) ?_
  refine zaa (.bool true) rfl (zat rfl rfl rfl) ?_;simp only [aP,lA,lZ,lS]
  refine zaa (.bool true) rfl (zaf (.inr rfl) rfl) ?_;simp only [aP,lA,lZ,lS]
  exact zaj
 refine zbt rfl (by kernel_rfl) ?_
 intro w3 hE
 refine NoPanic.normal ?_
 replace hx:=hx.trans hE
 clear hE
 go_wp2
 go_ret
 exact ⟨rfl,hx⟩
theorem verifies_on (hC : Code7) (p : Pt.Q) {R S : Nat} (hR : R < top) (hS : S < top) (y : Nat → Nat) (hy : ∀ j,y j < 256) {b : Bool} (hb : b = Pt.verB p (num32 y) R S) {w : World} (hK : KT w) :
  Calls Tryz.prog 4 #[qv (Pt.pX p.1) (Pt.pY p.1) (Pt.pFar p.1),dgv y,gv R S] w fun e w' => e = .returned (.bool true) ∧ Ext w w':=by
 have kC:=veil hC
 have kR:=veil hR
 have kS:=veil hS
 have ky:=veil hy
 have kb:=veil hb
 have kK:=veil hK
 clear hK hb hy hS hR hC
 unfold qv qc gv gc dgv dgc
 go_enter Tryz.func4,Tryz.ntmps4
 go_upto_region 1 with (fail)
 obtain ⟨hx,b0,b1,b2⟩:=blocks3 w (.cells #[.int .u64 (wd (Pt.pX p.1) 0),.int .u64 (wd (Pt.pX p.1) 1),.int .u64 (wd (Pt.pX p.1) 2),.int .u64 (wd (Pt.pX p.1) 3),.int .u64 (wd (Pt.pY p.1) 0),.int .u64 (wd (Pt.pY p.1) 1),.int .u64 (wd (Pt.pY p.1) 2),.int .u64 (wd (Pt.pY p.1) 3),.bool (Pt.pFar p.1)] 29) (.cells (arrOf 32 fun i => .int .u8 (y i : Nat)) 26) (.cells #[.int .u64 (wd R 0),.int .u64 (wd R 1),.int .u64 (wd R 2),.int .u64 (wd R 3),.int .u64 (wd S 0),.int .u64 (wd S 1),.int .u64 (wd S 2),.int .u64 (wd S 3)] 35)
 generalize ((w.alloc (.cells #[.int .u64 (wd (Pt.pX p.1) 0),.int .u64 (wd (Pt.pX p.1) 1),.int .u64 (wd (Pt.pX p.1) 2),.int .u64 (wd (Pt.pX p.1) 3),.int .u64 (wd (Pt.pY p.1) 0),.int .u64 (wd (Pt.pY p.1) 1),.int .u64 (wd (Pt.pY p.1) 2),.int .u64 (wd (Pt.pY p.1) 3),.bool (Pt.pFar p.1)] 29)).alloc (.cells (arrOf 32 fun i => .int .u8 (y i : Nat)) 26)).alloc (.cells #[.int .u64 (wd R 0),.int .u64 (wd R 1),.int .u64 (wd R 2),.int .u64 (wd R 3),.int .u64 (wd S 0),.int .u64 (wd S 1),.int .u64 (wd S 2),.int .u64 (wd S 3)] 35) = w1 at *
 have b0 : w1.heap[w.heap.size]? = some (.cells (qc (Pt.pX p.1) (Pt.pY p.1) (Pt.pFar p.1)) 29 (0,0)):=b0
 have b1 : w1.heap[w.heap.size + 1]? = some (.cells (dgc y) 26 (0,0)):=b1
 have b2 : w1.heap[w.heap.size + 1 + 1]? = some (.cells (gc R S) 35 (0,0)):=b2
 refine' zan (m:=2) (A:=_) (by kernel_rfl) ?h1 ?h2
 case h1 =>
  refine zaa (.bool true) rfl (zah (args:=[]) rfl rfl (fun W => zab Tryz.func5 rfl rfl _ W) (fun W hW => kC.out.up W (kK.out.call (hx.trans hW)))) ?_
  refine zaa (.bool true) rfl (zaf (.inr rfl) rfl) ?_;simp only [aP,lA,lZ,lS]
  exact zaj
 refine zak rfl ?_
 intro w2 hE
 replace b0:=hE.block b0
 replace b1:=hE.block b1
 replace b2:=hE.block b2
 replace hx:=hx.trans hE
 clear hE
 go_upto_region 2 with (fail)
 refine' zcf (m:=13) (A:=_) 13 (by kernel_rfl) (by kernel_rfl) ?h2a ?h2b
 case h2a =>
  refine zaa (.bool true) rfl (zaf (.inl rfl) rfl) ?_
  refine zaa (.bool true) rfl (zaf (.inl rfl) rfl) ?_;simp only [aP,lA,lZ,lS]
  refine zam (qv (Pt.pX p.1) (Pt.pY p.1) (Pt.pFar p.1)) rfl (zac rfl rfl b0 rfl Tryz.underlying29 rfl (iT _ _ _)) ?_
  refine zam (dgv y) rfl (zac rfl rfl b1 rfl Tryz.underlying26 rfl (iDg _)) ?_;simp only [aP,lA,lZ,lS]
  refine zam (gv R S) rfl (zac rfl rfl b2 rfl Tryz.underlying35 rfl (iSg _ _)) ?_
  refine zam (.bool b) rfl (zah (args:=[qv (Pt.pX p.1) (Pt.pY p.1) (Pt.pFar p.1),dgv y,gv R S]) rfl rfl (fun W => zab Tryz.func11 rfl rfl _ W) (fun W hW => by rw [kb.out]; exact kC.out.chk_yes p _ _ y W kR.out kS.out ky.out)) ?_;simp only [aP,lA,lZ,lS]
  refine zam (qv (Pt.pX p.1) (Pt.pY p.1) (Pt.pFar p.1)) rfl (zac rfl rfl b0 rfl Tryz.underlying29 rfl (iT _ _ _)) ?_
  refine zam (dgv y) rfl (zac rfl rfl b1 rfl Tryz.underlying26 rfl (iDg _)) ?_;simp only [aP,lA,lZ,lS]
  refine zam (gv R S) rfl (zac rfl rfl b2 rfl Tryz.underlying35 rfl (iSg _ _)) ?_
  refine zam (.bool b) rfl (zah (args:=[qv (Pt.pX p.1) (Pt.pY p.1) (Pt.pFar p.1),dgv y,gv R S]) rfl rfl (fun W => zab Tryz.func12 rfl rfl _ W) (fun W hW => by rw [kb.out]; exact ver_yes p kR.out kS.out y ky.out W)) ?_;simp only [aP,lA,lZ,lS]
  refine zam (.bool true) rfl (made_eqb rfl rfl rfl (eqbG _ _) eqbR) ?_
  refine zaa (.bool true) rfl (zat rfl rfl rfl) ?_;simp only [aP,lA,lZ,lS]
  refine zaa (.bool true) rfl (zaf (.inr rfl) rfl) ?_;simp only [aP,lA,lZ,lS]
  exact zaj
 refine zbt rfl (by kernel_rfl) ?_
 intro w3 hE
 refine NoPanic.normal ?_
 replace hx:=hx.trans hE
 clear hE
 go_wp2
 go_ret
 exact ⟨rfl,hx⟩
theorem verifies_walk (hC : Code7) (X Y : Nat) (f : Bool) (hX : X < top) (hY : Y < top) (y : Nat → Nat) (hy : ∀ j,y j < 256) (R S : Nat) (hR : R < top) (hS : S < top) (w : World) (hK : KT w) :
  Calls Tryz.prog 4 #[qv X Y f,dgv y,gv R S] w fun e w' => e = .returned (.bool true) ∧ Ext w w':=by
 cases hon : onB X Y f with
 | false => exact verifies_off hC hX hY hR hS hon y hK
 | true =>
  obtain ⟨q,rfl,rfl,rfl⟩:=onB_some hon
  exact verifies_on hC q hR hS y hy rfl hK
end Go.Proofs.YtmfjigcdhijkjaaGreatDoor
namespace Go.Proofs.YtmfjigcdhijkjaaGreatDoor
open Go.ChangeShapes Go.WideShapes Go.ChangeAt Go.RowKit
theorem cellsSig : Tryz.prog.cellsOf 35 = 8:=by kernel_rfl
def sigD {H : Type} (X Y : Nat) : DataW H:=.agg [numD X,numD Y]
theorem array8 {cs : Array Value} (h : cs.size = 8) : ∃ c0 c1 c2 c3 c4 c5 c6 c7,cs = #[c0,c1,c2,c3,c4,c5,c6,c7]:=by
 obtain ⟨l⟩:=cs
 match l,h with
 | [c0,c1,c2,c3,c4,c5,c6,c7],_ => exact ⟨c0,c1,c2,c3,c4,c5,c6,c7,rfl⟩
section
variable {H : Type} {enc : TypeId × Value → H}
theorem open_sig {W : World} {base : Nat} {v : Value} {d : DataW H} {p : List MemPlace} (hv : Value.okWide Tryz.prog W .any base 35 v) (h : DataW.Trod enc Tryz.prog W 0 (fun _ => true) true 35 v d p) :
  ∃ X Y,X < top ∧ Y < top ∧ v = gv X Y ∧ d = sigD X Y ∧ p = []:=by
 obtain ⟨cs,rfl,hsz⟩:=okWide_struct Tryz.underlying35 hv
 rw [cellsSig] at hsz
 obtain ⟨c0,c1,c2,c3,c4,c5,c6,c7,rfl⟩:=array8 hsz
 obtain ⟨fuel,hf⟩:=h
 obtain ⟨y0,y1,m,hx,_,hy0,hy1⟩:=trod_struct2 Tryz.underlying35 hf
 have hy0 : DataW.trod enc Tryz.prog W 0 (fun _ => true) true m 24 [c0,c1,c2,c3] = some y0:=by simpa [Value.cells,zdw] using hy0
 have hy1 : DataW.trod enc Tryz.prog W 0 (fun _ => true) true m 24 [c4,c5,c6,c7] = some y1:=by simpa [Value.cells,zdw] using hy1
 obtain ⟨X,lX,rfl,rfl,rfl,rfl,rfl⟩:=zfs hy0
 obtain ⟨Y,lY,rfl,rfl,rfl,rfl,rfl⟩:=zfs hy1
 simp only [Prod.mk.injEq,List.append_nil] at hx
 obtain ⟨rfl,rfl⟩:=hx
 exact ⟨X,Y,lX,lY,rfl,rfl,rfl⟩
theorem shut_sig (W : World) (base : Nat) (sp : Nat → Bool) (hd : Bool) (X Y : Nat) : DataW.Trod enc Tryz.prog W base sp hd 35 (gv X Y) (sigD X Y) [] :=
 ⟨3,by simp [sigD,gv,gc,numD,DataW.trod,Value.cells,Tryz.underlying35,Tryz.underlying24,Tryz.underlying22,cellsSig,zdw,zic,wf_wd,show List.range 4 = [0,1,2,3] from rfl]⟩
end
end Go.Proofs.YtmfjigcdhijkjaaGreatDoor
