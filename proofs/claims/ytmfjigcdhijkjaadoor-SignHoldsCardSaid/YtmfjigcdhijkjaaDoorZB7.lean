/-
  Of Parts Top RCmp N2 Word Bytes ROf G8 Bit Len PS NL RBytes RAdd.
-/
import Derived.Test.YtmfjigcdhijkjaaDoorRows
import Derived.WalkKit
import Derived.WalkSpells
import Derived.WalkLawsBesides
import Derived.Deep.LoopGhost
import Derived.Deep.CutRange
import Derived.Deep.CutBlock
import Derived.Deep.RegionWith
import Derived.Deep.RegionHeld3
import Derived.Deep.QuietTactic
import Derived.BigQuiet
import Derived.BigRegion
import Derived.Deep.MidRow
import Derived.Laws.OwnMore
import Derived.Deep.AppendLies
import Derived.Test.YtmfjigcdhijkjaaDoorZB1
import Derived.Test.YtmfjigcdhijkjaaDoorZB3
import Derived.Test.YtmfjigcdhijkjaaDoorZB4
import Derived.Test.YtmfjigcdhijkjaaDoorZB2
import Derived.Test.YtmfjigcdhijkjaaDoorZB5
set_option maxRecDepth 1000000
set_option maxHeartbeats 20000000
namespace Go.Proofs.YtmfjigcdhijkjaaDoor
open Go.RowKit
open Go.Act renaming put → aP
open List renaming setIfInBounds_toArray → lA, set_cons_zero → lZ, set_cons_succ → lS
theorem infoInt : (Tryd.prog.info? 3).map (fun i => (i.zero,i.size,i.bytes)) = some (some (.int .i64 0),1,8):=by kernel_rfl
def ptv (X j : Nat) : Value:=.int .i64 (pt X j)
theorem ptL_succ (X m : Nat) : (List.range (m + 1)).map (ptv X) = (List.range m).map (ptv X) ++ [.int .i64 (pt X m)]:=by
 rw [List.range_succ,List.map_append]; rfl
theorem parts_any (X : Nat) (w : World) :
  Calls Tryd.prog 40 #[.agg #[.int .u64 (wd X 0),.int .u64 (wd X 1),.int .u64 (wd X 2),.int .u64 (wd X 3)]] w fun e w' => ∃ v,e = .returned v ∧ w'.ownsRow (w.heap.size + 1) 3 1 v 16 ((List.range 16).map (ptv X)) ∧ Below w.heap.size w w':=by
 obtain ⟨i0,hi,hz0,hz1,hz2⟩:=info_parts infoInt
 go_enter Tryd.func40,Tryd.ntmps40
 go_wp2
 go_loopw [3,4] (fun v i wr => ∃ k : Nat,k ≤ 4 ∧ i = .int .i64 k ∧ wr.ownsRow (w.heap.size + 1) 3 1 v (4 * k) ((List.range (4 * k)).map (ptv X)) ∧ wr.rowIs w.heap.size 24 4 (fun j => .int .u64 (wd X j)) ∧ Below w.heap.size w wr)
  (fun _ i _ => 4 - (intOf i).toNat)
 case atStart => exact ⟨0,by omega,rfl,World.ownsRow_nil _ _ _ _,zap (n:=4) (by simp) rfl (arr4 fun j => .int .u64 (wd X j)),(Below.refl _ _).alloc (by simp) _⟩
 case round =>
  obtain ⟨i,hi4,rfl,hown,hR,hbel⟩:=hrel
  by_cases hlt : i < 4
  ·
   have c1:=hR.cell hlt
   have hd : decide ((i : Int) < 4) = true:=by simp; omega
   go_wp2
   clear c1
   obtain ⟨wo,hwo⟩ : ∃ wo : World,wo = wr:=⟨_,rfl⟩
   rw [← hwo] at hown hR hbel ⊢
   clear hwo
   go_loopw [3,5,6] (fun v q k wq => ∃ m : Nat,m ≤ 4 ∧ k = .int .i64 m ∧ q = .int .u64 (wk X i m) ∧ wq.ownsRow (w.heap.size + 1) 3 1 v (4 * i + m) ((List.range (4 * i + m)).map (ptv X)) ∧ wq.rowIs w.heap.size 24 4 (fun j => .int .u64 (wd X j)) ∧ Below w.heap.size w wq)
    (fun _ _ k _ => 4 - (intOf k).toNat)
   case atStart => exact ⟨0,by omega,rfl,by rw [wk_zero],hown,hR,hbel⟩
   case round =>
    obtain ⟨m,hm4,rfl,rfl,hown,hR,hbel⟩:=hrel
    have hq:=wk_lo X i m
    have hq2:=wk_le X i m
    by_cases hlm : m < 4
    ·
     have hsz:=hR.lt
     go_wp2_with (at_builtin; refine wpList_append_own _ rfl _ _ 56 rfl (w.heap.size + 1) 3 i0 (.int .i64 0) 1 8 Tryd.underlying56 hi hz0 hz1 hz2 rfl (by decide) _ _ _ rfl (hown.alloc _) ⟨wr.heap.size,0,none⟩ 1 1 [.int .i64 (wk X i m % 65536)] rfl rfl ?c1 ?c2 ?c3 ?c4 ?c5 ?_)
     case c1 =>
      intro j u hj
      match j,hj with
      | 0,hj => simp at hj; subst hj; simp [Addr.add]
     case c2 => intro u hu; simp at hu; subst hu; rfl
     case c3 => unfold maxLen; omega
     case c4 => omega
     case c5 => simp; omega
     intro v' w1 hown' hgrow _
     rw [wk_pt X i m hlm,← ptL_succ] at hown'
     have hR1:=row_grown (hR.alloc _) hgrow (fun e => by have:=(hown.lt _ e.symm).1; omega)
     have hb1:=(hbel.alloc (by omega) _).grown hgrow (by simp; omega) (fun k e => by have:=(hown.lt _ e).1; omega)
     clear hown hgrow hR hbel
     go_wp2
     go_roundw
     case rel => exact ⟨m + 1,by omega,by go_num,by rw [wk_succ],hown',hR1,hb1⟩
     case measure => simp [intOf]; omega
    ·
     obtain rfl : m = 4:=by omega
     go_wp2
     go_roundw
     case rel => exact ⟨i + 1,by omega,by go_num,by rw [show 4 * (i + 1) = 4 * i + 4 by omega]; exact hown,hR,hbel⟩
     case measure => simp [intOf]; omega
  ·
   obtain rfl : i = 4:=by omega
   go_wp2
   go_ret
   exact ⟨_,rfl,hown,hbel⟩
theorem zeb (X : Nat) (w : World) :
  Calls Tryd.prog 40 #[.agg #[.int .u64 (wd X 0),.int .u64 (wd X 1),.int .u64 (wd X 2),.int .u64 (wd X 3)]] w fun e w' => ∃ g cap,e = .returned (.slice (some ⟨g,0,none⟩) 16 cap) ∧ w.heap.size ≤ g ∧ Pre w' g 3 16 (ptv X) ∧ Below w.heap.size w w':=by
 refine (parts_any X w).mono ?_
 rintro e w' ⟨v,rfl,hown,hb⟩
 obtain ⟨g,cap,rfl,_,hg,hp⟩:=Pre.of_own hown (by omega)
 exact ⟨g,cap,rfl,by omega,hp,hb⟩
end Go.Proofs.YtmfjigcdhijkjaaDoor
namespace Go.Proofs.YtmfjigcdhijkjaaDoor
theorem top_w16 : top = w16 ^ 16:=by unfold top; rw [w64_w16,← Nat.pow_mul]
end Go.Proofs.YtmfjigcdhijkjaaDoor
namespace Go.Proofs.YtmfjigcdhijkjaaDoor
open Go.RowKit
open Go.Act renaming put → aP
open List renaming setIfInBounds_toArray → lA, set_cons_zero → lZ, set_cons_succ → lS
def cmpK (X Y k : Nat) : Int:=cmpN (X % w16 ^ k) (Y % w16 ^ k)
theorem cmpK_lt {X Y k : Nat} (h : pt X k < pt Y k) : cmpK X Y (k + 1) = -1:=by
 unfold pt at h
 unfold cmpK
 rw [zhj _ _ _ _ zeh,if_pos (by omega)]
theorem cmpK_gt {X Y k : Nat} (h : pt Y k < pt X k) : cmpK X Y (k + 1) = 1:=by
 unfold pt at h
 unfold cmpK
 rw [zhj _ _ _ _ zeh,if_neg (by omega),if_pos (by omega)]
theorem cmpK_eq {X Y k : Nat} (h : pt X k = pt Y k) : cmpK X Y (k + 1) = cmpK X Y k:=by
 unfold pt at h
 unfold cmpK
 rw [zhj _ _ _ _ zeh,if_neg (by omega),if_neg (by omega)]
theorem cmpK_top {X Y : Nat} (hX : X < top) (hY : Y < top) : cmpK X Y 16 = cmpN X Y:=by
 rw [top_w16] at *
 unfold cmpK
 rw [Nat.mod_eq_of_lt hX,Nat.mod_eq_of_lt hY]
theorem rcmp_calls (X Y : Nat) (hX : X < top) (hY : Y < top) (w : World) :
  Calls Tryd.prog 38 #[.agg #[.int .u64 (wd X 0),.int .u64 (wd X 1),.int .u64 (wd X 2),.int .u64 (wd X 3)],.agg #[.int .u64 (wd Y 0),.int .u64 (wd Y 1),.int .u64 (wd Y 2),.int .u64 (wd Y 3)]] w fun e w' => e = .returned (.int .i64 (cmpN X Y)) ∧ Below w.heap.size w w':=by
 have hRB : ((w.alloc (.cells #[.int .u64 (wd X 0),.int .u64 (wd X 1),.int .u64 (wd X 2),.int .u64 (wd X 3)] 24)).alloc (.cells #[.int .u64 (wd Y 0),.int .u64 (wd Y 1),.int .u64 (wd Y 2),.int .u64 (wd Y 3)] 24)).rowIs (w.heap.size + 1) 24 4 (fun j => .int .u64 (wd Y j)):=zap (n:=4) (by simp) rfl (arr4 fun j => .int .u64 (wd Y j))
 have hB0 : Below w.heap.size w ((w.alloc (.cells #[.int .u64 (wd X 0),.int .u64 (wd X 1),.int .u64 (wd X 2),.int .u64 (wd X 3)] 24)).alloc (.cells #[.int .u64 (wd Y 0),.int .u64 (wd Y 1),.int .u64 (wd Y 2),.int .u64 (wd Y 3)] 24)):=((Below.refl _ _).alloc (by simp) _).alloc (by simp) _
 go_enter Tryd.func38,Tryd.ntmps38
 go_wp2_with fail
 refine (zeb X _).mono ?_
 rintro e w1 ⟨g1,cap1,rfl,hg1,hp1a,hb1⟩
 simp only [World.size_alloc] at hg1
 have hRB1:=zak hRB hb1 (by simp)
 have hB1:=hB0.trans (hb1.mono (by simp; omega))
 clear hRB hB0 hb1
 obtain ⟨c0,c1,c2,c3⟩:=zan hRB1
 go_wp2_with fail
 refine (zeb Y _).mono ?_
 rintro e w2 ⟨g2,cap2,rfl,hg2,hp2b,hb2⟩
 have hp1b:=hp1a.below hb2 hp1a.lt
 have hB2:=hB1.trans (hb2.mono hB1.size)
 clear hRB1 hB1 hb2 c0 c1 c2 c3 hp1a hg2 hg1
 go_wp2
 go_loopw [7,8] (fun c i wr => ∃ k : Nat,k ≤ 16 ∧ i = .int .i64 k ∧ c = .int .i64 (cmpK X Y k) ∧ Pre wr g1 3 16 (ptv X) ∧ Pre wr g2 3 16 (ptv Y) ∧ Below w.heap.size w wr)
  (fun _ i _ => 16 - (intOf i).toNat)
 case atStart => exact ⟨0,by omega,rfl,by simp [cmpK,cmpN,Nat.mod_one],hp1b,hp2b,hB2⟩
 case round =>
  clear hp1b hp2b hB2
  obtain ⟨k,hk,rfl,rfl,hp1,hp2,hbel⟩:=hrel
  by_cases hlt : k < 16
  ·
   have c1:=hp1.cell hlt
   have c2:=hp2.cell hlt
   simp only [ptv] at c1 c2
   go_wp2
   rcases Int.lt_trichotomy (pt X k) (pt Y k) with h | h | h
   ·
    have h2 : ¬ pt Y k < pt X k:=by omega
    go_quiet (fail)
    go_wp2
    go_quiet (fail)
    go_wp2
    go_roundw
    case rel => exact ⟨k + 1,by omega,by go_num,by rw [cmpK_lt h],hp1.drewN _,hp2.drewN _,zbt hbel _⟩
    case measure => simp [intOf]; omega
   ·
    have h1 : ¬ pt X k < pt Y k:=by omega
    have h2 : ¬ pt Y k < pt X k:=by omega
    have H:=veil h
    clear h
    go_quiet (fail)
    go_wp2
    go_quiet (fail)
    go_wp2
    go_roundw
    case rel => exact ⟨k + 1,by omega,by go_num,by rw [cmpK_eq H.out],hp1.drewN _,hp2.drewN _,zbt hbel _⟩
    case measure => simp [intOf]; omega
   ·
    have h1 : ¬ pt X k < pt Y k:=by omega
    go_quiet (fail)
    go_wp2
    go_quiet (fail)
    go_wp2
    go_roundw
    case rel => exact ⟨k + 1,by omega,by go_num,by rw [cmpK_gt h],hp1.drewN _,hp2.drewN _,zbt hbel _⟩
    case measure => simp [intOf]; omega
  ·
   obtain rfl : k = 16:=by omega
   go_wp2
   go_ret
   rw [← cmpK_top hX hY]
   exact ⟨rfl,hbel⟩
theorem zcs : Pt.nn < top:=by decide +kernel
theorem nn_words : wd Pt.nn 0 = 17562291160714782033 ∧ wd Pt.nn 1 = 13611842547513532036 ∧ wd Pt.nn 2 = 18446744073709551615 ∧ wd Pt.nn 3 = 18446744069414584320:=by decide +kernel
theorem nn_is (w : World) : Calls Tryd.prog 39 #[] w fun e w' => e = .returned (nv Pt.nn) ∧ Ext w w':=by
 obtain ⟨l0,l1,l2,l3⟩:=nn_words
 unfold nv nc
 rw [l0,l1,l2,l3]
 clear l0 l1 l2 l3
 go_enter Tryd.func39,Tryd.ntmps39
 go_wp2
 exact bodyPost_ret (results_cell_row rfl _ _ w.heap.size 24 #[.int .u64 17562291160714782033,.int .u64 13611842547513532036,.int .u64 18446744073709551615,.int .u64 18446744069414584320] (0,0) _ rfl (heap_alloc_last w _) Tryd.underlying24 rfl (by kernel_rfl)) rfl ⟨rfl,(Below.refl _ _).alloc (Nat.le_refl _) _⟩
theorem neN0 {X : Nat} (hX : X < top) (h0 : X ≠ 0) (W : World) : (binOp .neq 24 (nv X) (nv 0)).run Tryd.prog W = .ok (.bool true) W:=by
 have e:=eql_num hX zcp W
 rw [decide_eq_false h0] at e
 exact neq_of e rfl
section
variable {P : Program} {o : Oper} {a : Act} {w : World}
theorem zfe {x : Operand} {ty ty2 : TypeId} {c : Int} {v : Bool} (ho : o.op = .binOp .lss ty x (.const (.int .i64 0)) ty2) (hx : a.eval x = .int .i64 c) (hv : decide (c < 0) = v) : Made P o (.bool v) a w:=zce fun W _ => by
 have h0 : a.eval (.const (.int .i64 0)) = .int .i64 0:=rfl
 unfold execOp
 simp only [ho]
 generalize a.eval = ρ at *
 subst hv
 rw [hx,h0]
 simp [go_sem,eqGuard]
end
theorem cmpL {X Y : Nat} (h : X < Y) : decide (cmpN X Y < 0) = true:=by unfold cmpN; rw [if_pos h]; rfl
theorem cmpG {X Y : Nat} (h : ¬ X < Y) : decide (cmpN X Y < 0) = false:=by
 unfold cmpN
 rw [if_neg h]
 split <;> rfl
theorem may_zero  (w : World) :
  Calls Tryd.prog 15 #[nv 0] w fun e w' => e = .returned (.bool false) ∧ Ext w w':=by
 unfold nv nc
 go_enter Tryd.func15,Tryd.ntmps15
 go_upto_region 1 with (fail)
 obtain ⟨hx,b0⟩:=blocks1 w (.cells #[.int .u64 (wd 0 0),.int .u64 (wd 0 1),.int .u64 (wd 0 2),.int .u64 (wd 0 3)] 24)
 generalize w.alloc (.cells #[.int .u64 (wd 0 0),.int .u64 (wd 0 1),.int .u64 (wd 0 2),.int .u64 (wd 0 3)] 24) = w1 at *
 have b0 : w1.heap[w.heap.size]? = some (.cells (nc 0) 24 (0,0)):=b0
 refine' zcc (m:=10) (A:=_) 10 (by kernel_rfl) (by kernel_rfl) ?h1 ?h2
 case h1 =>
  refine zaa (nv 0) rfl (zac rfl rfl b0 rfl uN rfl (iN _)) ?_;simp only [aP,lA,lZ,lS]
  refine zaa (nv 0) rfl (zau rfl rfl (bldN0 ·)) ?_;simp only [aP,lA,lZ,lS]
  refine zaa (.bool false) rfl (zbs rfl rfl rfl (gN _ _ _ _ _) neN) ?_;simp only [aP,lA,lZ,lS]
  refine zaa (.bool false) rfl (zae (.inl rfl) rfl) ?_;simp only [aP,lA,lZ,lS]
  refine zaw rfl ?_;simp only [aP,lA,lZ,lS]
  refine zaw rfl ?_;simp only [aP,lA,lZ,lS]
  refine zaw rfl ?_;simp only [aP,lA,lZ,lS]
  refine zaw rfl ?_;simp only [aP,lA,lZ,lS]
  refine zaa (.bool false) rfl (zaq rfl rfl rfl) ?_;simp only [aP,lA,lZ,lS]
  refine zaa (.bool false) rfl (zae (.inr rfl) rfl) ?_;simp only [aP,lA,lZ,lS]
  exact zah
 refine zbq rfl (by kernel_rfl) ?_
 intro w2 hE
 refine NoPanic.normal ?_
 replace hx:=hx.trans hE
 clear hE
 go_wp2
 go_ret
 exact ⟨rfl,hx⟩
theorem may_in (X : Nat) (hX : X < top) (h0 : X ≠ 0) (hl : X < Pt.nn) (w : World) :
  Calls Tryd.prog 15 #[nv X] w fun e w' => e = .returned (.bool true) ∧ Ext w w':=by
 have kX:=veil hX
 have k0:=veil h0
 have kl:=veil hl
 clear hX h0 hl
 unfold nv nc
 go_enter Tryd.func15,Tryd.ntmps15
 go_upto_region 1 with (fail)
 obtain ⟨hx,b0⟩:=blocks1 w (.cells #[.int .u64 (wd X 0),.int .u64 (wd X 1),.int .u64 (wd X 2),.int .u64 (wd X 3)] 24)
 generalize w.alloc (.cells #[.int .u64 (wd X 0),.int .u64 (wd X 1),.int .u64 (wd X 2),.int .u64 (wd X 3)] 24) = w1 at *
 have b0 : w1.heap[w.heap.size]? = some (.cells (nc X) 24 (0,0)):=b0
 refine' zcc (m:=10) (A:=_) 10 (by kernel_rfl) (by kernel_rfl) ?h1 ?h2
 case h1 =>
  refine zaa (nv X) rfl (zac rfl rfl b0 rfl uN rfl (iN _)) ?_;simp only [aP,lA,lZ,lS]
  refine zaa (nv 0) rfl (zau rfl rfl (bldN0 ·)) ?_;simp only [aP,lA,lZ,lS]
  refine zaa (.bool true) rfl (zbs rfl rfl rfl (gN _ _ _ _ _) (neN0 kX.out k0.out ·)) ?_;simp only [aP,lA,lZ,lS]
  refine zaa (.bool true) rfl (zae (.inl rfl) rfl) ?_;simp only [aP,lA,lZ,lS]
  refine zag (nv X) rfl (zac rfl rfl b0 rfl uN rfl (iN _)) ?_;simp only [aP,lA,lZ,lS]
  refine zag (nv Pt.nn) rfl (zaf (args:=[]) rfl rfl (fun W => zab Tryd.func39 rfl rfl _ W) (fun W hW => nn_is W)) ?_;simp only [aP,lA,lZ,lS]
  refine zag (.int .i64 (cmpN X Pt.nn)) rfl (zaf (args:=[nv X,nv Pt.nn]) rfl rfl (fun W => zab Tryd.func38 rfl rfl _ W) (fun W hW => rcmp_calls X Pt.nn kX.out zcs W)) ?_;simp only [aP,lA,lZ,lS]
  refine zag (.bool true) rfl (zfe rfl rfl (cmpL kl.out)) ?_;simp only [aP,lA,lZ,lS]
  refine zaa (.bool true) rfl (zaq rfl rfl rfl) ?_;simp only [aP,lA,lZ,lS]
  refine zaa (.bool true) rfl (zae (.inr rfl) rfl) ?_;simp only [aP,lA,lZ,lS]
  exact zah
 refine zbq rfl (by kernel_rfl) ?_
 intro w2 hE
 refine NoPanic.normal ?_
 replace hx:=hx.trans hE
 clear hE
 go_wp2
 go_ret
 exact ⟨rfl,hx⟩
theorem may_out (X : Nat) (hX : X < top) (h0 : X ≠ 0) (hl : ¬ X < Pt.nn) (w : World) :
  Calls Tryd.prog 15 #[nv X] w fun e w' => e = .returned (.bool false) ∧ Ext w w':=by
 have kX:=veil hX
 have k0:=veil h0
 have kl:=veil hl
 clear hX h0 hl
 unfold nv nc
 go_enter Tryd.func15,Tryd.ntmps15
 go_upto_region 1 with (fail)
 obtain ⟨hx,b0⟩:=blocks1 w (.cells #[.int .u64 (wd X 0),.int .u64 (wd X 1),.int .u64 (wd X 2),.int .u64 (wd X 3)] 24)
 generalize w.alloc (.cells #[.int .u64 (wd X 0),.int .u64 (wd X 1),.int .u64 (wd X 2),.int .u64 (wd X 3)] 24) = w1 at *
 have b0 : w1.heap[w.heap.size]? = some (.cells (nc X) 24 (0,0)):=b0
 refine' zcc (m:=10) (A:=_) 10 (by kernel_rfl) (by kernel_rfl) ?h1 ?h2
 case h1 =>
  refine zaa (nv X) rfl (zac rfl rfl b0 rfl uN rfl (iN _)) ?_;simp only [aP,lA,lZ,lS]
  refine zaa (nv 0) rfl (zau rfl rfl (bldN0 ·)) ?_;simp only [aP,lA,lZ,lS]
  refine zaa (.bool true) rfl (zbs rfl rfl rfl (gN _ _ _ _ _) (neN0 kX.out k0.out ·)) ?_;simp only [aP,lA,lZ,lS]
  refine zaa (.bool true) rfl (zae (.inl rfl) rfl) ?_;simp only [aP,lA,lZ,lS]
  refine zag (nv X) rfl (zac rfl rfl b0 rfl uN rfl (iN _)) ?_;simp only [aP,lA,lZ,lS]
  refine zag (nv Pt.nn) rfl (zaf (args:=[]) rfl rfl (fun W => zab Tryd.func39 rfl rfl _ W) (fun W hW => nn_is W)) ?_;simp only [aP,lA,lZ,lS]
  refine zag (.int .i64 (cmpN X Pt.nn)) rfl (zaf (args:=[nv X,nv Pt.nn]) rfl rfl (fun W => zab Tryd.func38 rfl rfl _ W) (fun W hW => rcmp_calls X Pt.nn kX.out zcs W)) ?_;simp only [aP,lA,lZ,lS]
  refine zag (.bool false) rfl (zfe rfl rfl (cmpG kl.out)) ?_;simp only [aP,lA,lZ,lS]
  refine zaa (.bool false) rfl (zaq rfl rfl rfl) ?_;simp only [aP,lA,lZ,lS]
  refine zaa (.bool false) rfl (zae (.inr rfl) rfl) ?_;simp only [aP,lA,lZ,lS]
  exact zah
 refine zbq rfl (by kernel_rfl) ?_
 intro w2 hE
 refine NoPanic.normal ?_
 replace hx:=hx.trans hE
 clear hE
 go_wp2
 go_ret
 exact ⟨rfl,hx⟩
def mayB (X : Nat) : Bool:=decide (X ≠ 0) && decide (X < Pt.nn)
theorem may_calls (X : Nat) (hX : X < top) (w : World) : Calls Tryd.prog 15 #[nv X] w fun e w' => e = .returned (.bool (mayB X)) ∧ Ext w w':=by
 unfold mayB
 by_cases h0 : X = 0
 ·
  subst h0
  exact may_zero w
 ·
  by_cases hl : X < Pt.nn
  ·
   rw [decide_eq_true h0,decide_eq_true hl]
   exact may_in X hX h0 hl w
  ·
   rw [decide_eq_true h0,decide_eq_false hl]
   exact may_out X hX h0 hl w
theorem word_core (Z g n c j : Nat) (hn : n ≤ 32) (hj : j + 4 ≤ n) (w : World) (hp : Pre w g 3 n (ptv Z)) :
  Calls Tryd.prog 45 #[.slice (some ⟨g,0,none⟩) n c,.int .i64 (j : Int)] w fun e w' => e = .returned (.int .u64 (pt Z j + 65536 * pt Z (j + 1) + 4294967296 * pt Z (j + 2) + 281474976710656 * pt Z (j + 3))) ∧ ∃ m,w' = w.drewN m:=by
 have c0 : w.cell? ⟨g,j,none⟩ = some (.int .i64 (pt Z j)):=hp.cell (by omega)
 have c1 : w.cell? ⟨g,j + 1,none⟩ = some (.int .i64 (pt Z (j + 1))):=hp.cell (by omega)
 have c2 : w.cell? ⟨g,j + 2,none⟩ = some (.int .i64 (pt Z (j + 2))):=hp.cell (by omega)
 have c3 : w.cell? ⟨g,j + 3,none⟩ = some (.int .i64 (pt Z (j + 3))):=hp.cell (by omega)
 have l0:=pt_lo Z j
 have l1:=pt_lo Z (j + 1)
 have l2:=pt_lo Z (j + 2)
 have l3:=pt_lo Z (j + 3)
 have u0:=pt_lt Z j
 have u1:=pt_lt Z (j + 1)
 have u2:=pt_lt Z (j + 2)
 have u3:=pt_lt Z (j + 3)
 clear hp
 go_enter Tryd.func45,Tryd.ntmps45
 go_wp2
 go_quiet (fail)
 go_wp2
 go_ret
 exact ⟨rfl,_,rfl⟩
theorem zfh (Z g n c q : Nat) (a : Int) (ha : a = ((4 * q : Nat) : Int)) (hn : n ≤ 32) (hj : 4 * q + 4 ≤ n) (w : World) (hp : Pre w g 3 n (ptv Z)) :
  Calls Tryd.prog 45 #[.slice (some ⟨g,0,none⟩) n c,.int .i64 a] w fun e w' => e = .returned (.int .u64 (wd Z q)) ∧ ∃ m,w' = w.drewN m:=by
 subst ha
 rw [wd_pt]
 exact word_core Z g n c (4 * q) hn hj w hp
theorem num_calls (Z g c : Nat) (w : World) (hp : Pre w g 3 16 (ptv Z)) :
  Calls Tryd.prog 23 #[.slice (some ⟨g,0,none⟩) 16 c] w fun e w' => e = .returned (.agg #[.int .u64 (wd Z 0),.int .u64 (wd Z 1),.int .u64 (wd Z 2),.int .u64 (wd Z 3)]) ∧ Below w.heap.size w w':=by
 have hR : (w.alloc (.cells #[.int .u64 0,.int .u64 0,.int .u64 0,.int .u64 0] 24)).rowIs w.heap.size 24 4 (fun _ => .int .u64 0):=zap (n:=4) rfl rfl (arr4 fun _ => .int .u64 0)
 have HR:=veil hR
 have HP:=veil (hp.alloc (.cells #[.int .u64 0,.int .u64 0,.int .u64 0,.int .u64 0] 24))
 obtain ⟨d0,d1,d2,d3⟩:=zan hR
 obtain ⟨f0,f1,f2,f3⟩:=zay hR
 clear hR hp
 go_enter Tryd.func23,Tryd.ntmps23
 go_wp2_with fail
 refine (zfh Z g 16 c 0 0 rfl (by omega) (by omega) _ HP.out).mono ?_
 rintro e w1 ⟨rfl,m1,rfl⟩
 go_wp2_with fail
 refine (zfh Z g 16 c 1 4 rfl (by omega) (by omega) _ (HP.out.drewN _)).mono ?_
 rintro e w1 ⟨rfl,m2,rfl⟩
 go_wp2_with fail
 refine (zfh Z g 16 c 2 8 rfl (by omega) (by omega) _ (HP.out.drewN _)).mono ?_
 rintro e w1 ⟨rfl,m3,rfl⟩
 go_wp2_with fail
 refine (zfh Z g 16 c 3 12 rfl (by omega) (by omega) _ (HP.out.drewN _)).mono ?_
 rintro e w1 ⟨rfl,m4,rfl⟩
 go_wp2
 refine bodyPost_ret (results_cell_row rfl _ _ w.heap.size 24 #[.int .u64 (wd Z 0),.int .u64 (wd Z 1),.int .u64 (wd Z 2),.int .u64 (wd Z 3)] (0,0) _ rfl (blk4 (put4 (zcq HR.out _) fun j => .int .u64 (wd Z j))) Tryd.underlying24 rfl (by kernel_rfl)) rfl ⟨rfl,zat (zbt ((Below.refl _ _).alloc (Nat.le_refl _) _) _) (Nat.le_refl _) _ _ _ _⟩
def byv (X i : Nat) : Int:=(dg 256 X i : Nat)
theorem dg_byte (X m q r : Nat) (hr : r < m) : dg (256 ^ m) X q / 256 ^ r % 256 = dg 256 X (m * q + r):=by
 show dg 256 (X / (256 ^ m) ^ q % 256 ^ m) r = _
 rw [zds _ m r hr,dg,dg,← Nat.pow_mul,Nat.div_div_eq_div_mul,← Nat.pow_add]
theorem byte_word (X k : Nat) : wd X (k / 8) / 2 ^ (k % 8 * 8) % 256 = byv X k:=by
 have e : wd X (k / 8) / 2 ^ (k % 8 * 8) = ((dg w64 X (k / 8) / 256 ^ (k % 8) : Nat) : Int):=by
  unfold wd
  rw [← two_256,Int.natCast_ediv]
  simp
 rw [e]
 have h:=dg_byte X 8 (k / 8) (k % 8) (Nat.mod_lt _ (by omega))
 rw [Nat.div_add_mod,← w64_bytes] at h
 unfold byv
 omega
theorem bytes_step {X k j : Nat} (hk : k < 32) (hj : j = 31 - k) : ∀ i,i < 32 → (if i = j then Value.int .u8 (byv X k) else Value.int .u8 (if 32 ≤ i + k then byv X (31 - i) else 0)) = Value.int .u8 (if 32 ≤ i + (k + 1) then byv X (31 - i) else 0):=by
 intro i hi
 by_cases h : i = j
 ·
  rw [if_pos h,if_pos (by omega),show 31 - i = k by omega]
 ·
  rw [if_neg h]
  by_cases h2 : 32 ≤ i + k
  ·
   rw [if_pos h2,if_pos (by omega)]
  ·
   rw [if_neg h2,if_neg (by omega)]
theorem infoByte : (Tryd.prog.info? 5).map (fun i => (i.zero,i.size,i.bytes)) = some (some (.int .u8 0),1,1):=by kernel_rfl
theorem row_filled {w : World} {z : Value} {n b t : Nat} (hb : b = w.heap.size) : (w.alloc (.cells (madeCells #[z] n) t)).rowIs b t n (fun _ => z):=by
 subst hb
 exact World.rowIs_made w z n t
theorem bytes_calls (X : Nat) (w : World) :
  Calls Tryd.prog 20 #[.agg #[.int .u64 (wd X 0),.int .u64 (wd X 1),.int .u64 (wd X 2),.int .u64 (wd X 3)]] w fun e w' => ∃ g,e = .returned (.slice (some ⟨g,0,none⟩) 32 32) ∧ w.heap.size ≤ g ∧ w'.rowIs g 5 32 (fun j => .int .u8 (byv X (31 - j))) ∧ Below w.heap.size w w':=by
 obtain ⟨i0,hi,hz0,hz1,hz2⟩:=info_parts infoByte
 have hmk : ∀ W : World,(Instr.makeSlice 27 (.int .i64 32) (.int .i64 32)).run Tryd.prog W = .ok (.slice (some ⟨W.heap.size,0,none⟩) 32 32) (W.alloc (.cells (madeCells #[.int .u8 0] 32) 5)) :=
  fun W => run_make_row 27 5 i0 (.int .u8 0) Tryd.underlying27 hi hz0 hz1 rfl .i64 .i64 32 (by rw [hz2]; omega) (by omega) W
 go_enter Tryd.func20,Tryd.ntmps20
 go_wp2
 go_loopw [6] (fun i wr => ∃ k : Nat,k ≤ 32 ∧ i = .int .i64 k ∧ wr.rowIs w.heap.size 24 4 (fun j => .int .u64 (wd X j)) ∧ wr.rowIs (w.heap.size + 1) 5 32 (fun j => .int .u8 (if 32 ≤ j + k then byv X (31 - j) else 0)) ∧ Below w.heap.size w wr)
  (fun i _ => 32 - (intOf i).toNat)
 case atStart => exact ⟨0,by omega,rfl,(zap (n:=4) rfl rfl (arr4 fun j => .int .u64 (wd X j))).alloc _,(row_filled (w:=w.alloc (.cells #[.int .u64 (wd X 0),.int .u64 (wd X 1),.int .u64 (wd X 2),.int .u64 (wd X 3)] 24)) (z:=.int .u8 0) (by simp)).congr (fun i hi => by rw [if_neg (by omega)]),((Below.refl _ _).alloc (by simp) _).alloc (by simp) _⟩
 case round =>
  obtain ⟨k,hk,rfl,hR,hS,hbel⟩:=hrel
  by_cases hlt : k < 32
  ·
   have c1:=hR.cell (i:=k / 8) (by omega)
   obtain ⟨j,hj⟩ : ∃ j,j = 31 - k:=⟨_,rfl⟩
   have hji : (31 : Int) - (k : Int) = (j : Int):=by omega
   have hjn : (j : Int) < (32 : Int):=by omega
   have c2:=hS.cell (i:=j) (by omega)
   have f2:=hS.frozen j
   have l1:=wd_lo X (k / 8)
   have u1:=wd_le X (k / 8)
   have HJ:=veil hj
   clear hj
   go_wp2
   go_roundw
   case rel =>
    rw [byte_word]
    exact ⟨k + 1,by omega,by go_num,zbh hR (by omega) _,(hS.set j _).congr (bytes_step hlt HJ.out),zax hbel (by omega) _⟩
   case measure => simp [intOf]; omega
  ·
   obtain rfl : k = 32:=by omega
   go_wp2
   go_ret
   exact ⟨_,rfl,by omega,hS.congr (fun i hi => by rw [if_pos (by omega)]),hbel⟩
theorem pt_put (L c k j : Nat) (hL : L < 256 ^ k) (hc : c < 256) : pt (L + c * 256 ^ k) j = if j = k / 2 then pt L j + (c * 256 ^ (k % 2) : Nat) else pt L j:=by
 have h:=dg_put 2 (k / 2) (k % 2) L c (Nat.mod_lt _ (by omega)) (by rw [Nat.div_add_mod]; exact hL) hc j
 rw [Nat.div_add_mod,← w16_bytes] at h
 unfold pt
 rw [h]
 split
 ·
  rw [Int.natCast_add]
 ·
  rfl
theorem rof_even (L c k : Nat) (hL : L < 256 ^ k) (hc : c < 256) (hk : k % 2 = 0) : pt L (k / 2) + (c : Int) = pt (L + c * 256 ^ k) (k / 2):=by
 rw [pt_put L c k _ hL hc,if_pos rfl,hk]; simp
theorem rof_odd (L c k : Nat) (hL : L < 256 ^ k) (hc : c < 256) (hk : k % 2 = 1) : pt L (k / 2) + 256 * (c : Int) = pt (L + c * 256 ^ k) (k / 2):=by
 rw [pt_put L c k _ hL hc,if_pos rfl,hk]; omega
theorem rof_step (z : Nat → Nat) (k : Nat) (hz : ∀ j,z j < 256) (i : Nat) :
  (if i = k / 2 then Value.int .i64 (pt (lev z k + z k * 256 ^ k) (k / 2)) else Value.int .i64 (pt (lev z k) i)) = Value.int .i64 (pt (lev z (k + 1)) i):=by
 show _ = Value.int .i64 (pt (lev z k + z k * 256 ^ k) i)
 by_cases h : i = k / 2
 ·
  rw [if_pos h,h]
 ·
  rw [if_neg h,pt_put _ _ _ _ (zfz hz k) (hz k),if_neg h]
theorem pt_zero (i : Nat) : pt 0 i = 0:=by unfold pt dg; simp
theorem rof_some (b o n c : Nat) (y : Nat → Nat) (hy : ∀ j,y j < 256) (hn : n ≤ 32) (w : World) (hb : b < w.heap.size) (hcell : ∀ j,j < n → w.cell? ⟨b,o + j,none⟩ = some (.int .u8 (y j))) :
  Calls Tryd.prog 10 #[.slice (some ⟨b,o,none⟩) n c] w fun e w' => e = .returned (.agg #[.int .u64 (wd (lev (fun k => y (n - 1 - k)) n) 0),.int .u64 (wd (lev (fun k => y (n - 1 - k)) n) 1),.int .u64 (wd (lev (fun k => y (n - 1 - k)) n) 2),.int .u64 (wd (lev (fun k => y (n - 1 - k)) n) 3)]) ∧ Below w.heap.size w w':=by
 obtain ⟨i0,hi,hz0,hz1,hz2⟩:=info_parts infoInt
 have hmk : ∀ W : World,(Instr.makeSlice 56 (.int .i64 16) (.int .i64 16)).run Tryd.prog W = .ok (.slice (some ⟨W.heap.size,0,none⟩) 16 16) (W.alloc (.cells (madeCells #[.int .i64 0] 16) 3)) :=
  fun W => run_make_row 56 3 i0 (.int .i64 0) Tryd.underlying56 hi hz0 hz1 rfl .i64 .i64 16 (by rw [hz2]; omega) (by omega) W
 have HY:=veil hy
 have HC:=veil hcell
 clear hy hcell
 have hn' : (n : Int) ≤ 32:=by omega
 go_enter Tryd.func10,Tryd.ntmps10
 go_wp2
 go_loopw [4] (fun i wr => ∃ k : Nat,k ≤ n ∧ i = .int .i64 k ∧ wr.rowIs w.heap.size 24 4 (fun _ => .int .u64 0) ∧ wr.rowIs (w.heap.size + 1) 3 16 (fun j => .int .i64 (pt (lev (fun k => y (n - 1 - k)) k) j)) ∧ Below w.heap.size w wr)
  (fun i _ => n - (intOf i).toNat)
 case atStart => exact ⟨0,by omega,rfl,(zap (n:=4) rfl rfl (arr4 fun _ => .int .u64 0)).alloc _,(row_filled (z:=.int .i64 0) (by simp)).congr (fun i _ => by rw [lev,pt_zero]),((Below.refl _ _).alloc (by simp) _).alloc (by simp) _⟩
 case round =>
  obtain ⟨k,hk,rfl,hR,hS,hbel⟩:=hrel
  by_cases hlt : k < n
  ·
   have c1:=hS.cell (i:=k / 2) (by omega)
   have f1:=hS.frozen (k / 2)
   obtain ⟨j,hj⟩ : ∃ j,j = n - 1 - k:=⟨_,rfl⟩
   have hji : (n : Int) - 1 - (k : Int) = (j : Int):=by omega
   have hjn : (j : Int) < (n : Int):=by omega
   have hj0 : (0 : Int) ≤ (j : Int):=by omega
   have hkn : (k : Int) < (n : Int):=by omega
   have c2:=(hbel.cell (p:=⟨b,o + j,none⟩) hb).trans (HC.out j (by omega))
   have l1:=pt_lo (lev (fun k => y (n - 1 - k)) k) (k / 2)
   have u1 : pt (lev (fun k => y (n - 1 - k)) k) (k / 2) ≤ 65535:=by have:=pt_lt (lev (fun k => y (n - 1 - k)) k) (k / 2); omega
   have u2 : (y j : Int) ≤ 255:=by have:=HY.out j; omega
   have u3 : (0 : Int) ≤ (y j : Int):=by omega
   have HS:=veil (rof_step (fun k => y (n - 1 - k)) k (fun j => HY.out _))
   have HJ:=veil hj
   clear hj
   rcases Nat.mod_two_eq_zero_or_one k with h2 | h2
   ·
    have hm : ((k : Int) % 2 == 0) = true:=by rw [beq_iff_eq]; omega
    have HM:=veil h2
    clear h2
    go_wp2
    go_region
    all_goals
     go_wp2
     go_roundw
     case rel =>
      rw [show y j = y (n - 1 - k) by rw [HJ.out],rof_even _ _ _ (zfz (fun j => HY.out _) k) (HY.out _) HM.out]
      exact ⟨k + 1,by omega,by go_num,(zbh hR (by omega) _).drew,((hS.set (k / 2) _).congr fun i _ => HS.out i).drew,(zax hbel (by omega) _).drew⟩
     case measure => simp [intOf]; omega
   ·
    have hm : ((k : Int) % 2 == 0) = false:=by rw [beq_eq_false_iff_ne]; omega
    have HM:=veil h2
    clear h2
    go_wp2
    go_region
    all_goals
     go_wp2
     go_roundw
     case rel =>
      rw [show y j = y (n - 1 - k) by rw [HJ.out],rof_odd _ _ _ (zfz (fun j => HY.out _) k) (HY.out _) HM.out]
      exact ⟨k + 1,by omega,by go_num,(zbh hR (by omega) _).drew,((hS.set (k / 2) _).congr fun i _ => HS.out i).drew,(zax hbel (by omega) _).drew⟩
     case measure => simp [intOf]; omega
  ·
   obtain rfl : k = n:=by omega
   go_wp2_with fail
   refine (num_calls (lev (fun j => y (k - 1 - j)) k) (w.heap.size + 1) 16 _ (Pre.of_row hS)).mono ?_
   rintro e w3 ⟨rfl,hb3⟩
   have hR3:=zak hR hb3 hR.lt
   have hB3:=hbel.trans (hb3.mono hbel.size)
   obtain ⟨d0,d1,d2,d3⟩:=zan hR3
   obtain ⟨f0,f1,f2,f3⟩:=zay hR3
   clear hR hS hbel hb3
   go_wp2
   refine bodyPost_ret (results_cell_row rfl _ _ w.heap.size 24 #[.int .u64 (wd (lev (fun j => y (k - 1 - j)) k) 0),.int .u64 (wd (lev (fun j => y (k - 1 - j)) k) 1),.int .u64 (wd (lev (fun j => y (k - 1 - j)) k) 2),.int .u64 (wd (lev (fun j => y (k - 1 - j)) k) 3)] (0,0) _ rfl (blk4 (put4 hR3 fun j => .int .u64 (wd (lev (fun j => y (k - 1 - j)) k) j))) Tryd.underlying24 rfl (by kernel_rfl)) rfl ⟨rfl,zat hB3 (by omega) _ _ _ _⟩
def hf (X M : Nat) : Nat:=if X % 2 = 0 then X / 2 else (X + M) / 2
theorem hf_lt {X M : Nat} (h : X < M) : hf X M < M:=by unfold hf; split <;> omega
def bit (X n : Nat) : Bool:=X / 2 ^ n % 2 == 1
theorem w64_two : w64 = 2 ^ 64:=by decide
theorem bit_dg (a n r m : Nat) (hr : r < m) : a / (2 ^ m) ^ n % 2 ^ m / 2 ^ r % 2 = a / 2 ^ (m * n + r) % 2:=by
 have h:=zds (B:=2) (a / (2 ^ m) ^ n) m r hr
 unfold dg at h
 rw [h,← Nat.pow_mul,Nat.div_div_eq_div_mul,← Nat.pow_add]
theorem bit_word (X n : Nat) : (bits BinOp.and IntKind.u64 (wd X (n / 64) / 2 ^ (n % 64)) 1 == 1) = bit X n:=by
 have e : wd X (n / 64) / 2 ^ (n % 64) = ((dg w64 X (n / 64) / 2 ^ (n % 64) : Nat) : Int):=by
  unfold wd
  rw [Int.natCast_ediv]
  simp
 have hlt : dg w64 X (n / 64) / 2 ^ (n % 64) < 18446744073709551616:=Nat.lt_of_le_of_lt (Nat.div_le_self _ _) (dg_lt zbi X _)
 rw [e,show (1 : Int) = ((1 : Nat) : Int) from rfl,u64_and_nat _ _ hlt (by omega),Nat.and_one_is_mod]
 have h:=bit_dg X (n / 64) (n % 64) 64 (Nat.mod_lt _ (by omega))
 rw [Nat.div_add_mod] at h
 unfold bit dg
 rw [w64_two,h]
 rw [Bool.eq_iff_iff]
 simp only [beq_iff_eq]
 omega
theorem bit_in (X n : Nat) (hn : n < 256) (w : World) :
  Calls Tryd.prog 51 #[.agg #[.int .u64 (wd X 0),.int .u64 (wd X 1),.int .u64 (wd X 2),.int .u64 (wd X 3)],.int .i64 (n : Int)] w fun e w' => e = .returned (.bool (bit X n)) ∧ Below w.heap.size w w':=by
 have hq : n / 64 < 4:=by omega
 have h0 : ¬ (n : Int) < 0:=by omega
 have h1 : ¬ (256 : Int) ≤ (n : Int):=by omega
 have hR : (w.alloc (.cells #[.int .u64 (wd X 0),.int .u64 (wd X 1),.int .u64 (wd X 2),.int .u64 (wd X 3)] 24)).rowIs w.heap.size 24 4 (fun j => .int .u64 (wd X j)):=zap (n:=4) (by simp) rfl (arr4 fun j => .int .u64 (wd X j))
 have c1:=hR.cell hq
 have l1:=wd_lo X (n / 64)
 have u1:=wd_le X (n / 64)
 clear hR
 go_enter Tryd.func51,Tryd.ntmps51
 go_wp2
 go_ret
 rw [← bit_word]
 exact ⟨rfl,(Below.refl _ _).alloc (Nat.le_refl _) _⟩
theorem zej {a b : Int} (h : a = b) : Ending.returned (.int .i64 a) = .returned (.int .i64 b):=by rw [h]
theorem zea (k i : Nat) (hi : i < 256) (hk : k ≤ 56) : wrap64 ((k : Int) + wrap64 (bitLen i : Int)) = ((k + bitLen i : Nat) : Int):=by
 have:=bitLen_le8 i hi
 rw [IntWalk.wrap64_in (bitLen i : Int) (by omega),IntWalk.wrap64_in _ (by omega)]
 omega
theorem zdv (x b : Nat) (h : 2 ^ b ≤ x) : bitLen x = b + bitLen (x / 2 ^ b) :=
 bitLen_shift x b (by have:=Nat.div_pos h (Nat.two_pow_pos b); omega)
theorem len64_0 (x : Int) (hl : 0 ≤ x) (hu : x ≤ 255) (w : World) : Calls Tryd.prog 77 #[.int .u64 x] w fun e w' => e = .returned (.int .i64 (bitLen x.toNat)) ∧ w' = w:=by
 have h1 : x ≤ 4294967295:=by omega
 have h2 : x ≤ 65535:=by omega
 have h3 : x ≤ 255:=by omega
 have h0 : 0 ≤ x:=by omega
 clear hu hl
 go_enter Tryd.func77,Tryd.ntmps77
 go_wp2
 go_ret
 refine ⟨zej ?_,rfl⟩
 rw [len8tab_get]
 have h:=zea 0 x.toNat (by omega) (by omega)
 simpa using h
theorem len64_8 (x : Int) (hl : 256 ≤ x) (hu : x ≤ 65535) (w : World) : Calls Tryd.prog 77 #[.int .u64 x] w fun e w' => e = .returned (.int .i64 (bitLen x.toNat)) ∧ w' = w:=by
 have h1 : x ≤ 4294967295:=by omega
 have h2 : x ≤ 65535:=by omega
 have h3 : (256 : Int) ≤ x:=by omega
 have h4 : x / 256 ≤ 255:=by omega
 have h0 : 0 ≤ x:=by omega
 clear hu hl
 go_enter Tryd.func77,Tryd.ntmps77
 go_wp2
 go_ret
 refine ⟨zej ?_,rfl⟩
 rw [len8tab_get]
 have e : (x / 256).toNat = x.toNat / 2 ^ 8:=by show _ = x.toNat / 256; omega
 rw [e,zdv x.toNat 8 (by show 256 ≤ x.toNat; omega)]
 exact zea 8 _ (by rw [← e]; omega) (by omega)
theorem len64_16 (x : Int) (hl : 65536 ≤ x) (hu : x ≤ 16777215) (w : World) : Calls Tryd.prog 77 #[.int .u64 x] w fun e w' => e = .returned (.int .i64 (bitLen x.toNat)) ∧ w' = w:=by
 have h1 : x ≤ 4294967295:=by omega
 have h2 : (65536 : Int) ≤ x:=by omega
 have h3 : x / 65536 ≤ 255:=by omega
 have h0 : 0 ≤ x:=by omega
 clear hu hl
 go_enter Tryd.func77,Tryd.ntmps77
 go_wp2
 go_ret
 refine ⟨zej ?_,rfl⟩
 rw [len8tab_get]
 have e : (x / 65536).toNat = x.toNat / 2 ^ 16:=by show _ = x.toNat / 65536; omega
 rw [e,zdv x.toNat 16 (by show 65536 ≤ x.toNat; omega)]
 exact zea 16 _ (by rw [← e]; omega) (by omega)
theorem len64_24 (x : Int) (hl : 16777216 ≤ x) (hu : x ≤ 4294967295) (w : World) : Calls Tryd.prog 77 #[.int .u64 x] w fun e w' => e = .returned (.int .i64 (bitLen x.toNat)) ∧ w' = w:=by
 have h1 : x ≤ 4294967295:=by omega
 have h2 : (65536 : Int) ≤ x:=by omega
 have h3 : (256 : Int) ≤ x / 65536:=by omega
 have h4 : x / 65536 / 256 ≤ 255:=by omega
 have h0 : 0 ≤ x:=by omega
 clear hu hl
 go_enter Tryd.func77,Tryd.ntmps77
 go_wp2
 go_ret
 refine ⟨zej ?_,rfl⟩
 rw [len8tab_get]
 have e : (x / 65536 / 256).toNat = x.toNat / 2 ^ 24:=by show _ = x.toNat / 16777216; omega
 rw [e,zdv x.toNat 24 (by show 16777216 ≤ x.toNat; omega)]
 exact zea 24 _ (by rw [← e]; omega) (by omega)
theorem len64_32 (x : Int) (hl : 4294967296 ≤ x) (hu : x ≤ 1099511627775) (w : World) : Calls Tryd.prog 77 #[.int .u64 x] w fun e w' => e = .returned (.int .i64 (bitLen x.toNat)) ∧ w' = w:=by
 have h1 : (4294967296 : Int) ≤ x:=by omega
 have h2 : x / 4294967296 ≤ 65535:=by omega
 have h3 : x / 4294967296 ≤ 255:=by omega
 have h0 : 0 ≤ x:=by omega
 clear hu hl
 go_enter Tryd.func77,Tryd.ntmps77
 go_wp2
 go_ret
 refine ⟨zej ?_,rfl⟩
 rw [len8tab_get]
 have e : (x / 4294967296).toNat = x.toNat / 2 ^ 32:=by show _ = x.toNat / 4294967296; omega
 rw [e,zdv x.toNat 32 (by show 4294967296 ≤ x.toNat; omega)]
 exact zea 32 _ (by rw [← e]; omega) (by omega)
theorem len64_40 (x : Int) (hl : 1099511627776 ≤ x) (hu : x ≤ 281474976710655) (w : World) : Calls Tryd.prog 77 #[.int .u64 x] w fun e w' => e = .returned (.int .i64 (bitLen x.toNat)) ∧ w' = w:=by
 have h1 : (4294967296 : Int) ≤ x:=by omega
 have h2 : x / 4294967296 ≤ 65535:=by omega
 have h3 : (256 : Int) ≤ x / 4294967296:=by omega
 have h4 : x / 4294967296 / 256 ≤ 255:=by omega
 have h0 : 0 ≤ x:=by omega
 clear hu hl
 go_enter Tryd.func77,Tryd.ntmps77
 go_wp2
 go_ret
 refine ⟨zej ?_,rfl⟩
 rw [len8tab_get]
 have e : (x / 4294967296 / 256).toNat = x.toNat / 2 ^ 40:=by show _ = x.toNat / 1099511627776; omega
 rw [e,zdv x.toNat 40 (by show 1099511627776 ≤ x.toNat; omega)]
 exact zea 40 _ (by rw [← e]; omega) (by omega)
theorem len64_48 (x : Int) (hl : 281474976710656 ≤ x) (hu : x ≤ 72057594037927935) (w : World) : Calls Tryd.prog 77 #[.int .u64 x] w fun e w' => e = .returned (.int .i64 (bitLen x.toNat)) ∧ w' = w:=by
 have h1 : (4294967296 : Int) ≤ x:=by omega
 have h2 : (65536 : Int) ≤ x / 4294967296:=by omega
 have h3 : x / 4294967296 / 65536 ≤ 255:=by omega
 have h0 : 0 ≤ x:=by omega
 clear hu hl
 go_enter Tryd.func77,Tryd.ntmps77
 go_wp2
 go_ret
 refine ⟨zej ?_,rfl⟩
 rw [len8tab_get]
 have e : (x / 4294967296 / 65536).toNat = x.toNat / 2 ^ 48:=by show _ = x.toNat / 281474976710656; omega
 rw [e,zdv x.toNat 48 (by show 281474976710656 ≤ x.toNat; omega)]
 exact zea 48 _ (by rw [← e]; omega) (by omega)
theorem len64_56 (x : Int) (hl : 72057594037927936 ≤ x) (hu : x ≤ 18446744073709551615) (w : World) : Calls Tryd.prog 77 #[.int .u64 x] w fun e w' => e = .returned (.int .i64 (bitLen x.toNat)) ∧ w' = w:=by
 have h1 : (4294967296 : Int) ≤ x:=by omega
 have h2 : (65536 : Int) ≤ x / 4294967296:=by omega
 have h3 : (256 : Int) ≤ x / 4294967296 / 65536:=by omega
 have h4 : x / 4294967296 / 65536 / 256 ≤ 255:=by omega
 have h0 : 0 ≤ x:=by omega
 clear hu hl
 go_enter Tryd.func77,Tryd.ntmps77
 go_wp2
 go_ret
 refine ⟨zej ?_,rfl⟩
 rw [len8tab_get]
 have e : (x / 4294967296 / 65536 / 256).toNat = x.toNat / 2 ^ 56:=by show _ = x.toNat / 72057594037927936; omega
 rw [e,zdv x.toNat 56 (by show 72057594037927936 ≤ x.toNat; omega)]
 exact zea 56 _ (by rw [← e]; omega) (by omega)
theorem len64_calls (x : Int) (h0 : 0 ≤ x) (h1 : x ≤ 18446744073709551615) (w : World) : Calls Tryd.prog 77 #[.int .u64 x] w fun e w' => e = .returned (.int .i64 (bitLen x.toNat)) ∧ w' = w:=by
 by_cases a : x ≤ 4294967295
 ·
  by_cases b : x ≤ 65535
  ·
   by_cases c : x ≤ 255
   ·
    exact len64_0 x (by omega) (by omega) w
   ·
    exact len64_8 x (by omega) (by omega) w
  ·
   by_cases c : x ≤ 16777215
   ·
    exact len64_16 x (by omega) (by omega) w
   ·
    exact len64_24 x (by omega) (by omega) w
 ·
  by_cases b : x ≤ 281474976710655
  ·
   by_cases c : x ≤ 1099511627775
   ·
    exact len64_32 x (by omega) (by omega) w
   ·
    exact len64_40 x (by omega) (by omega) w
  ·
   by_cases c : x ≤ 72057594037927935
   ·
    exact len64_48 x (by omega) (by omega) w
   ·
    exact len64_56 x (by omega) (by omega) w
theorem high_zero {X m : Nat} (hX : X < top) (h : ∀ j,m ≤ j → j < 4 → dg w64 X j = 0) : X < w64 ^ m:=by
 have hp : 0 < w64 ^ m:=Nat.pow_pos zbi
 have e : X % w64 ^ 4 = X % w64 ^ m % w64 ^ 4:=zhh zbi 4 fun i hi => by
  by_cases hlt : i < m
  ·
   rw [zds X m i hlt]
  ·
   rw [h i (by omega) hi]
   unfold dg
   rw [Nat.div_eq_of_lt (Nat.lt_of_lt_of_le (Nat.mod_lt _ hp) (Nat.pow_le_pow_right zbi (by omega)))]
   rfl
 rw [Nat.mod_eq_of_lt (show X < w64 ^ 4 from hX)] at e
 have h1:=Nat.mod_le (X % w64 ^ m) (w64 ^ 4)
 have h2:=Nat.mod_lt X hp
 omega
theorem len_word {X m : Nat} (hX : X < top) (h : ∀ j,m + 1 ≤ j → j < 4 → dg w64 X j = 0) (hne : dg w64 X m ≠ 0) : bitLen X = 64 * m + bitLen (dg w64 X m):=by
 have hlt:=high_zero hX h
 have hd : X / w64 ^ m = dg w64 X m:=by
  rw [dg,Nat.mod_eq_of_lt]
  rw [Nat.div_lt_iff_lt_mul (Nat.pow_pos zbi),Nat.mul_comm,← Nat.pow_succ]
  exact hlt
 have e : 2 ^ (64 * m) = w64 ^ m:=by rw [w64_two,← Nat.pow_mul]
 rw [← hd] at hne ⊢
 have h1:=bitLen_shift X (64 * m) (by rw [e]; exact hne)
 rw [e] at h1
 exact h1
theorem wd_toNat (X i : Nat) : (wd X i).toNat = dg w64 X i:=by unfold wd; omega
theorem bitLen_le64 (X i : Nat) : bitLen (dg w64 X i) ≤ 64:=by
 unfold bitLen
 split
 ·
  omega
 ·
  rename_i h
  have:=(Nat.log2_lt h).2 (show dg w64 X i < 2 ^ 64 from dg_lt zbi X i)
  omega
theorem len_calls (X : Nat) (hX : X < top) (w : World) :
  Calls Tryd.prog 49 #[.agg #[.int .u64 (wd X 0),.int .u64 (wd X 1),.int .u64 (wd X 2),.int .u64 (wd X 3)]] w fun e w' => e = .returned (.int .i64 (bitLen X)) ∧ Below w.heap.size w w':=by
 go_enter Tryd.func49,Tryd.ntmps49
 go_wp2
 go_loopw [3] (fun i wr => ∃ k : Nat,k ≤ 4 ∧ i = .int .i64 ((k : Int) - 1) ∧ (∀ j,k ≤ j → j < 4 → dg w64 X j = 0) ∧ wr.rowIs w.heap.size 24 4 (fun j => .int .u64 (wd X j)) ∧ Below w.heap.size w wr)
  (fun i _ => (intOf i + 1).toNat)
 case atStart => exact ⟨4,by omega,rfl,by intro j h1 h2; omega,zap (n:=4) (by simp) rfl (arr4 fun j => .int .u64 (wd X j)),(Below.refl _ _).alloc (by simp) _⟩
 case round =>
  obtain ⟨k,hk,hi,hall,hR,hbel⟩:=hrel
  have HALL:=veil hall
  clear hall
  cases k with
  | zero =>
   subst hi
   have h1:=high_zero hX HALL.out
   have hX0 : X = 0:=by simpa using h1
   have HX:=veil hX0
   clear hX0 h1
   go_wp2
   go_ret
   rw [show bitLen X = 0 by rw [HX.out]; rfl]
   exact ⟨rfl,hbel⟩
  | succ m =>
   obtain rfl : _ = Value.int .i64 (m : Int):=hi.trans (by congr 1; omega)
   have hm : m < 4:=by omega
   clear hi
   have c1:=hR.cell hm
   have l1:=wd_lo X m
   have u1:=wd_le X m
   by_cases h : dg w64 X m = 0
   ·
    have hz : (wd X m != 0) = false:=by unfold wd; rw [h]; rfl
    go_wp2
    go_roundw
    case rel => exact ⟨m,by omega,rfl,fun j h1 h2 => by
     by_cases e : j = m
     ·
      rw [e]; exact h
     ·
      exact HALL.out j (by omega) h2,hR,hbel⟩
    case measure => simp [intOf]
   ·
    have hz : (wd X m != 0) = true:=by rw [bne_iff_ne]; unfold wd; omega
    have hw:=len_word hX HALL.out h
    have hb:=bitLen_le64 X m
    have ht:=wd_toNat X m
    have HW:=veil hw
    have HT:=veil ht
    clear hw h ht
    go_wp2_with (go_at_call 77; refine (len64_calls _ l1 u1 _).mono ?_; rintro e w' ⟨rfl,rfl⟩)
    rw [HT.out]
    go_wp2
    go_ret
    rw [HW.out]
    exact ⟨zej (by rw [IntWalk.wrap64_in _ (by omega)]; omega),hbel⟩
theorem top_two : top = 2 ^ 256:=by unfold top; rw [w64_two,← Nat.pow_mul]
end Go.Proofs.YtmfjigcdhijkjaaDoor
namespace Go.Proofs.YtmfjigcdhijkjaaDoor.Pt
theorem nn_big : 3 < nn:=by decide +kernel
theorem nn_root : ∃ g : Fin nn,Root g:=by
 obtain ⟨ps,hp,h⟩:=(tab_pr tab [2] two_only tab_ok (0xffffffff00000000ffffffffffffffffbce6faada7179e84f3b9cac2fc632551,7,[2,2,2,2,3,71,131,373,3407,17449,38189,187019741,622491383,1002328039319,2624747550333869278416773953]) (by decide +kernel)).2
 exact ⟨_,(row_root (n:=nn) hp h).2⟩
abbrev Ne:=Fin nn
theorem nn_one : 1 < nn:=by have:=nn_big; omega
section
variable {n : Nat} [NeZero n]
theorem uniq_inv {x y z : Fin n} (h1 : x * y = 1) (h2 : x * z = 1) : y = z:=by
 have e : y = y * (x * z):=by rw [h2,zfw]
 rw [e,← zes,zfd y x,h1,zfc]
theorem ring_ng {x t : Fin n} (h : x * t = 1) : - x * - t = 1:=by grobner
theorem F_vlt {a : Nat} (h : a < n) : (F a : Fin n).val = a:=Nat.mod_eq_of_lt h
theorem F_ne' {a : Nat} (h0 : a ≠ 0) (h : a < n) : (F a : Fin n) ≠ 0:=fun e => h0 (by
 have h2:=congrArg Fin.val e
 rwa [Fin.val_zero,F_vlt h] at h2)
theorem F_mul_one (hn : 1 < n) {a t : Nat} (h : a * t % n = 1) : (F a : Fin n) * F t = 1:=by
 rw [← F_mul]
 apply Fin.ext
 rw [val_one hn]
 exact h
def gi (x : Fin n) : Fin n:=pf x (n - 2)
theorem gi_mul (hr : ∃ g : Fin n,Root g) (hn : 1 < n) {x : Fin n} (h : x ≠ 0) : x * gi x = 1:=by
 obtain ⟨g,hg⟩:=hr
 exact zge hg hn h
theorem gi_of (hr : ∃ g : Fin n,Root g) (hn : 1 < n) {x t : Fin n} (h : x * t = 1) : t = gi x:=by
 have hx : x ≠ 0:=by
  rintro rfl
  have e : (0 : Fin n) * t = 0:=by grobner
  rw [e] at h
  have h2:=congrArg Fin.val h
  rw [Fin.val_zero,val_one hn] at h2
  exact absurd h2 (by decide)
 exact uniq_inv h (gi_mul hr hn hx)
theorem gi_neg (hr : ∃ g : Fin n,Root g) (hn : 1 < n) {x : Fin n} (h : x ≠ 0) : gi (- x) = - gi x:=(gi_of hr hn (ring_ng (gi_mul hr hn h))).symm
end
section
variable (n : Nat) [NeZero n]
def iG (a : Nat) : Nat:=(gi (F a : Fin n)).val
theorem iG_lt (a : Nat) : iG n a < n:=(gi (F a : Fin n)).isLt
theorem iG_of (hr : ∃ g : Fin n,Root g) (hn : 1 < n) {a t : Nat} (ht : t < n) (h : a * t % n = 1) : t = iG n a:=by
 have e2:=congrArg Fin.val (gi_of hr hn (F_mul_one hn h))
 rw [F_vlt ht] at e2
 exact e2
theorem F_iG (a : Nat) : (F (iG n a) : Fin n) = gi (F a):=F_val _
omit [NeZero n] in
theorem gcd_of (hp : ∀ d,d ∣ n → d = 1 ∨ d = n) {a : Nat} (h0 : a ≠ 0) (h : a < n) : Nat.gcd a n = 1:=by
 rcases hp _ (Nat.gcd_dvd_right a n) with h1 | h1
 ·
  exact h1
 ·
  exfalso
  have h2:=Nat.gcd_dvd_left a n
  rw [h1] at h2
  have h3:=Nat.le_of_dvd (Nat.pos_of_ne_zero h0) h2
  omega
end
theorem F_ne {a : Nat} (h0 : a ≠ 0) (h : a < nn) : (F a : Ne) ≠ 0:=F_ne' h0 h
theorem gcd_nn {a : Nat} (h0 : a ≠ 0) (h : a < nn) : Nat.gcd a nn = 1:=gcd_of nn nn_pr.2 h0 h
/-! ### multiples -/
theorem mul_eq_of {a b : Nat} (h : (F a : Ne) = F b) (q : Q) : grp.mul a q = grp.mul b q:=by
 have h2:=congrArg Fin.val h
 have h3 : a % nn = b % nn:=h2
 rw [← mul_nn a,h3,mul_nn]
theorem ng_of {p q : Q} (h : grp.op p q = grp.o) : q = grp.ng p:=by
 have e:=grp.back q p
 rw [grp.comm q p,h,grp.ido] at e
 exact e.symm
theorem ng_op (p q : Q) : grp.op (grp.ng p) (grp.ng q) = grp.ng (grp.op p q):=by
 refine ng_of ?_
 rw [grp.assoc,← grp.assoc q,grp.comm q,grp.assoc (grp.ng p),grp.ngo,grp.oid,grp.ngo]
theorem mul_ng {a b : Nat} (h : (F a : Ne) = - F b) (q : Q) : grp.mul a q = grp.ng (grp.mul b q):=by
 refine ng_of ?_
 rw [← grp.mul_add]
 have e : (F (b + a) : Ne) = F 0:=by
  rw [F_add,h]
  have h0 : (F 0 : Ne) = 0:=rfl
  rw [h0]
  generalize (F b : Ne) = x
  grobner
 rw [mul_eq_of e]; rfl
theorem pX_ng (p : Q) : pX (grp.ng p).1 = pX p.1:=by
 obtain ⟨p,hp⟩:=p
 show pX (neg p) = pX p
 rcases p with _ | ⟨x,y⟩ <;> rfl
theorem pFar_ng (p : Q) : pFar (grp.ng p).1 = pFar p.1:=by
 obtain ⟨p,hp⟩:=p
 show pFar (neg p) = pFar p
 rcases p with _ | ⟨x,y⟩ <;> rfl
theorem pFar_of_pX {p : P pp} (h : pX p ≠ 0) : pFar p = false:=by
 rcases p with _ | ⟨x,y⟩
 ·
  exact absurd rfl h
 ·
  rfl
theorem mul_near {k : Nat} (h0 : k ≠ 0) (hk : k < nn) {q : Q} (hq : q ≠ grp.o) : grp.mul k q ≠ grp.o:=fun e => by
 have h:=grp.mul_gcd q k nn e (nn_all q)
 rw [gcd_nn h0 hk,grp.mul_one] at h
 exact hq h
theorem base_near : base ≠ grp.o:=fun e => by
 have h:=congrArg (fun q : Q => pFar q.1) e
 exact absurd h (by decide)
theorem far_iff (q : Q) : pFar q.1 = true ↔ q = grp.o:=by
 obtain ⟨p,hp⟩:=q
 rcases p with _ | ⟨x,y⟩
 ·
  exact ⟨fun _ => rfl,fun _ => rfl⟩
 ·
  refine ⟨fun h => absurd (show false = true from h) (by decide),fun h => ?_⟩
  have h2:=congrArg Subtype.val h
  exact absurd h2 (by show ¬ some (x,y) = none; simp)
/-! ### signatures -/
def rOf (k : Nat) : Nat:=pX (grp.mul k base).1 % nn
def sOf (d e k : Nat) : Nat:=iG nn k * ((e % nn + rOf k * d % nn) % nn) % nn
def inR (x : Nat) : Bool:=decide (x ≠ 0) && decide (x < nn)
theorem inR_iff (x : Nat) : inR x = true ↔ x ≠ 0 ∧ x < nn:=by simp [inR]
def sumOf (q : Q) (e r s : Nat) : Q:=grp.op (grp.mul (e % nn * iG nn s % nn) base) (grp.mul (r * iG nn s % nn) q)
def verB (q : Q) (e r s : Nat) : Bool:=!pFar q.1 && inR r && inR s && !pFar (sumOf q e r s).1 && decide (pX (sumOf q e r s).1 % nn = r)
theorem ring_sign {n : Nat} [NeZero n] {K K' S T e r d : Fin n} (hK : K * K' = 1) (hS : S = K' * (e + r * d)) (hT : S * T = 1) : e * T + r * T * d = K:=by
 subst hS
 have h2 : K * (K' * (e + r * d) * T) = K * 1:=by rw [hT]
 clear hT
 grobner
theorem sum_sign {d e k : Nat} (hk0 : k ≠ 0) (hk : k < nn) (hs0 : sOf d e k ≠ 0) : sumOf (grp.mul d base) e (rOf k) (sOf d e k) = grp.mul k base:=by
 have hs : sOf d e k < nn:=Nat.mod_lt _ (by have:=nn_big; omega)
 unfold sumOf
 rw [← grp.mul_mul,← grp.mul_add]
 refine mul_eq_of ?_ base
 have hS : (F (sOf d e k) : Ne) = gi (F k) * (F e + F (rOf k) * F d):=by
  unfold sOf
  rw [F_mod,F_mul,F_iG,F_mod,F_add,F_mod,F_mod,F_mul]
 have hK:=gi_mul nn_root nn_one (F_ne hk0 hk)
 have hT:=gi_mul nn_root nn_one (F_ne hs0 hs)
 rw [F_add,F_mod,F_mul,F_mod,F_mul,F_mod,F_mul,F_iG]
 exact ring_sign hK hS hT
theorem sign_holds {d e k : Nat} (hd0 : d ≠ 0) (hd : d < nn) (hk0 : k ≠ 0) (hk : k < nn) (hr : rOf k ≠ 0) (hs : sOf d e k ≠ 0) : verB (grp.mul d base) e (rOf k) (sOf d e k) = true:=by
 have h1 : pFar (grp.mul d base).1 = false:=by
  cases h : pFar (grp.mul d base).1 with
  | false => rfl
  | true => exact absurd ((far_iff _).1 h) (mul_near hd0 hd base_near)
 have hm : (0 : Nat) < nn:=by have:=nn_big; omega
 have h2 : inR (rOf k) = true:=(inR_iff _).2 ⟨hr,Nat.mod_lt _ hm⟩
 have h3 : inR (sOf d e k) = true:=(inR_iff _).2 ⟨hs,Nat.mod_lt _ hm⟩
 have hX : pX (grp.mul k base).1 ≠ 0:=fun h => hr (by unfold rOf; rw [h]; exact Nat.zero_mod _)
 unfold verB
 rw [h1,h2,h3,sum_sign hk0 hk hs,pFar_of_pX hX]
 exact decide_eq_true rfl
theorem F_turn {s : Nat} (hs : s < nn) : (F (nn - s) : Ne) = - F s:=by
 have e : (F (nn - s) : Ne) + F s = 0:=by
  rw [← F_add,Nat.sub_add_cancel (Nat.le_of_lt hs)]
  exact Fin.ext (Nat.mod_self nn)
 generalize (F (nn - s) : Ne) = a at *
 generalize (F s : Ne) = b at *
 grobner
theorem ring_m {n : Nat} [NeZero n] (a b : Fin n) : a * - b = - (a * b):=by grobner
theorem sign_turns (q : Q) (e r : Nat) {s : Nat} (h0 : s ≠ 0) (h : s < nn) : verB q e r (nn - s) = verB q e r s:=by
 have h1 : inR (nn - s) = inR s:=by
  rw [(inR_iff s).2 ⟨h0,h⟩,(inR_iff (nn - s)).2 ⟨by omega,by omega⟩]
 have hT : (F (iG nn (nn - s)) : Ne) = - F (iG nn s):=by
  rw [F_iG,F_iG,F_turn h,gi_neg nn_root nn_one (F_ne h0 h)]
 have hsum : sumOf q e r (nn - s) = grp.ng (sumOf q e r s):=by
  unfold sumOf
  have a1 : (F (e % nn * iG nn (nn - s) % nn) : Ne) = - F (e % nn * iG nn s % nn):=by
   rw [F_mod,F_mod,F_mul,F_mul,hT,ring_m]
  have a2 : (F (r * iG nn (nn - s) % nn) : Ne) = - F (r * iG nn s % nn):=by
   rw [F_mod,F_mod,F_mul,F_mul,hT,ring_m]
  rw [mul_ng a1,mul_ng a2,ng_op]
 unfold verB
 rw [h1,hsum,pFar_ng,pX_ng]
end Go.Proofs.YtmfjigcdhijkjaaDoor.Pt
namespace Go.Proofs.YtmfjigcdhijkjaaDoor
open Go.RowKit
open Go.Act renaming put → aP
open List renaming setIfInBounds_toArray → lA, set_cons_zero → lZ, set_cons_succ → lS
def cellsN : List Nat → List Value
 | [] => []
 | x :: xs => (nc x).toList ++ cellsN xs
theorem zgi : ∀ (xs ys : List Nat),cellsN (xs ++ ys) = cellsN xs ++ cellsN ys
 | [],ys => rfl
 | x :: xs,ys => by
  show (nc x).toList ++ cellsN (xs ++ ys) = ((nc x).toList ++ cellsN xs) ++ cellsN ys
  rw [zgi xs ys,List.append_assoc]
theorem cellsN_at : ∀ (xs : List Nat) (i : Nat) (x : Nat),xs[i]? = some x → ((cellsN xs).drop (i * 4)).take 4 = (nc x).toList
 | [],i,x,h => by simp at h
 | y :: xs,0,x,h => by
  obtain rfl : y = x:=by simpa using h
  rfl
 | y :: xs,i + 1,x,h => by
  have h1:=cellsN_at xs i x (by simpa using h)
  have e : (i + 1) * 4 = (nc y).toList.length + i * 4:=by
   show _ = 4 + _
   omega
  show (((nc y).toList ++ cellsN xs).drop ((i + 1) * 4)).take 4 = _
  rw [e,← List.drop_drop,List.drop_left,h1]
def OwnN (w : World) (base : Nat) (v : Value) (xs : List Nat) : Prop:=w.ownsRow base 24 4 v xs.length (cellsN xs)
section
variable {w w' : World} {base : Nat} {v : Value} {xs : List Nat}
theorem OwnN.nil (w : World) (base : Nat) : OwnN w base (.slice none 0 0) []:=World.ownsRow_nil _ _ _ _
theorem OwnN.form (o : OwnN w base v xs) : ∃ A c,v = .slice A xs.length c ∧ xs.length ≤ c:=by
 rcases o.2 with ⟨h,h0⟩ | ⟨g,cap,cur,h,_,_,hn,_⟩
 ·
  exact ⟨none,0,by rw [h,h0],by omega⟩
 ·
  exact ⟨_,cap,h,hn⟩
theorem OwnN.lt (o : OwnN w base v xs) {k : Nat} (hk : v.ownBlock = some k) : base ≤ k ∧ k < w.heap.size:=World.ownsRow.lt o k hk
theorem OwnN.keep (o : OwnN w base v xs) (h : ∀ k,v.ownBlock = some k → w'.heap[k]? = w.heap[k]?) : OwnN w' base v xs:=by
 refine ⟨o.1,?_⟩
 rcases o.2 with hn | ⟨g,cap,cur,rfl,hbg,hh,rest⟩
 ·
  exact .inl hn
 ·
  exact .inr ⟨g,cap,cur,rfl,hbg,(h g rfl).trans hh,rest⟩
theorem OwnN.ext (o : OwnN w base v xs) (h : Ext w w') : OwnN w' base v xs:=o.keep fun k hk => Below.block h k (o.lt hk).2
theorem OwnN.but {r : Nat} (o : OwnN w base v xs) (h : But r w w') (hr : r < base) : OwnN w' base v xs:=o.keep fun k hk => h.block k (o.lt hk).2 (by have:=(o.lt hk).1; intro e; injection e; omega)
theorem OwnN.base_le {base' : Nat} (o : OwnN w base v xs) (hb : base' ≤ base) : OwnN w base' v xs :=
 ⟨o.1,o.2.elim .inl fun ⟨g,cap,cur,hv,hg,r⟩ => .inr ⟨g,cap,cur,hv,Nat.le_trans hb hg,r⟩⟩
theorem OwnN.at (o : OwnN w base v xs) {i : Nat} (hi : i < xs.length) : ∃ g cap,v = .slice (some ⟨g,0,none⟩) xs.length cap ∧ base ≤ g ∧ g < w.heap.size ∧ w.rangeAt g (i * 4) (nc (xs[i]'hi)).toList:=by
 rcases o.2 with ⟨_,h0⟩ | ⟨g,cap,cur,rfl,hbg,hh,hn,hm,hs,ht⟩
 ·
  omega
 ·
  refine ⟨g,cap,rfl,hbg,(Array.getElem?_eq_some_iff.1 hh).1,fun j u hu => ?_⟩
  have hj : j < 4:=by have:=(List.getElem?_eq_some_iff.1 hu).1; exact this
  rw [cell_of_row w g _ cur _ _ hh]
  have h1:=cellsN_at xs i _ (List.getElem?_eq_getElem hi)
  rw [← h1,List.getElem?_take_of_lt hj,List.getElem?_drop,← ht,List.getElem?_take_of_lt (by omega)] at hu
  simpa using hu
end
theorem infoN32 : (Tryd.prog.info? 24).map (fun i => (i.zero,i.size,i.bytes)) = some (some (.agg #[.int .u64 0,.int .u64 0,.int .u64 0,.int .u64 0]),4,32):=by kernel_rfl
theorem info_parts4 {i : Option TypeInfo} {z : Value} {n b : Nat} (h : i.map (fun i => (i.zero,i.size,i.bytes)) = some (some z,n,b)) : ∃ j,i = some j ∧ j.zero = some z ∧ j.size = n ∧ j.bytes = b:=by
 cases i with
 | none => simp at h
 | some j =>
  simp only [Option.map_some,Option.some.injEq,Prod.mk.injEq] at h
  exact ⟨j,rfl,h.1,h.2.1,h.2.2⟩
theorem wpl_append_num {w : World} {ops : Array Oper} {rest : List Oper} {o : Oper} {a : Act} {Q : Exit → Act → World → Prop} (hgd : o.guard = none) (s x : Operand)
  (ho : o.op = .call { callee:=.builtin .append,args:=#[s,x],argTypes:=#[60,60] })
  (base : Nat) (v : Value) (xs : List Nat) (hs : a.eval s = v) (hown : OwnN w base v xs) (g X : Nat) (hx : a.eval x = .slice (some ⟨g,0,none⟩) 1 1) (hg : w.heap[g]? = some (.cells (nc X) 24 (0,0)))
  (hn : xs.length ≤ 1000) (hbase : base ≤ w.heap.size)
  (h : ∀ v' w',OwnN w' base v' (xs ++ [X]) → w.grownBy w' v.ownBlock → wpList Tryd.prog ops Q rest (a.put o.dst v') w') : wpList Tryd.prog ops Q (o :: rest) a w:=by
 obtain ⟨i,hi,hz,hsz,hby⟩:=info_parts4 infoN32
 refine wpList_plain hgd fun K hK => ?_
 obtain ⟨v',w',hr,h2,h3,_,_⟩:=run_append_own_at (P:=Tryd.prog) w base 60 o.type 24 i _ 4 32 Tryd.underlying60 hi hz hsz hby rfl (by decide) v xs.length (cellsN xs) hown ⟨g,0,none⟩ 1 1 (nc X).toList rfl
  (fun j u hu => by
   rw [Addr.add_mid,Nat.zero_add,cell_of_row w g j (nc X) _ _ hg]
   simpa using hu)
  (fun u hu => (Array.all_eq_true_iff_forall_mem.1 (zbe X)) u (by simpa using hu)) (by unfold maxLen; omega) (by omega) hbase
 unfold Oper.wp execOp
 simp only [ho,resolve,invoke,builtin,Sem.run_bind,Sem.run_pure,Result.andThen_ok,List.map_toArray,List.map_cons,List.map_nil,hs,hx,hr]
 refine hK _ _ (h v' w' ?_ h3)
 unfold OwnN
 rw [zgi,List.length_append]
 have e : cellsN [X] = (nc X).toList:=List.append_nil _
 rw [e]
 exact h2
theorem part_bytes (X m : Nat) : pt X m / 256 = byv X (2 * m + 1) ∧ pt X m % 256 = byv X (2 * m):=by
 have h0:=dg_byte X 2 m 0 (by omega)
 have h1:=dg_byte X 2 m 1 (by omega)
 rw [← w16_bytes] at h0 h1
 have hl:=dg_lt zeh X m
 unfold pt byv
 rw [← h1,← show dg w16 X m / 256 ^ 0 % 256 = dg 256 X (2 * m) from h0]
 generalize dg w16 X m = D at *
 unfold w16 at hl
 simp only [Nat.pow_zero,Nat.pow_one,Nat.div_one]
 omega
theorem heap_alloc_drew (w : World) (o : Obj) : (w.alloc o).drew.heap[w.heap.size]? = some o:=heap_alloc_new w o
def bsv (X j : Nat) : Value:=.int .u8 (byv X (31 - j))
theorem bsL_step (X m : Nat) (hm : m < 16) : (List.range (32 - 2 * (m + 1))).map (bsv X) ++ [.int .u8 (byv X (2 * m + 1)),.int .u8 (byv X (2 * m))] = (List.range (32 - 2 * m)).map (bsv X):=by
 rw [show 32 - 2 * m = (32 - 2 * (m + 1)) + 1 + 1 by omega,List.range_succ,List.range_succ,List.map_append,List.map_append,List.append_assoc]
 simp only [List.map_cons,List.map_nil,bsv,List.cons_append,List.nil_append]
 rw [show 31 - (32 - 2 * (m + 1)) = 2 * m + 1 by omega,show 31 - (32 - 2 * (m + 1) + 1) = 2 * m by omega]
theorem conv_hi (z : Int) (h0 : 0 ≤ z) (h1 : z ≤ 65535) : IntKind.u8.wrap (IntKind.i64.wrap (z.tdiv 256)) = z / 256:=by
 have e : z.tdiv 256 = z / 256:=Int.tdiv_eq_ediv_of_nonneg h0
 have h2 : 0 ≤ z / 256:=by omega
 have h3 : z / 256 ≤ 255:=by omega
 rw [e]
 generalize z / 256 = q at *
 rw [IntWalk.i64_in q ⟨by omega,by omega⟩,IntKind.wrap_u8]
 exact Int.emod_eq_of_lt h2 (by omega)
theorem conv_lo (z : Int) (h0 : 0 ≤ z) : IntKind.u8.wrap (z.tmod 256) = z % 256:=by
 have e : z.tmod 256 = z % 256:=Int.tmod_eq_emod_of_nonneg h0
 rw [e,IntKind.wrap_u8]
 exact Int.emod_emod_of_dvd z (Int.dvd_refl 256)
theorem none_yet (X : Nat) (W : World) (base : Nat) : W.ownsRow base 5 1 (.slice none 0 0) (32 - 2 * 16) ((List.range (32 - 2 * 16)).map (bsv X)):=by
 simp only [show 32 - 2 * 16 = 0 from by omega,List.range_zero,List.map_nil]
 exact World.ownsRow_nil _ _ _ _
theorem rbytes_own (X : Nat) (w : World) :
  Calls Tryd.prog 22 #[.agg #[.int .u64 (wd X 0),.int .u64 (wd X 1),.int .u64 (wd X 2),.int .u64 (wd X 3)]] w fun e w' => ∃ g cap,e = .returned (.slice (some ⟨g,0,none⟩) 32 cap) ∧ 32 ≤ cap ∧ w.heap.size ≤ g ∧ Own w' w.heap.size 5 (.slice (some ⟨g,0,none⟩) 32 cap) 32 (bsv X) ∧ Below w.heap.size w w':=by
 obtain ⟨i0,hi,hz0,hz1,hz2⟩:=info_parts infoByte
 have hB0 : Below w.heap.size w (w.alloc (.cells #[.int .u64 (wd X 0),.int .u64 (wd X 1),.int .u64 (wd X 2),.int .u64 (wd X 3)] 24)):=(Below.refl _ _).alloc (by simp) _
 go_enter Tryd.func22,Tryd.ntmps22
 go_wp2_with fail
 refine (zeb X _).mono ?_
 rintro e w1 ⟨g1,cap1,rfl,hg1,hp1,hb1⟩
 have hB1:=hB0.trans (hb1.mono (by simp))
 have hl1:=hp1.lt
 have hsz:=hB1.size
 clear hB0 hb1 hg1
 go_wp2
 go_loopw [4,5] (fun v i wr => ∃ k : Nat,k ≤ 16 ∧ i = .int .i64 ((k : Int) - 1) ∧ wr.ownsRow w1.heap.size 5 1 v (32 - 2 * k) ((List.range (32 - 2 * k)).map (bsv X)) ∧ Pre wr g1 3 16 (ptv X) ∧ Below w.heap.size w wr ∧ w1.heap.size ≤ wr.heap.size)
  (fun _ i _ => (intOf i + 1).toNat)
 case atStart => exact ⟨16,by omega,rfl,none_yet X w1 _,hp1,hB1,Nat.le_refl _⟩
 case round =>
  clear hp1 hB1
  obtain ⟨k,hk,hii,hown,hp,hbel,hsz2⟩:=hrel
  cases k with
  | zero =>
   subst hii
   go_wp2
   go_ret
   have ho : Own wr w1.heap.size 5 _ 32 (bsv X):=hown
   obtain ⟨g,cap,rfl,hc,hg,_⟩:=ho.pre (by omega)
   exact ⟨g,cap,rfl,hc,by omega,ho.base_le hsz,hbel⟩
  | succ m =>
   obtain rfl : _ = Value.int .i64 (m : Int):=hii.trans (by congr 1; omega)
   have hm : m < 16:=by omega
   have c1:=hp.cell hm
   simp only [ptv] at c1
   clear hii
   go_wp2
   have hm0 : (0 : Int) ≤ (m : Int):=by omega
   have hm1 : (m : Int) < 16:=by omega
   have l1:=pt_lo X m
   have u1 : pt X m ≤ 65535:=by have:=pt_lt X m; omega
   obtain ⟨q1,q2⟩:=part_bytes X m
   have E1 : IntKind.u8.wrap (IntKind.i64.wrap ((pt X m).tdiv 256)) = byv X (2 * m + 1):=(conv_hi _ l1 u1).trans q1
   have E2 : IntKind.u8.wrap ((pt X m).tmod 256) = byv X (2 * m):=(conv_lo _ l1).trans q2
   clear q1 q2
   as_aux_lemma =>
   go_region_held3 (fun w' => w'.cell? ⟨g1,m,none⟩ = some (.int .i64 (pt X m)))
    (first
     | go_keep
     | exact (hgrow.cell_far ⟨g1,m,none⟩ ((hp.alloc _).drew).lt (fun e => by have h2 : w1.heap.size ≤ g1:=(hown.lt g1 e.symm).1; omega)).trans (((hp.alloc _).drew).cell hm))
    ((refine step_append_lies _ (by rfl) _ _ _ (by rfl) w1.heap.size 5 i0 _ 1 1 Tryd.underlying27 hi hz0 hz1 hz2 rfl (by omega) _ _ _ (by rfl) ((hown.alloc _).drew)
       ⟨wr.heap.size,0,none⟩ 2 2 [.int .u8 (byv X (2 * m + 1)),.int .u8 (byv X (2 * m))] (by rfl) (by rfl) (World.news_of_block (cs:=#[.int .u8 (byv X (2 * m + 1)),.int .u8 (byv X (2 * m))]) (t:=5) (fr:=(0,0)) (heap_alloc_drew wr _)) (by simp [Value.oneCell'])
       (by omega) (by unfold maxLen; omega) (by omega) (by simp; omega) (wr.heap.size + 1) (by simp) ?_; intro gg cap w4 hown1 hgrow hat hlt))
   all_goals
    go_wp2
    go_roundw
    have hsz5 : w1.heap.size ≤ w4.heap.size:=by
     have h6:=hgrow.size
     have h5 : wr.heap.size ≤ (wr.alloc (.cells #[.int .u8 (byv X (2 * m + 1)),.int .u8 (byv X (2 * m))] 5)).drew.heap.size:=by
      show wr.heap.size ≤ (wr.alloc _).heap.size
      simp
     omega
    case rel => exact ⟨m,by omega,rfl,by rw [bsL_step X m hm,show 32 - 2 * (m + 1) + 2 = 32 - 2 * m by omega] at hown1; rw [show 32 - 2 * (m + 1) + 2 = 32 - 2 * m by omega]; exact hown1,(hp.alloc _).drew.of_block (hgrow.block g1 ((hp.alloc _).drew).lt (fun e => by have h2 : w1.heap.size ≤ g1:=(hown.lt g1 e.symm).1; omega)),((hbel.alloc (by omega) _).drew).grown hgrow (by show w.heap.size ≤ (wr.alloc _).heap.size; simp; omega) (fun k e => by have:=(hown.lt _ e).1; omega),hsz5⟩
    case measure => simp [intOf]
theorem part_step {f : Nat → Value} {Z k : Nat} (_hk : k < 16) : ∀ i,i < 16 → (if i = k then Value.int .i64 (pt Z k) else if i < k then ptv Z i else f i) = if i < k + 1 then ptv Z i else f i:=by
 intro i _
 by_cases h : i = k
 ·
  subst h; simp [ptv]
 ·
  rw [if_neg h]; by_cases h2 : i < k
  ·
   rw [if_pos h2,if_pos (by omega)]
  ·
   rw [if_neg h2,if_neg (by omega)]
end Go.Proofs.YtmfjigcdhijkjaaDoor
