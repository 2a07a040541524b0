/-
  Of RCmp N2 M3 NK Word Bytes ROf G8 G9 QA Q9 Bit.
-/
import Derived.Deep.LoopGhost
import Derived.Deep.CutRange
import Derived.Deep.CutBlock
import Derived.Deep.RegionWith
import Derived.Deep.RegionHeld3
import Derived.Deep.QuietTactic
import Derived.BigQuiet
import Derived.BigRegion
import Derived.Deep.Cut
import Derived.Test.YtihophdbkjhopaaGreatDoorZA5
import Derived.Test.YtihophdbkjhopaaGreatDoorZA9
import Derived.Test.YtihophdbkjhopaaGreatDoorZA6
import Derived.Test.YtihophdbkjhopaaGreatDoorZA3
import Derived.Test.YtihophdbkjhopaaGreatDoorZA4
import Derived.Test.YtihophdbkjhopaaGreatDoorZA1
set_option maxRecDepth 1000000
set_option maxHeartbeats 20000000
namespace Go.Proofs.YtihophdbkjhopaaGreatDoor
open Go.RowKit
open Go.Value renaming int → vI
open Go.IntKind renaming u64 → vU
open Go.Act renaming put → aP
open List renaming setIfInBounds_toArray → lA, set_cons_zero → lZ, set_cons_succ → lS
def cmpK (X Y k : Nat) : Int:=cmpN (X % w16 ^ k) (Y % w16 ^ k)
theorem cmpK_lt {X Y k : Nat} (h : pt X k < pt Y k) : cmpK X Y (k + 1) = -1:=by
 unfold pt at h
 unfold cmpK
 rw [zmh _ _ _ _ zif,if_pos (by omega)]
theorem cmpK_gt {X Y k : Nat} (h : pt Y k < pt X k) : cmpK X Y (k + 1) = 1:=by
 unfold pt at h
 unfold cmpK
 rw [zmh _ _ _ _ zif,if_neg (by omega),if_pos (by omega)]
theorem cmpK_eq {X Y k : Nat} (h : pt X k = pt Y k) : cmpK X Y (k + 1) = cmpK X Y k:=by
 unfold pt at h
 unfold cmpK
 rw [zmh _ _ _ _ zif,if_neg (by omega),if_neg (by omega)]
theorem cmpK_top {X Y : Nat} (hX : X < top) (hY : Y < top) : cmpK X Y 16 = cmpN X Y:=by
 rw [top_w16] at *
 unfold cmpK
 rw [Nat.mod_eq_of_lt hX,Nat.mod_eq_of_lt hY]
theorem rcmp_calls (X Y : Nat) (hX : X < top) (hY : Y < top) (w : World) :
  Calls Tryz.prog 33 #[.agg #[vI vU (wd X 0),vI vU (wd X 1),vI vU (wd X 2),vI vU (wd X 3)],.agg #[vI vU (wd Y 0),vI vU (wd Y 1),vI vU (wd Y 2),vI vU (wd Y 3)]] w fun e w' => e = .returned (.int .i64 (cmpN X Y)) ∧ Below w.heap.size w w':=by
 have hRB : ((w.alloc (.cells #[vI vU (wd X 0),vI vU (wd X 1),vI vU (wd X 2),vI vU (wd X 3)] 29)).alloc (.cells #[vI vU (wd Y 0),vI vU (wd Y 1),vI vU (wd Y 2),vI vU (wd Y 3)] 29)).rowIs (w.heap.size + 1) 29 4 (fun j => .int .u64 (wd Y j)):=zaj (n:=4) (by simp) rfl (arr4 fun j => .int .u64 (wd Y j))
 have hB0 : Below w.heap.size w ((w.alloc (.cells #[vI vU (wd X 0),vI vU (wd X 1),vI vU (wd X 2),vI vU (wd X 3)] 29)).alloc (.cells #[vI vU (wd Y 0),vI vU (wd Y 1),vI vU (wd Y 2),vI vU (wd Y 3)] 29)):=((Below.refl _ _).alloc (by simp) _).alloc (by simp) _
 go_enter Tryz.func33,Tryz.ntmps33
 go_wp2_with fail
 refine (zfk X _).mono ?_
 rintro e w1 ⟨g1,cap1,rfl,hg1,hp1a,hb1⟩
 simp only [World.size_alloc] at hg1
 have hRB1:=zad hRB hb1 (by simp)
 have hB1:=hB0.trans (hb1.mono (by simp; omega))
 clear hRB hB0 hb1
 obtain ⟨c0,c1,c2,c3⟩:=zap hRB1
 go_wp2_with fail
 refine (zfk Y _).mono ?_
 rintro e w2 ⟨g2,cap2,rfl,hg2,hp2b,hb2⟩
 have hp1b:=hp1a.below hb2 hp1a.lt
 have hB2:=hB1.trans (hb2.mono hB1.size)
 clear hRB1 hB1 hb2 c0 c1 c2 c3 hp1a hg2 hg1
 go_wp2
 go_loopw [7,8] (fun c i wr => ∃ k : Nat,k ≤ 16 ∧ i = .int .i64 k ∧ c = .int .i64 (cmpK X Y k) ∧ Pre wr g1 3 16 (ptv X) ∧ Pre wr g2 3 16 (ptv Y) ∧ Below w.heap.size w wr)
  (fun _ i _ => 16 - (intOf i).toNat)
 case atStart => exact ⟨0,by omega,rfl,by simp [cmpK,cmpN,Nat.mod_one],hp1b,hp2b,hB2⟩
 case round =>
  clear hp1b hp2b hB2
  obtain ⟨k,hk,rfl,rfl,hp1,hp2,hbel⟩:=hrel
  by_cases hlt : k < 16
  ·
   have c1:=hp1.cell hlt
   have c2:=hp2.cell hlt
   simp only [ptv] at c1 c2
   go_wp2
   rcases Int.lt_trichotomy (pt X k) (pt Y k) with h | h | h
   ·
    have h2 : ¬ pt Y k < pt X k:=by omega
    go_quiet (fail)
    go_wp2
    go_quiet (fail)
    go_wp2
    go_roundw
    case rel => exact ⟨k + 1,by omega,by go_num,by rw [cmpK_lt h],hp1.drewN _,hp2.drewN _,zaz hbel _⟩
    case measure => simp [intOf]; omega
   ·
    have h1 : ¬ pt X k < pt Y k:=by omega
    have h2 : ¬ pt Y k < pt X k:=by omega
    have H:=veil h
    clear h
    go_quiet (fail)
    go_wp2
    go_quiet (fail)
    go_wp2
    go_roundw
    case rel => exact ⟨k + 1,by omega,by go_num,by rw [cmpK_eq H.out],hp1.drewN _,hp2.drewN _,zaz hbel _⟩
    case measure => simp [intOf]; omega
   ·
    have h1 : ¬ pt X k < pt Y k:=by omega
    go_quiet (fail)
    go_wp2
    go_quiet (fail)
    go_wp2
    go_roundw
    case rel => exact ⟨k + 1,by omega,by go_num,by rw [cmpK_gt h],hp1.drewN _,hp2.drewN _,zaz hbel _⟩
    case measure => simp [intOf]; omega
  ·
   obtain rfl : k = 16:=by omega
   go_wp2
   go_ret
   rw [← cmpK_top hX hY]
   exact ⟨rfl,hbel⟩
theorem zbn : Pt.nn < top:=by decide +kernel
theorem nn_words : wd Pt.nn 0 = 17562291160714782033 ∧ wd Pt.nn 1 = 13611842547513532036 ∧ wd Pt.nn 2 = 18446744073709551615 ∧ wd Pt.nn 3 = 18446744069414584320:=by decide +kernel
theorem nn_is (w : World) : Calls Tryz.prog 34 #[] w fun e w' => e = .returned (nv Pt.nn) ∧ Ext w w':=by
 obtain ⟨l0,l1,l2,l3⟩:=nn_words
 unfold nv nc
 rw [l0,l1,l2,l3]
 clear l0 l1 l2 l3
 go_enter Tryz.func34,Tryz.ntmps34
 go_wp2
 exact bodyPost_ret (results_cell_row rfl _ _ w.heap.size 29 #[vI vU 17562291160714782033,vI vU 13611842547513532036,vI vU 18446744073709551615,vI vU 18446744069414584320] (0,0) _ rfl (heap_alloc_last w _) Tryz.underlying29 rfl (by kernel_rfl)) rfl ⟨rfl,(Below.refl _ _).alloc (Nat.le_refl _) _⟩
theorem neN0 {X : Nat} (hX : X < top) (h0 : X ≠ 0) (W : World) : (binOp .neq 29 (nv X) (nv 0)).run Tryz.prog W = .ok (.bool true) W:=by
 have e:=zme hX zbm W
 rw [decide_eq_false h0] at e
 exact neq_of e rfl
section
variable {P : Program} {o : Oper} {a : Act} {w : World}
theorem zkw {x : Operand} {ty ty2 : TypeId} {c : Int} {v : Bool} (ho : o.op = .binOp .lss ty x (.const (.int .i64 0)) ty2) (hx : a.eval x = .int .i64 c) (hv : decide (c < 0) = v) : Made P o (.bool v) a w:=zbe fun W _ => by
 have h0 : a.eval (.const (.int .i64 0)) = .int .i64 0:=rfl
 unfold execOp
 simp only [ho]
 generalize a.eval = ρ at *
 subst hv
 rw [hx,h0]
 simp [go_sem,eqGuard]
end
theorem cmpL {X Y : Nat} (h : X < Y) : decide (cmpN X Y < 0) = true:=by unfold cmpN; rw [if_pos h]; rfl
theorem cmpG {X Y : Nat} (h : ¬ X < Y) : decide (cmpN X Y < 0) = false:=by
 unfold cmpN
 rw [if_neg h]
 split <;> rfl
theorem may_zero  (w : World) :
  Calls Tryz.prog 13 #[nv 0] w fun e w' => e = .returned (.bool false) ∧ Ext w w':=by
 unfold nv nc
 go_enter Tryz.func13,Tryz.ntmps13
 go_upto_region 1 with (fail)
 refine zfg fun w1 hx b0 => ?_
 have b0 : w1.heap[w.heap.size]? = some (.cells (nc 0) 29 (0,0)):=b0
 refine' zes (m:=10) (A:=_) 10 (by kernel_rfl) (by kernel_rfl) ?h1 ?h2
 case h1 =>
  refine zaa (nv 0) rfl (zag rfl rfl b0 rfl uN rfl (iN _)) ?_
  refine zaa (nv 0) rfl (zcj rfl rfl (bldN0 ·)) ?_;simp only [aP,lA,lZ,lS]
  refine zaa (.bool false) rfl (zeb rfl rfl rfl (gN _ _ _ _ _) neN) ?_
  refine zaa (.bool false) rfl (zaf (.inl rfl) rfl) ?_;simp only [aP,lA,lZ,lS]
  refine zdv rfl ?_
  refine zdv rfl ?_;simp only [aP,lA,lZ,lS]
  refine zdv rfl ?_
  refine zdv rfl ?_;simp only [aP,lA,lZ,lS]
  refine zaa (.bool false) rfl (zbw rfl rfl rfl) ?_
  refine zaa (.bool false) rfl (zaf (.inr rfl) rfl) ?_;simp only [aP,lA,lZ,lS]
  exact zax
 refine zdp rfl (by kernel_rfl) ?_
 intro w2 hE
 refine NoPanic.normal ?_
 replace hx:=hx.trans hE
 clear hE
 go_wp2
 go_ret
 exact ⟨rfl,hx⟩
theorem may_in (X : Nat) (hX : X < top) (h0 : X ≠ 0) (hl : X < Pt.nn) (w : World) :
  Calls Tryz.prog 13 #[nv X] w fun e w' => e = .returned (.bool true) ∧ Ext w w':=by
 have kX:=veil hX
 have k0:=veil h0
 have kl:=veil hl
 clear hX h0 hl
 unfold nv nc
 go_enter Tryz.func13,Tryz.ntmps13
 go_upto_region 1 with (fail)
 refine zfg fun w1 hx b0 => ?_
 have b0 : w1.heap[w.heap.size]? = some (.cells (nc X) 29 (0,0)):=b0
 refine' zes (m:=10) (A:=_) 10 (by kernel_rfl) (by kernel_rfl) ?h1 ?h2
 case h1 =>
  refine zaa (nv X) rfl (zag rfl rfl b0 rfl uN rfl (iN _)) ?_
  refine zaa (nv 0) rfl (zcj rfl rfl (bldN0 ·)) ?_;simp only [aP,lA,lZ,lS]
  refine zaa (.bool true) rfl (zeb rfl rfl rfl (gN _ _ _ _ _) (neN0 kX.out k0.out ·)) ?_
  refine zaa (.bool true) rfl (zaf (.inl rfl) rfl) ?_;simp only [aP,lA,lZ,lS]
  refine zbf (nv X) rfl (zag rfl rfl b0 rfl uN rfl (iN _)) ?_
  refine zbf (nv Pt.nn) rfl (zam (args:=[]) rfl rfl (fun W => zab Tryz.func34 rfl rfl _ W) (fun W hW => nn_is W)) ?_;simp only [aP,lA,lZ,lS]
  refine zbf (.int .i64 (cmpN X Pt.nn)) rfl (zam (args:=[nv X,nv Pt.nn]) rfl rfl (fun W => zab Tryz.func33 rfl rfl _ W) (fun W hW => rcmp_calls X Pt.nn kX.out zbn W)) ?_
  refine zbf (.bool true) rfl (zkw rfl rfl (cmpL kl.out)) ?_;simp only [aP,lA,lZ,lS]
  refine zaa (.bool true) rfl (zbw rfl rfl rfl) ?_
  refine zaa (.bool true) rfl (zaf (.inr rfl) rfl) ?_;simp only [aP,lA,lZ,lS]
  exact zax
 refine zdp rfl (by kernel_rfl) ?_
 intro w2 hE
 refine NoPanic.normal ?_
 replace hx:=hx.trans hE
 clear hE
 go_wp2
 go_ret
 exact ⟨rfl,hx⟩
theorem may_out (X : Nat) (hX : X < top) (h0 : X ≠ 0) (hl : ¬ X < Pt.nn) (w : World) :
  Calls Tryz.prog 13 #[nv X] w fun e w' => e = .returned (.bool false) ∧ Ext w w':=by
 have kX:=veil hX
 have k0:=veil h0
 have kl:=veil hl
 clear hX h0 hl
 unfold nv nc
 go_enter Tryz.func13,Tryz.ntmps13
 go_upto_region 1 with (fail)
 refine zfg fun w1 hx b0 => ?_
 have b0 : w1.heap[w.heap.size]? = some (.cells (nc X) 29 (0,0)):=b0
 refine' zes (m:=10) (A:=_) 10 (by kernel_rfl) (by kernel_rfl) ?h1 ?h2
 case h1 =>
  refine zaa (nv X) rfl (zag rfl rfl b0 rfl uN rfl (iN _)) ?_
  refine zaa (nv 0) rfl (zcj rfl rfl (bldN0 ·)) ?_;simp only [aP,lA,lZ,lS]
  refine zaa (.bool true) rfl (zeb rfl rfl rfl (gN _ _ _ _ _) (neN0 kX.out k0.out ·)) ?_
  refine zaa (.bool true) rfl (zaf (.inl rfl) rfl) ?_;simp only [aP,lA,lZ,lS]
  refine zbf (nv X) rfl (zag rfl rfl b0 rfl uN rfl (iN _)) ?_
  refine zbf (nv Pt.nn) rfl (zam (args:=[]) rfl rfl (fun W => zab Tryz.func34 rfl rfl _ W) (fun W hW => nn_is W)) ?_;simp only [aP,lA,lZ,lS]
  refine zbf (.int .i64 (cmpN X Pt.nn)) rfl (zam (args:=[nv X,nv Pt.nn]) rfl rfl (fun W => zab Tryz.func33 rfl rfl _ W) (fun W hW => rcmp_calls X Pt.nn kX.out zbn W)) ?_
  refine zbf (.bool false) rfl (zkw rfl rfl (cmpG kl.out)) ?_;simp only [aP,lA,lZ,lS]
  refine zaa (.bool false) rfl (zbw rfl rfl rfl) ?_
  refine zaa (.bool false) rfl (zaf (.inr rfl) rfl) ?_;simp only [aP,lA,lZ,lS]
  exact zax
 refine zdp rfl (by kernel_rfl) ?_
 intro w2 hE
 refine NoPanic.normal ?_
 replace hx:=hx.trans hE
 clear hE
 go_wp2
 go_ret
 exact ⟨rfl,hx⟩
def mayB (X : Nat) : Bool:=decide (X ≠ 0) && decide (X < Pt.nn)
theorem may_calls (X : Nat) (hX : X < top) (w : World) : Calls Tryz.prog 13 #[nv X] w fun e w' => e = .returned (.bool (mayB X)) ∧ Ext w w':=by
 unfold mayB
 by_cases h0 : X = 0
 ·
  subst h0
  exact may_zero w
 ·
  by_cases hl : X < Pt.nn
  ·
   rw [decide_eq_true h0,decide_eq_true hl]
   exact may_in X hX h0 hl w
  ·
   rw [decide_eq_true h0,decide_eq_false hl]
   exact may_out X hX h0 hl w
theorem cat_assoc (a b c : Nat → Nat) (n m : Nat) : cat (cat a n b) (n + m) c = cat a n (cat b m c):=by
 funext i
 unfold cat
 by_cases h1 : i < n
 ·
  have h2 : i < n + m:=by omega
  simp only [h1,h2,if_true]
 ·
  by_cases h2 : i < n + m
  ·
   have h3 : i - n < m:=by omega
   simp only [h1,h2,h3,if_true,if_false]
  ·
   have h3 : ¬ i - n < m:=by omega
   simp only [h1,h2,h3,if_false]
   congr 1; omega
theorem lenN_mono {L : Nat → Nat} {i j : Nat} (h : i ≤ j) : lenN L i ≤ lenN L j:=by
 induction j with
 | zero =>
      obtain rfl : i = 0:=by omega
      exact Nat.le_refl _
 | succ j ih =>
  by_cases e : i = j + 1
  ·
   subst e; exact Nat.le_refl _
  ·
   have:=ih (by omega)
   show _ ≤ lenN L j + L j
   omega
theorem Parts3.call {W W' : World} {AL : Option Addr} {nl : Nat} {A : Nat → Option Addr} {L C : Nat → Nat} {Y : Nat → Nat → Nat} (h : Parts3 W AL nl A L C Y) (hb : Below W.heap.size W W') : Parts3 W' AL nl A L C Y where
 row:=h.row.imp id fun ⟨b,o,e,hlt,hc⟩ => ⟨b,o,e,by have:=hb.size; omega,fun r hr => (hb.cell (p:=⟨b,o + r,none⟩) hlt).trans (hc r hr)⟩
 src:=fun r hr => ((h.src r hr).at (g':=W'.heap.size) hb.size).below hb
 cap:=h.cap
 lt:=h.lt
theorem zku (k : Nat → Nat) (hk : ∀ j,k j < 256) (x : Nat) (hx : x < 256) (AL : Option Addr) (nl cl : Nat) (A : Nat → Option Addr) (L C : Nat → Nat) (Y : Nat → Nat → Nat) (hnl : nl ≤ 100000) (hT : lenN L nl ≤ 100000) (w : World) (hK : KT w) (hP : Parts3 w AL nl A L C Y) :
  Calls Tryz.prog 170 #[.agg (arrOf 64 fun j => .int .u8 (k j : Nat)),.int .u8 (x : Int),.slice AL nl cl] w fun e w' => e = .returned (.agg (dgst (cat (fun j => k j ^^^ x) 64 (textN L Y nl)) (64 + lenN L nl))) ∧ Below w.heap.size w w':=by
 obtain ⟨F,hF⟩ : ∃ F,F = arrOf 64 fun j => Value.int .u8 (k j : Nat):=⟨_,rfl⟩
 rw [← hF]
 have HF:=veil hF
 have HK:=veil hK
 have HP:=veil hP
 have HX:=veil (And.intro hx hk)
 have HT:=veil hT
 have hg0:=hK.lt
 clear hF hK hP hx hk hT
 go_enter Tryz.func170,Tryz.ntmps170
 go_upto_region 1 with (fail)
 rw [zeros32]
 have hB0 : (w.alloc (.cells F 158)).rowIs w.heap.size 158 64 (fun j => Value.int .u8 (k j : Nat)):=by rw [HF.out]; exact zav w 64 158 _ rfl
 have hb0 : Below w.heap.size w (w.alloc (.cells F 158)):=(Below.refl _ _).alloc (Nat.le_refl _) _
 have hz0 : (w.alloc (.cells F 158)).heap.size = w.heap.size + 1:=by simp
 generalize w.alloc (.cells F 158) = w0 at *
 have hR1:=zav w0 32 23 (fun _ => Value.int .u8 0) rfl
 rw [hz0] at hR1
 have hB1:=hB0.alloc (.cells (arrOf 32 (fun _ => .int .u8 0)) 23)
 have hb1:=hb0.alloc hb0.size (.cells (arrOf 32 (fun _ => .int .u8 0)) 23)
 generalize w0.alloc (.cells (arrOf 32 (fun _ => .int .u8 0)) 23) = w1 at *
 clear hB0 hb0 hz0
 go_wp2
 go_loopw [11] (fun v wr => ∃ i : Nat,i ≤ 64 ∧ v = .int .i64 (i : Int) ∧ wr.rowIs w.heap.size 158 64 (fun j => .int .u8 ((if j < i then k j ^^^ x else k j : Nat) : Int)) ∧ wr.rowIs (w.heap.size + 1) 23 32 (fun _ => .int .u8 0) ∧ Below w.heap.size w wr)
  (fun v _ => 64 - (intOf v).toNat)
 case atStart => exact ⟨0,by omega,rfl,hB1,hR1,hb1⟩
 case round =>
  obtain ⟨i,hi,rfl,hRB,hR,hB⟩:=hrel
  by_cases hlt : i < 64
  ·
   obtain ⟨c,hc⟩ : ∃ c,c = k i:=⟨_,rfl⟩
   have c0:=hRB.cell hlt
   have f0:=hRB.frozen i
   rw [if_neg (Nat.lt_irrefl i),← hc] at c0
   have hxor:=xor8 c x (by rw [hc]; exact HX.out.2 i) HX.out.1
   have HC:=veil hc
   clear hc
   go_wp2
   go_roundw
   case rel =>
    refine ⟨i + 1,by omega,by go_num,(hRB.set i _).congr fun q hq => ?_,zat hR (by omega) _,zai hB (Nat.le_refl _) _⟩
    by_cases h : q = i
    ·
     rw [if_pos h,if_pos (by omega),HC.out,h]
    ·
     rw [if_neg h]
     by_cases h2 : q < i
     ·
      rw [if_pos h2,if_pos (by omega)]
     ·
      rw [if_neg h2,if_neg (by omega)]
   case measure => simp [intOf]; omega
  ·
   have e64 : i = 64:=by omega
   have hRB : wr.rowIs w.heap.size 158 64 (fun j => .int .u8 ((k j ^^^ x : Nat) : Int)):=hRB.congr fun p hp => by rw [if_pos (by omega)]
   have hd : decide ((i : Int) < 64) = false:=by simp; omega
   clear e64 hlt hi
   go_wp2_with fail
   refine (new_calls wr).mono ?_
   rintro e w2 ⟨rfl,hC,hb2⟩
   have hRB2:=zad hRB hb2 hRB.lt
   have hR2:=zad hR hb2 hR.lt
   have hB2:=hB.trans (hb2.mono hB.size)
   have hC2:=hC (fun _ => 0)
   have hgH:=hC2.lt
   have hHR:=hR.lt
   generalize wr.heap.size = gH at *
   clear hRB hR hB hC hb2
   have hS2 : Src w2 (some ⟨w.heap.size,0,none⟩) 64 (fun j => k j ^^^ x) gH:=.inr ⟨_,0,rfl,hRB2.lt,by omega,fun j hj => by rw [Nat.zero_add]; exact hRB2.cell hj⟩
   go_wp2_with fail
   refine (zfe gH (fun _ => 0) 0 _ 64 64 (fun j => k j ^^^ x) (fun j => xor8_lt (HX.out.2 j) HX.out.1) (by decide) (by decide) (by omega) w2 (zfb HK.out hB2) hC2 hS2).mono ?_
   rintro e w3 ⟨rfl,hH3,hb3⟩
   rw [Nat.zero_add,zid] at hH3
   have hR3:=zef hR2 hb3 (by omega)
   have hB3:=but_below hB2 hb3 (by omega)
   clear hRB2 hR2 hB2 hC2 hS2 hb3
   have hH3 : HashIs w3 gH (cat (fun j => k j ^^^ x) 64 (textN L Y 0)) (64 + lenN L 0):=hH3.congr fun i hi => by unfold cat; rw [if_pos hi]
   go_wp2
   go_loopw [27] (fun v wr => ∃ i : Nat,i ≤ nl ∧ v = .int .i64 (i : Int) ∧ HashIs wr gH (cat (fun j => k j ^^^ x) 64 (textN L Y i)) (64 + lenN L i) ∧ wr.rowIs (w.heap.size + 1) 23 32 (fun _ => .int .u8 0) ∧ Below w.heap.size w wr)
    (fun v _ => nl - (intOf v).toNat)
   case atStart => exact ⟨0,by omega,rfl,hH3,hR3,hB3⟩
   case round =>
    obtain ⟨i,hi,rfl,hH,hR,hB⟩:=hrel
    by_cases hlt : i < nl
    ·
     have hd2 : decide ((i : Int) < (nl : Int)) = true:=by simp; omega
     have hd1 : decide (i < nl) = true:=by simp; omega
     have hii : (i : Int) < (nl : Int):=by omega
     obtain ⟨bl,ol,hAL,hbl,hcl⟩:=HP.out.row.resolve_left (by omega)
     have cr : wr.cell? ⟨bl,ol + i,none⟩ = some (.slice (A i) (L i) (C i)):=(hB.cell (p:=⟨bl,ol + i,none⟩) hbl).trans (hcl i hlt)
     clear hcl
     subst hAL
     go_wp2_with fail
     have hL1:=lenN_mono (L:=L) (show i + 1 ≤ nl by omega)
     have hT:=HT.out
     have hL2 : lenN L (i + 1) = lenN L i + L i:=rfl
     refine (zfe gH _ (64 + lenN L i) (A i) (L i) (C i) (Y i) (HP.out.lt i) (HP.out.cap i hlt) (by omega) (by omega) wr (zfb HK.out hB) hH (zik (HP.out.src i hlt) hB (by omega))).mono ?_
     rintro e w4 ⟨rfl,hH4,hb4⟩
     rw [cat_assoc,Nat.add_assoc] at hH4
     have hH5 : HashIs w4 gH (cat (fun j => k j ^^^ x) 64 (textN L Y (i + 1))) (64 + lenN L (i + 1)):=hH4
     clear hH4
     have hR4:=zef hR hb4 (by omega)
     have hB4:=but_below hB hb4 (by omega)
     clear hR hB hH hb4 cr hT hL1 hL2
     go_wp2
     go_roundw
     case rel => exact ⟨i + 1,by omega,by go_num,hH5,hR4,hB4⟩
     case measure => simp [intOf]; omega
    ·
     obtain rfl : i = nl:=by omega
     go_wp2_with fail
     have hT:=HT.out
     refine (hsum_calls gH _ _ (by omega) wr (zfb HK.out hB) hH).mono ?_
     rintro e w4 ⟨rfl,hb4⟩
     have hR4:=zad hR hb4 hR.lt
     have hB4:=hB.trans (hb4.mono hB.size)
     obtain ⟨y,hy⟩ : ∃ y,y = cat (fun j => k j ^^^ x) 64 (textN L Y i):=⟨_,rfl⟩
     obtain ⟨n,hn⟩ : ∃ n,n = 64 + lenN L i:=⟨_,rfl⟩
     rw [← hy,← hn]
     have HN:=veil (blkOf hR4)
     have HZ:=veil (And.intro (zaw y n) (And.intro (show (dgst y n).all (·.oneCell') = true from zau fun _ _ => rfl) (show (Tryz.prog.info? 23).map (·.size) = some (dgst y n).size by rw [zaw]; exact infoD)))
     obtain ⟨D,hD⟩ : ∃ D,D = dgst y n:=⟨_,rfl⟩
     rw [← hD] at HZ ⊢
     have HD:=veil (show D = dgst (cat (fun j => k j ^^^ x) 64 (textN L Y i)) (64 + lenN L i) by rw [hD,hy,hn])
     clear hD hR4 hR hB hH hb4 hy hn hT hH3 hR3 hB3
     go_wp2_with ((with_reducible refine zak ?_); refine wpList_store_row rfl 23 _ _ rfl (w.heap.size + 1) D rfl rfl 23 _ HN.out HZ.out.2.2 (by rw [HZ.out.1,zan]) HZ.out.2.1 ?_)
     exact bodyPost_ret (results_cell_row rfl _ _ (w.heap.size + 1) 23 D (0,0) _ rfl (setRow_heap w4 (w.heap.size + 1) _ D 23 (0,0) HN.out) Tryz.underlying23 rfl HZ.out.2.2) rfl ⟨by rw [HD.out],zcc hB4 (by omega) _⟩
structure KV where
 k : Nat → Nat
 v : Nat → Nat
structure KV.Ok (s : KV) : Prop where
 k : ∀ j,s.k j < 256
 v : ∀ j,s.v j < 256
def num32 (y : Nat → Nat) : Nat:=lev (fun k => y (32 - 1 - k)) 32
theorem zga {y : Nat → Nat} (hy : ∀ j,y j < 256) : num32 y < top:=by
 have h:=zjp (z:=fun k => y (32 - 1 - k)) (fun j => hy _) 32
 have e : 256 ^ 32 = top:=by decide +kernel
 unfold num32
 omega
def tx (v : Nat → Nat) (b : Nat) (t : Nat → Nat) : Nat → Nat:=cat v 32 (cat (fun _ => b) 1 t)
def KV.step (s : KV) : KV:=⟨s.k,nb s.k 32 s.v 32⟩
def KV.mix (s : KV) (b : Nat) (t : Nat → Nat) (m : Nat) : KV:=KV.step ⟨nb s.k 32 (tx s.v b t) (33 + m),s.v⟩
def none0 : Nat → Nat:=fun _ => 0
def KV.next (s : KV) : KV:=s.step.mix 0 none0 0
theorem KV.Ok.step {s : KV} (h : s.Ok) : s.step.Ok:=⟨h.k,fun j => nb_lt _ _ _ _ j⟩
theorem KV.Ok.mix {s : KV} (_h : s.Ok) (b : Nat) (t : Nat → Nat) (m : Nat) : (s.mix b t m).Ok:=⟨fun j => nb_lt _ _ _ _ j,fun j => nb_lt _ _ _ _ j⟩
theorem KV.Ok.next {s : KV} (h : s.Ok) : s.next.Ok:=h.step.mix _ _ _
def kv0 : KV:=⟨fun _ => 0,fun _ => 1⟩
theorem kv0_ok : kv0.Ok:=⟨fun _ => by show (0 : Nat) < 256; decide,fun _ => by show (1 : Nat) < 256; decide⟩
def be (X j : Nat) : Nat:=dg 256 X (31 - j)
theorem be_lt (X j : Nat) : be X j < 256:=Nat.mod_lt _ (by decide)
def two (D M : Nat) : Nat → Nat:=cat (be D) 32 (be M)
theorem two_lt (D M j : Nat) : two D M j < 256:=cat_lt (be_lt D) (be_lt M) j
def kvS (D M : Nat) : KV:=(kv0.mix 0 (two D M) 64).mix 1 (two D M) 64
def kvN (D M : Nat) : Nat → KV
 | 0 => kvS D M
 | i + 1 => (kvN D M i).next
theorem kvN_ok (D M : Nat) : ∀ i,(kvN D M i).Ok
 | 0 => (kv0_ok.mix _ _ _).mix _ _ _
 | i + 1 => (kvN_ok D M i).next
def numN (D M i : Nat) : Nat:=num32 (kvN D M i).step.v
theorem numN_lt (D M i : Nat) : numN D M i < top:=zga (kvN_ok D M i).step.v
def outN (D M : Nat) : Nat → List Nat
 | 0 => []
 | i + 1 => if mayB (numN D M i) = true then outN D M i ++ [numN D M i] else outN D M i
theorem outN_step (D M i : Nat) : (outN D M i).length ≤ (outN D M (i + 1)).length ∧ (outN D M (i + 1)).length ≤ (outN D M i).length + 1:=by
 have e : outN D M (i + 1) = if mayB (numN D M i) = true then outN D M i ++ [numN D M i] else outN D M i:=rfl
 rw [e]
 split <;> simp
theorem zkm (D M : Nat) : ∀ i,∀ x ∈ outN D M i,mayB x = true ∧ x < top
 | 0,x,h => by simp [outN] at h
 | i + 1,x,h => by
  unfold outN at h
  split at h
  ·
   rcases List.mem_append.1 h with h | h
   ·
    exact zkm D M i x h
   ·
    simp only [List.mem_singleton] at h
    subst h
    exact ⟨by assumption,numN_lt D M i⟩
  ·
   exact zkm D M i x h
structure Ends (D M many s : Nat) : Prop where
 le : s ≤ 100
 pre : ∀ j,j < s → (outN D M j).length < many
 fin : s = 100 ∨ ¬ (outN D M s).length < many
theorem Ends.same {D M many s s' : Nat} (h : Ends D M many s) (h' : Ends D M many s') : s = s':=by
 rcases Nat.lt_trichotomy s s' with e | e | e
 ·
  have:=h'.pre s e
  rcases h.fin with f | f
  ·
   have:=h'.le; omega
  ·
   exact absurd this f
 ·
  exact e
 ·
  have:=h.pre s' e
  rcases h'.fin with f | f
  ·
   have:=h.le; omega
  ·
   exact absurd this f
theorem Ends.most {D M many s : Nat} (h : Ends D M many s) : (outN D M s).length ≤ many:=by
 cases s with
 | zero => simp [outN]
 | succ s =>
  have h1:=h.pre s (by omega)
  have h2:=(outN_step D M s).2
  omega
theorem Ends.full {D M many s : Nat} (h : Ends D M many s) (hn : ¬ (outN D M s).length < many) : (outN D M s).length = many:=by
 have:=h.most
 omega
theorem word_core (Z g n c j : Nat) (hn : n ≤ 32) (hj : j + 4 ≤ n) (w : World) (hp : Pre w g 3 n (ptv Z)) :
  Calls Tryz.prog 152 #[.slice (some ⟨g,0,none⟩) n c,.int .i64 (j : Int)] w fun e w' => e = .returned (.int .u64 (pt Z j + 65536 * pt Z (j + 1) + 4294967296 * pt Z (j + 2) + 281474976710656 * pt Z (j + 3))) ∧ ∃ m,w' = w.drewN m:=by
 have c0 : w.cell? ⟨g,j,none⟩ = some (.int .i64 (pt Z j)):=hp.cell (by omega)
 have c1 : w.cell? ⟨g,j + 1,none⟩ = some (.int .i64 (pt Z (j + 1))):=hp.cell (by omega)
 have c2 : w.cell? ⟨g,j + 2,none⟩ = some (.int .i64 (pt Z (j + 2))):=hp.cell (by omega)
 have c3 : w.cell? ⟨g,j + 3,none⟩ = some (.int .i64 (pt Z (j + 3))):=hp.cell (by omega)
 have l0:=pt_lo Z j
 have l1:=pt_lo Z (j + 1)
 have l2:=pt_lo Z (j + 2)
 have l3:=pt_lo Z (j + 3)
 have u0:=pt_lt Z j
 have u1:=pt_lt Z (j + 1)
 have u2:=pt_lt Z (j + 2)
 have u3:=pt_lt Z (j + 3)
 clear hp
 go_enter Tryz.func152,Tryz.ntmps152
 go_wp2
 go_quiet (fail)
 go_wp2
 go_ret
 exact ⟨rfl,_,rfl⟩
theorem zgh (Z g n c q : Nat) (a : Int) (ha : a = ((4 * q : Nat) : Int)) (hn : n ≤ 32) (hj : 4 * q + 4 ≤ n) (w : World) (hp : Pre w g 3 n (ptv Z)) :
  Calls Tryz.prog 152 #[.slice (some ⟨g,0,none⟩) n c,.int .i64 a] w fun e w' => e = .returned (.int .u64 (wd Z q)) ∧ ∃ m,w' = w.drewN m:=by
 subst ha
 rw [wd_pt]
 exact word_core Z g n c (4 * q) hn hj w hp
theorem num_calls (Z g c : Nat) (w : World) (hp : Pre w g 3 16 (ptv Z)) :
  Calls Tryz.prog 124 #[.slice (some ⟨g,0,none⟩) 16 c] w fun e w' => e = .returned (.agg #[vI vU (wd Z 0),vI vU (wd Z 1),vI vU (wd Z 2),vI vU (wd Z 3)]) ∧ Below w.heap.size w w':=by
 have hR : (w.alloc (.cells #[vI vU 0,vI vU 0,vI vU 0,vI vU 0] 29)).rowIs w.heap.size 29 4 (fun _ => .int .u64 0):=zaj (n:=4) rfl rfl (arr4 fun _ => .int .u64 0)
 have HR:=veil hR
 have HP:=veil (hp.alloc (.cells #[vI vU 0,vI vU 0,vI vU 0,vI vU 0] 29))
 obtain ⟨d0,d1,d2,d3⟩:=zap hR
 obtain ⟨f0,f1,f2,f3⟩:=zbq hR
 clear hR hp
 go_enter Tryz.func124,Tryz.ntmps124
 go_wp2_with fail
 refine (zgh Z g 16 c 0 0 rfl (by omega) (by omega) _ HP.out).mono ?_
 rintro e w1 ⟨rfl,m1,rfl⟩
 go_wp2_with fail
 refine (zgh Z g 16 c 1 4 rfl (by omega) (by omega) _ (HP.out.drewN _)).mono ?_
 rintro e w1 ⟨rfl,m2,rfl⟩
 go_wp2_with fail
 refine (zgh Z g 16 c 2 8 rfl (by omega) (by omega) _ (HP.out.drewN _)).mono ?_
 rintro e w1 ⟨rfl,m3,rfl⟩
 go_wp2_with fail
 refine (zgh Z g 16 c 3 12 rfl (by omega) (by omega) _ (HP.out.drewN _)).mono ?_
 rintro e w1 ⟨rfl,m4,rfl⟩
 go_wp2
 refine bodyPost_ret (results_cell_row rfl _ _ w.heap.size 29 #[vI vU (wd Z 0),vI vU (wd Z 1),vI vU (wd Z 2),vI vU (wd Z 3)] (0,0) _ rfl (blk4 (put4 (zbs HR.out _) fun j => .int .u64 (wd Z j))) Tryz.underlying29 rfl (by kernel_rfl)) rfl ⟨rfl,zbb (zaz ((Below.refl _ _).alloc (Nat.le_refl _) _) _) (Nat.le_refl _) _ _ _ _⟩
def byv (X i : Nat) : Int:=(dg 256 X i : Nat)
theorem dg_byte (X m q r : Nat) (hr : r < m) : dg (256 ^ m) X q / 256 ^ r % 256 = dg 256 X (m * q + r):=by
 show dg 256 (X / (256 ^ m) ^ q % 256 ^ m) r = _
 rw [zcr _ m r hr,dg,dg,← Nat.pow_mul,Nat.div_div_eq_div_mul,← Nat.pow_add]
theorem byte_word (X k : Nat) : wd X (k / 8) / 2 ^ (k % 8 * 8) % 256 = byv X k:=by
 have e : wd X (k / 8) / 2 ^ (k % 8 * 8) = ((dg w64 X (k / 8) / 256 ^ (k % 8) : Nat) : Int):=by
  unfold wd
  rw [← two_256,Int.natCast_ediv]
  simp
 rw [e]
 have h:=dg_byte X 8 (k / 8) (k % 8) (Nat.mod_lt _ (by omega))
 rw [Nat.div_add_mod,← w64_bytes] at h
 unfold byv
 omega
theorem bytes_step {X k j : Nat} (hk : k < 32) (hj : j = 31 - k) : ∀ i,i < 32 → (if i = j then Value.int .u8 (byv X k) else Value.int .u8 (if 32 ≤ i + k then byv X (31 - i) else 0)) = Value.int .u8 (if 32 ≤ i + (k + 1) then byv X (31 - i) else 0):=by
 intro i hi
 by_cases h : i = j
 ·
  rw [if_pos h,if_pos (by omega),show 31 - i = k by omega]
 ·
  rw [if_neg h]
  by_cases h2 : 32 ≤ i + k
  ·
   rw [if_pos h2,if_pos (by omega)]
  ·
   rw [if_neg h2,if_neg (by omega)]
theorem infoByte : (Tryz.prog.info? 5).map (fun i => (i.zero,i.size,i.bytes)) = some (some (.int .u8 0),1,1):=by kernel_rfl
theorem row_filled {w : World} {z : Value} {n b t : Nat} (hb : b = w.heap.size) : (w.alloc (.cells (madeCells #[z] n) t)).rowIs b t n (fun _ => z):=by
 subst hb
 exact World.rowIs_made w z n t
theorem bytes_calls (X : Nat) (w : World) :
  Calls Tryz.prog 64 #[.agg #[vI vU (wd X 0),vI vU (wd X 1),vI vU (wd X 2),vI vU (wd X 3)]] w fun e w' => ∃ g,e = .returned (.slice (some ⟨g,0,none⟩) 32 32) ∧ w.heap.size ≤ g ∧ w'.rowIs g 5 32 (fun j => .int .u8 (byv X (31 - j))) ∧ Below w.heap.size w w':=by
 obtain ⟨i0,hi,hz0,hz1,hz2⟩:=info_parts infoByte
 have hmk : ∀ W : World,(Instr.makeSlice 24 (.int .i64 32) (.int .i64 32)).run Tryz.prog W = .ok (.slice (some ⟨W.heap.size,0,none⟩) 32 32) (W.alloc (.cells (madeCells #[.int .u8 0] 32) 5)) :=
  fun W => run_make_row 24 5 i0 (.int .u8 0) Tryz.underlying24 hi hz0 hz1 rfl .i64 .i64 32 (by rw [hz2]; omega) (by omega) W
 go_enter Tryz.func64,Tryz.ntmps64
 go_wp2
 go_loopw [6] (fun i wr => ∃ k : Nat,k ≤ 32 ∧ i = .int .i64 k ∧ wr.rowIs w.heap.size 29 4 (fun j => .int .u64 (wd X j)) ∧ wr.rowIs (w.heap.size + 1) 5 32 (fun j => .int .u8 (if 32 ≤ j + k then byv X (31 - j) else 0)) ∧ Below w.heap.size w wr)
  (fun i _ => 32 - (intOf i).toNat)
 case atStart => exact ⟨0,by omega,rfl,(zaj (n:=4) rfl rfl (arr4 fun j => .int .u64 (wd X j))).alloc _,(row_filled (w:=w.alloc (.cells #[vI vU (wd X 0),vI vU (wd X 1),vI vU (wd X 2),vI vU (wd X 3)] 29)) (z:=.int .u8 0) (by simp)).congr (fun i hi => by rw [if_neg (by omega)]),((Below.refl _ _).alloc (by simp) _).alloc (by simp) _⟩
 case round =>
  obtain ⟨k,hk,rfl,hR,hS,hbel⟩:=hrel
  by_cases hlt : k < 32
  ·
   have c1:=hR.cell (i:=k / 8) (by omega)
   obtain ⟨j,hj⟩ : ∃ j,j = 31 - k:=⟨_,rfl⟩
   have hji : (31 : Int) - (k : Int) = (j : Int):=by omega
   have hjn : (j : Int) < (32 : Int):=by omega
   have c2:=hS.cell (i:=j) (by omega)
   have f2:=hS.frozen j
   have l1:=wd_lo X (k / 8)
   have u1:=wd_le X (k / 8)
   have HJ:=veil hj
   clear hj
   go_wp2
   go_roundw
   case rel =>
    rw [byte_word]
    exact ⟨k + 1,by omega,by go_num,zat hR (by omega) _,(hS.set j _).congr (bytes_step hlt HJ.out),zai hbel (by omega) _⟩
   case measure => simp [intOf]; omega
  ·
   obtain rfl : k = 32:=by omega
   go_wp2
   go_ret
   exact ⟨_,rfl,by omega,hS.congr (fun i hi => by rw [if_pos (by omega)]),hbel⟩
theorem pt_put (L c k j : Nat) (hL : L < 256 ^ k) (hc : c < 256) : pt (L + c * 256 ^ k) j = if j = k / 2 then pt L j + (c * 256 ^ (k % 2) : Nat) else pt L j:=by
 have h:=dg_put 2 (k / 2) (k % 2) L c (Nat.mod_lt _ (by omega)) (by rw [Nat.div_add_mod]; exact hL) hc j
 rw [Nat.div_add_mod,← w16_bytes] at h
 unfold pt
 rw [h]
 split
 ·
  rw [Int.natCast_add]
 ·
  rfl
theorem rof_even (L c k : Nat) (hL : L < 256 ^ k) (hc : c < 256) (hk : k % 2 = 0) : pt L (k / 2) + (c : Int) = pt (L + c * 256 ^ k) (k / 2):=by
 rw [pt_put L c k _ hL hc,if_pos rfl,hk]; simp
theorem rof_odd (L c k : Nat) (hL : L < 256 ^ k) (hc : c < 256) (hk : k % 2 = 1) : pt L (k / 2) + 256 * (c : Int) = pt (L + c * 256 ^ k) (k / 2):=by
 rw [pt_put L c k _ hL hc,if_pos rfl,hk]; omega
theorem rof_step (z : Nat → Nat) (k : Nat) (hz : ∀ j,z j < 256) (i : Nat) :
  (if i = k / 2 then Value.int .i64 (pt (lev z k + z k * 256 ^ k) (k / 2)) else Value.int .i64 (pt (lev z k) i)) = Value.int .i64 (pt (lev z (k + 1)) i):=by
 show _ = Value.int .i64 (pt (lev z k + z k * 256 ^ k) i)
 by_cases h : i = k / 2
 ·
  rw [if_pos h,h]
 ·
  rw [if_neg h,pt_put _ _ _ _ (zjp hz k) (hz k),if_neg h]
theorem pt_zero (i : Nat) : pt 0 i = 0:=by unfold pt dg; simp
theorem zkh (b o n c : Nat) (y : Nat → Nat) (hy : ∀ j,y j < 256) (hn : n ≤ 32) (w : World) (hb : b < w.heap.size) (hcell : ∀ j,j < n → w.cell? ⟨b,o + j,none⟩ = some (.int .u8 (y j))) :
  Calls Tryz.prog 75 #[.slice (some ⟨b,o,none⟩) n c] w fun e w' => e = .returned (.agg #[vI vU (wd (lev (fun k => y (n - 1 - k)) n) 0),vI vU (wd (lev (fun k => y (n - 1 - k)) n) 1),vI vU (wd (lev (fun k => y (n - 1 - k)) n) 2),vI vU (wd (lev (fun k => y (n - 1 - k)) n) 3)]) ∧ Below w.heap.size w w':=by
 obtain ⟨i0,hi,hz0,hz1,hz2⟩:=info_parts infoInt
 have hmk : ∀ W : World,(Instr.makeSlice 72 (.int .i64 16) (.int .i64 16)).run Tryz.prog W = .ok (.slice (some ⟨W.heap.size,0,none⟩) 16 16) (W.alloc (.cells (madeCells #[.int .i64 0] 16) 3)) :=
  fun W => run_make_row 72 3 i0 (.int .i64 0) Tryz.underlying72 hi hz0 hz1 rfl .i64 .i64 16 (by rw [hz2]; omega) (by omega) W
 have HY:=veil hy
 have HC:=veil hcell
 clear hy hcell
 have hn' : (n : Int) ≤ 32:=by omega
 go_enter Tryz.func75,Tryz.ntmps75
 go_wp2
 go_loopw [4] (fun i wr => ∃ k : Nat,k ≤ n ∧ i = .int .i64 k ∧ wr.rowIs w.heap.size 29 4 (fun _ => .int .u64 0) ∧ wr.rowIs (w.heap.size + 1) 3 16 (fun j => .int .i64 (pt (lev (fun k => y (n - 1 - k)) k) j)) ∧ Below w.heap.size w wr)
  (fun i _ => n - (intOf i).toNat)
 case atStart => exact ⟨0,by omega,rfl,(zaj (n:=4) rfl rfl (arr4 fun _ => .int .u64 0)).alloc _,(row_filled (z:=.int .i64 0) (by simp)).congr (fun i _ => by rw [lev,pt_zero]),((Below.refl _ _).alloc (by simp) _).alloc (by simp) _⟩
 case round =>
  obtain ⟨k,hk,rfl,hR,hS,hbel⟩:=hrel
  by_cases hlt : k < n
  ·
   have c1:=hS.cell (i:=k / 2) (by omega)
   have f1:=hS.frozen (k / 2)
   obtain ⟨j,hj⟩ : ∃ j,j = n - 1 - k:=⟨_,rfl⟩
   have hji : (n : Int) - 1 - (k : Int) = (j : Int):=by omega
   have hjn : (j : Int) < (n : Int):=by omega
   have hj0 : (0 : Int) ≤ (j : Int):=by omega
   have hkn : (k : Int) < (n : Int):=by omega
   have c2:=(hbel.cell (p:=⟨b,o + j,none⟩) hb).trans (HC.out j (by omega))
   have l1:=pt_lo (lev (fun k => y (n - 1 - k)) k) (k / 2)
   have u1 : pt (lev (fun k => y (n - 1 - k)) k) (k / 2) ≤ 65535:=by have:=pt_lt (lev (fun k => y (n - 1 - k)) k) (k / 2); omega
   have u2 : (y j : Int) ≤ 255:=by have:=HY.out j; omega
   have u3 : (0 : Int) ≤ (y j : Int):=by omega
   have HS:=veil (rof_step (fun k => y (n - 1 - k)) k (fun j => HY.out _))
   have HJ:=veil hj
   clear hj
   rcases Nat.mod_two_eq_zero_or_one k with h2 | h2
   ·
    have hm : ((k : Int) % 2 == 0) = true:=by rw [beq_iff_eq]; omega
    have HM:=veil h2
    clear h2
    go_wp2
    go_region
    all_goals
     go_wp2
     go_roundw
     case rel =>
      rw [show y j = y (n - 1 - k) by rw [HJ.out],rof_even _ _ _ (zjp (fun j => HY.out _) k) (HY.out _) HM.out]
      exact ⟨k + 1,by omega,by go_num,(zat hR (by omega) _).drew,((hS.set (k / 2) _).congr fun i _ => HS.out i).drew,(zai hbel (by omega) _).drew⟩
     case measure => simp [intOf]; omega
   ·
    have hm : ((k : Int) % 2 == 0) = false:=by rw [beq_eq_false_iff_ne]; omega
    have HM:=veil h2
    clear h2
    go_wp2
    go_region
    all_goals
     go_wp2
     go_roundw
     case rel =>
      rw [show y j = y (n - 1 - k) by rw [HJ.out],rof_odd _ _ _ (zjp (fun j => HY.out _) k) (HY.out _) HM.out]
      exact ⟨k + 1,by omega,by go_num,(zat hR (by omega) _).drew,((hS.set (k / 2) _).congr fun i _ => HS.out i).drew,(zai hbel (by omega) _).drew⟩
     case measure => simp [intOf]; omega
  ·
   obtain rfl : k = n:=by omega
   go_wp2_with fail
   refine (num_calls (lev (fun j => y (k - 1 - j)) k) (w.heap.size + 1) 16 _ (Pre.of_row hS)).mono ?_
   rintro e w3 ⟨rfl,hb3⟩
   have hR3:=zad hR hb3 hR.lt
   have hB3:=hbel.trans (hb3.mono hbel.size)
   obtain ⟨d0,d1,d2,d3⟩:=zap hR3
   obtain ⟨f0,f1,f2,f3⟩:=zbq hR3
   clear hR hS hbel hb3
   go_wp2
   refine bodyPost_ret (results_cell_row rfl _ _ w.heap.size 29 #[vI vU (wd (lev (fun j => y (k - 1 - j)) k) 0),vI vU (wd (lev (fun j => y (k - 1 - j)) k) 1),vI vU (wd (lev (fun j => y (k - 1 - j)) k) 2),vI vU (wd (lev (fun j => y (k - 1 - j)) k) 3)] (0,0) _ rfl (blk4 (put4 hR3 fun j => .int .u64 (wd (lev (fun j => y (k - 1 - j)) k) j))) Tryz.underlying29 rfl (by kernel_rfl)) rfl ⟨rfl,zbb hB3 (by omega) _ _ _ _⟩
theorem ziw (X m : Nat) : dg w64 (X / 2) m = dg w64 X m / 2 + 9223372036854775808 * (dg w64 X (m + 1) % 2):=by
 unfold dg
 rw [Nat.pow_succ,← Nat.div_div_eq_div_mul,Nat.div_div_eq_div_mul X 2,Nat.mul_comm 2,← Nat.div_div_eq_div_mul]
 generalize X / w64 ^ m = q
 unfold w64
 omega
theorem wd_half_odd (X m : Nat) (h : wd X (m + 1) % 2 = 1) : wd X m / 2 + 9223372036854775808 = wd (X / 2) m:=by
 have e:=ziw X m
 unfold wd at *
 rw [e]; generalize dg w64 X m = a at *; generalize dg w64 X (m + 1) = b at *; omega
theorem zjz (X m : Nat) (h : wd X (m + 1) % 2 = 0) : wd X m / 2 = wd (X / 2) m:=by
 have e:=ziw X m
 unfold wd at *
 rw [e]; generalize dg w64 X m = a at *; generalize dg w64 X (m + 1) = b at *; omega
theorem wd_half_top (X : Nat) (h : X < top) : wd X 3 / 2 = wd (X / 2) 3 :=
 zjz X 3 (by rw [(num_wide X h).1]; rfl)
theorem wd_par (X : Nat) : wd X 0 % 2 = ((X % 2 : Nat) : Int):=by
 unfold wd dg w64; rw [Nat.pow_zero,Nat.div_one]; omega
def HalfTop (S D : Nat) : Prop:=(∀ j,j < 3 → wd (S / 2) j = wd D j) ∧ wd (S / 2) 3 + 9223372036854775808 = wd D 3 ∧ wd (S / 2) 3 < 9223372036854775808
theorem halfTop {S : Nat} (h : S < top) : HalfTop S ((S + top) / 2):=by
 have h1 : ∀ j,j < 4 → dg w64 (S + top) j = dg w64 S j:=by
  intro j hj
  have e:=zcr (B:=w64) (S + top) 4 j hj
  have e0 : (S + top) % w64 ^ 4 = S:=by
   rw [show w64 ^ 4 = top from rfl,Nat.add_mod_right]; exact Nat.mod_eq_of_lt h
  rw [← e,e0]
 have h2 : dg w64 (S + top) 4 = 1:=by
  show (S + top) / top % w64 = 1
  rw [Nat.add_div_right _ zbm,Nat.div_eq_of_lt h]; rfl
 have h3 : dg w64 S 4 = 0:=by
  show S / top % w64 = 0
  rw [Nat.div_eq_of_lt h]; rfl
 have hl:=dg_lt zaq S 3
 have e3:=ziw S 3
 have f3:=ziw (S + top) 3
 rw [h3] at e3
 rw [h2,h1 3 (by omega)] at f3
 have hw : w64 = 18446744073709551616:=rfl
 refine ⟨fun j hj => ?_,?_,?_⟩
 ·
  unfold wd; rw [ziw,ziw (S + top),h1 j (by omega),h1 (j + 1) (by omega)]
 ·
  unfold wd; rw [e3,f3]; omega
 ·
  unfold wd; rw [e3]; omega
section
variable {w0 : World} {Post : Value → World → Prop} {J : World → Prop}
def stepH (d f g u k : Nat) (t : Int) (ht : wd (u / 2) k = t) (r : OT Tryz.prog w0 Post J) : OT Tryz.prog w0 Post J :=
 .cases (wd u (k + 1) % 2 = 1)
  (fun h => .ins d (binK .quo 27 (.tmp (d - 1)) (.const (.int .u64 2)) (.int .u64 (wd u k)) (.int .u64 2)) (.int .u64 (wd u k / 2)) (fun _ _ => quo2_run rfl (wd_lo _ _) (wd_le _ _)) <|
   .ins f (binK .rem 27 (.tmp (f - 1)) (.const (.int .u64 2)) (.int .u64 (wd u (k + 1))) (.int .u64 2)) (.int .u64 1) (fun _ _ => rem2_run h (wd_lo _ _)) <|
   .ins g (binK .add 27 (.tmp (g - 1)) (.const (.int .u64 9223372036854775808)) (.int .u64 (wd u k / 2)) (.int .u64 9223372036854775808)) (.int .u64 t) (fun _ _ => ht ▸ addh_run (wd_half_odd u k h) (wd_lo _ _) (wd_le _ _)) r)
  (fun h => .ins d (binK .quo 27 (.tmp (d - 1)) (.const (.int .u64 2)) (.int .u64 (wd u k)) (.int .u64 2)) (.int .u64 t) (fun _ _ => ht ▸ quo2_run (zjz u k (by omega)) (wd_lo _ _) (wd_le _ _)) <|
   .ins f (binK .rem 27 (.tmp (f - 1)) (.const (.int .u64 2)) (.int .u64 (wd u (k + 1))) (.int .u64 2)) (.int .u64 0) (fun _ _ => rem2_run (by omega) (wd_lo _ _)) r)
def lastH (d u : Nat) (hu : u < top) (r : OT Tryz.prog w0 Post J) : OT Tryz.prog w0 Post J :=
 .ins d (binK .quo 27 (.tmp (d - 1)) (.const (.int .u64 2)) (.int .u64 (wd u 3)) (.int .u64 2)) (.int .u64 (wd (u / 2) 3)) (fun _ _ => quo2_run (wd_half_top u hu) (wd_lo _ _) (wd_le _ _)) r
def parH (d u : Nat) (b : Int) (h : wd u 0 % 2 = b) (r : OT Tryz.prog w0 Post J) : OT Tryz.prog w0 Post J :=
 .ins d (binK .rem 27 (.tmp (d - 1)) (.const (.int .u64 2)) (.int .u64 (wd u 0)) (.int .u64 2)) (.int .u64 b) (fun _ _ => rem2_run h (wd_lo _ _)) r
end
theorem ghalf_even (X M : Nat) (hVt : X < top) (h : X % 2 = 0) (w : World) :
  Calls Tryz.prog 88 #[.agg #[vI vU (wd X 0),vI vU (wd X 1),vI vU (wd X 2),vI vU (wd X 3)],.agg #[vI vU (wd M 0),vI vU (wd M 1),vI vU (wd M 2),vI vU (wd M 3)]] w fun e w' => e = .returned (.agg #[vI vU (wd (X / 2) 0),vI vU (wd (X / 2) 1),vI vU (wd (X / 2) 2),vI vU (wd (X / 2) 3)]) ∧ Below w.heap.size w w' :=
 way1 Tryz.func88 [.agg #[vI vU (wd X 0),vI vU (wd X 1),vI vU (wd X 2),vI vU (wd X 3)],.agg #[vI vU (wd M 0),vI vU (wd M 1),vI vU (wd M 2),vI vU (wd M 3)]] (parH 9 X 0 (by rw [wd_par,h]; rfl) <| .unroll 5 <| stepH 25 34 41 X 0 _ rfl <| stepH 25 34 41 X 1 _ rfl <| stepH 25 34 41 X 2 _ rfl <| lastH 25 X hVt <| .ret _ fun _ h => ⟨rfl,h⟩) (by kernel_rfl)
theorem ghalf_no (X M S : Nat) (hX : X < top) (hM : M < top) (h : X % 2 = 1) (hS : (X + M) % top = S) (hu : decide (top ≤ X + M) = false) (w : World) :
  Calls Tryz.prog 88 #[.agg #[vI vU (wd X 0),vI vU (wd X 1),vI vU (wd X 2),vI vU (wd X 3)],.agg #[vI vU (wd M 0),vI vU (wd M 1),vI vU (wd M 2),vI vU (wd M 3)]] w fun e w' => e = .returned (.agg #[vI vU (wd (S / 2) 0),vI vU (wd (S / 2) 1),vI vU (wd (S / 2) 2),vI vU (wd (S / 2) 3)]) ∧ Below w.heap.size w w' :=
 way1 Tryz.func88 [.agg #[vI vU (wd X 0),vI vU (wd X 1),vI vU (wd X 2),vI vU (wd X 3)],.agg #[vI vU (wd M 0),vI vU (wd M 1),vI vU (wd M 2),vI vU (wd M 3)]] (parH 9 X 1 (by rw [wd_par,h]; rfl) <| .call _ _ _ (fun W _ => zit X M S false hS hu hX hM W) <| .unroll 5 <|
  stepH 25 34 41 S 0 _ rfl <| stepH 25 34 41 S 1 _ rfl <| stepH 25 34 41 S 2 _ rfl <| lastH 25 S (by rw [← hS]; exact Nat.mod_lt _ zbm) <| .ret _ fun _ h => ⟨rfl,h⟩) (by kernel_rfl)
theorem ghalf_over (X M S : Nat) (D : Nat) (hD : HalfTop S D) (hX : X < top) (hM : M < top) (h : X % 2 = 1) (hS : (X + M) % top = S) (hu : decide (top ≤ X + M) = true) (w : World) :
  Calls Tryz.prog 88 #[.agg #[vI vU (wd X 0),vI vU (wd X 1),vI vU (wd X 2),vI vU (wd X 3)],.agg #[vI vU (wd M 0),vI vU (wd M 1),vI vU (wd M 2),vI vU (wd M 3)]] w fun e w' => e = .returned (.agg #[vI vU (wd D 0),vI vU (wd D 1),vI vU (wd D 2),vI vU (wd D 3)]) ∧ Below w.heap.size w w' :=
 way1 Tryz.func88 [.agg #[vI vU (wd X 0),vI vU (wd X 1),vI vU (wd X 2),vI vU (wd X 3)],.agg #[vI vU (wd M 0),vI vU (wd M 1),vI vU (wd M 2),vI vU (wd M 3)]] (parH 9 X 1 (by rw [wd_par,h]; rfl) <| .call _ _ _ (fun W _ => zit X M S true hS hu hX hM W) <| .unroll 5 <|
  stepH 25 34 41 S 0 (wd D 0) (hD.1 0 (by decide)) <| stepH 25 34 41 S 1 (wd D 1) (hD.1 1 (by decide)) <| stepH 25 34 41 S 2 (wd D 2) (hD.1 2 (by decide)) <| lastH 25 S (by rw [← hS]; exact Nat.mod_lt _ zbm) <|
  .ins 46 (binK .add 27 (.tmp 45) (.const (.int .u64 9223372036854775808)) (.int .u64 (wd (S / 2) 3)) (.int .u64 9223372036854775808)) (.int .u64 (wd D 3)) (fun _ _ => addh_run hD.2.1 (wd_lo _ _) (wd_le _ _)) <|
  .ret _ fun _ h => ⟨rfl,h⟩) (by kernel_rfl)
def hf (X M : Nat) : Nat:=if X % 2 = 0 then X / 2 else (X + M) / 2
theorem hf_lt {X M : Nat} (h : X < M) : hf X M < M:=by unfold hf; split <;> omega
theorem ghalf_calls (X M : Nat) (hX : X < M) (hM : M < top) (w : World) :
  Calls Tryz.prog 88 #[.agg #[vI vU (wd X 0),vI vU (wd X 1),vI vU (wd X 2),vI vU (wd X 3)],.agg #[vI vU (wd M 0),vI vU (wd M 1),vI vU (wd M 2),vI vU (wd M 3)]] w fun e w' => e = .returned (.agg #[vI vU (wd (hf X M) 0),vI vU (wd (hf X M) 1),vI vU (wd (hf X M) 2),vI vU (wd (hf X M) 3)]) ∧ Below w.heap.size w w':=by
 unfold hf
 by_cases h : X % 2 = 0
 ·
  rw [if_pos h]; exact ghalf_even X M (by omega) h w
 ·
  rw [if_neg h]
  by_cases h2 : top ≤ X + M
  ·
   have e : (X + M) % top = X + M - top:=by rw [Nat.mod_eq_sub_mod h2,Nat.mod_eq_of_lt (by omega)]
   have hd:=halfTop (S:=X + M - top) (by omega)
   rw [show X + M - top + top = X + M by omega] at hd
   exact ghalf_over X M _ _ hd (by omega) hM (by omega) e (by simpa using h2) w
  ·
   have e : (X + M) % top = X + M:=Nat.mod_eq_of_lt (by omega)
   exact ghalf_no X M _ (by omega) hM (by omega) e (by simpa using h2) w
theorem gcd_even (u v : Nat) (hu : u % 2 = 0) (hv : v % 2 = 1) : Nat.gcd (u / 2) v = Nat.gcd u v:=by
 have hc : Nat.Coprime 2 v:=by
  unfold Nat.Coprime
  rw [Nat.gcd_rec,hv]; rfl
 have e : u = 2 * (u / 2):=by omega
 conv => rhs; rw [e]
 exact (Nat.Coprime.gcd_mul_left_cancel (u / 2) hc).symm
theorem gcd_less (u v : Nat) (h : u ≤ v) : Nat.gcd (v - u) u = Nat.gcd u v:=by
 rw [Nat.gcd_comm u v]
 have e : v = (v - u) + u:=by omega
 conv => rhs; rw [e,Nat.gcd_add_self_left]
theorem cut_twice {M A B : Nat} (hM : M % 2 = 1) (h : 2 * A % M = 2 * B % M) : A % M = B % M:=by
 have hM0 : 0 < M:=by omega
 rw [Nat.mul_mod,← Nat.mul_mod_mod,Nat.mod_mul_mod] at h
 rw [Nat.mul_mod 2 B,← Nat.mul_mod_mod,Nat.mod_mul_mod] at h
 have ha:=Nat.mod_lt A hM0
 have hb:=Nat.mod_lt B hM0
 simp only [Nat.mod_mod] at h
 generalize A % M = a at *
 generalize B % M = b at *
 have e : ∀ c,c < M → 2 * c % M = if 2 * c < M then 2 * c else 2 * c - M:=by
  intro c hc
  split
  ·
   exact Nat.mod_eq_of_lt (by assumption)
  ·
   rw [Nat.mod_eq_sub_mod (by omega),Nat.mod_eq_of_lt (by omega)]
 rw [e a ha,e b hb] at h
 split at h <;> split at h <;> omega
theorem cut_add {M A B C : Nat} (hM0 : 0 < M) (h : (A + C) % M = (B + C) % M) : A % M = B % M:=by
 rw [Nat.add_mod,Nat.add_mod B] at h
 have ha:=Nat.mod_lt A hM0
 have hb:=Nat.mod_lt B hM0
 have hc:=Nat.mod_lt C hM0
 generalize A % M = a at *
 generalize B % M = b at *
 generalize C % M = c at *
 have e : ∀ d,d < M → (d + c) % M = if d + c < M then d + c else d + c - M:=by
  intro d hd
  split
  ·
   exact Nat.mod_eq_of_lt (by assumption)
  ·
   rw [Nat.mod_eq_sub_mod (by omega),Nat.mod_eq_of_lt (by omega)]
 rw [e a ha,e b hb] at h
 split at h <;> split at h <;> omega
structure Inv (a M r u v x y : Nat) : Prop where
 hx : x < M
 hy : y < M
 hu : u < top
 hv : v < top
 odd : v % 2 = 1
 ex : a * x % M = u % M
 ey : a * y % M = v % M
 g : Nat.gcd u v = Nat.gcd a M
 left : ∃ p q,u < 2 ^ p ∧ v < 2 ^ q ∧ r + 2 * (p + q) + u % 2 ≤ 1025
theorem inv_start {a M : Nat} (ha : a < M) (hM : M < top) (hM1 : 1 < M) (hodd : M % 2 = 1) : Inv a M 0 a M 1 0 :=
 ⟨hM1,by omega,by omega,hM,hodd,by rw [Nat.mul_one],by rw [Nat.mul_zero,Nat.zero_mod,Nat.mod_self],rfl,256,256,by show a < top; omega,hM,by omega⟩
theorem inv_even {a M r u v x y : Nat} (h : Inv a M r u v x y) (hodd : M % 2 = 1) (hu : u % 2 = 0) (h0 : u ≠ 0) : Inv a M (r + 1) (u / 2) v (hf x M) y:=by
 obtain ⟨hx,hy,hut,hvt,odd,ex,ey,g,p,q,hp,hq,hl⟩:=h
 refine ⟨hf_lt hx,hy,by omega,hvt,odd,?_,ey,by rw [gcd_even u v hu odd]; exact g,p - 1,q,?_,hq,?_⟩
 ·
  apply cut_twice hodd
  rw [show 2 * (u / 2) = u by omega,← ex]
  unfold hf
  split
  ·
   rw [Nat.mul_left_comm,show 2 * (x / 2) = x by omega]
  ·
   rw [Nat.mul_left_comm,show 2 * ((x + M) / 2) = x + M by omega,Nat.mul_add,Nat.add_mul_mod_self_right]
 ·
  cases p with
  | zero => simp at hp; omega
  | succ p => rw [Nat.pow_succ] at hp; simp only [Nat.add_sub_cancel]; omega
 ·
  cases p with
  | zero => simp at hp; omega
  | succ p => simp only [Nat.add_sub_cancel]; omega
theorem inv_more {a M r u v x y : Nat} (h : Inv a M r u v x y) (hu : u % 2 = 1) (hle : v ≤ u) : Inv a M (r + 1) (u - v) v ((x + M - y) % M) y:=by
 obtain ⟨hx,hy,hut,hvt,odd,ex,ey,g,p,q,hp,hq,hl⟩:=h
 have hM0 : 0 < M:=by omega
 refine ⟨Nat.mod_lt _ hM0,hy,by omega,hvt,odd,?_,ey,by rw [gcd_less v u hle,Nat.gcd_comm]; exact g,p,q,by omega,hq,by omega⟩
 apply cut_add (C:=v) hM0
 rw [Nat.sub_add_cancel hle,← ex,Nat.add_mod,← ey,← Nat.add_mod,Nat.add_mod,Nat.mul_mod,Nat.mod_mod,← Nat.mul_mod,← Nat.add_mod,← Nat.mul_add,show x + M - y + y = x + M by omega,Nat.mul_add,Nat.add_mul_mod_self_right]
theorem inv_less {a M r u v x y : Nat} (h : Inv a M r u v x y) (hu : u % 2 = 1) (hlt : u < v) : Inv a M (r + 1) (v - u) u ((y + M - x) % M) x:=by
 obtain ⟨hx,hy,hut,hvt,odd,ex,ey,g,p,q,hp,hq,hl⟩:=h
 have h2 : Inv a M r v u y x:=⟨hy,hx,hvt,hut,hu,ey,ex,by rw [Nat.gcd_comm]; exact g,q,p,hq,hp,by omega⟩
 exact inv_more h2 odd (by omega)
theorem neq4 (f g : Nat → Int) (w : World) : (binOp .neq 29 (.agg #[vI vU (f 0),vI vU (f 1),vI vU (f 2),vI vU (f 3)]) (.agg #[vI vU (g 0),vI vU (g 1),vI vU (g 2),vI vU (g 3)])).run Tryz.prog w = .ok (.bool (!((List.range 4).all fun i => f i == g i))) w:=by
 obtain ⟨i,hi⟩ : ∃ i,Tryz.prog.info? 27 = some i:=Option.isSome_iff_exists.1 (by kernel_rfl)
 have hc : Tryz.prog.cellsOf 27 = 1:=by kernel_rfl
 rw [run_neq_struct,run_equalIn_array (P:=Tryz.prog) w 9999 _ _ Tryz.underlying29 hi,hc]
 rw [run_items 9998 _ _ f g w _ (fun j hj => arr4 (fun j => .int .u64 (f j)) j (by simpa using hj)) (fun j hj => arr4 (fun j => .int .u64 (g j)) j (by simpa using hj))]
 rfl
theorem zkq {X : Nat} (hX : X < top) (w : World) : (binOp .neq 29 (.agg #[vI vU (wd X 0),vI vU (wd X 1),vI vU (wd X 2),vI vU (wd X 3)]) (.agg #[vI vU 0,vI vU 0,vI vU 0,vI vU 0])).run Tryz.prog w = .ok (.bool (!decide (X = 0))) w:=by
 have h:=neq4 (wd X) (wd 0) w
 rw [all_wd 4 X 0] at h
 have e : (X % w64 ^ 4 = 0 % w64 ^ 4) = (X = 0):=by rw [Nat.mod_eq_of_lt (show X < w64 ^ 4 from hX),Nat.zero_mod]
 rw [decide_eq_decide.2 (iff_of_eq e)] at h
 have e0 : ∀ i,wd 0 i = 0:=by intro i; unfold wd dg; simp
 simpa [e0] using h
theorem eql_one {X : Nat} (hX : X < top) (w : World) : (binOp .eql 29 (.agg #[vI vU (wd X 0),vI vU (wd X 1),vI vU (wd X 2),vI vU (wd X 3)]) (.agg #[vI vU 1,vI vU 0,vI vU 0,vI vU 0])).run Tryz.prog w = .ok (.bool (decide (X = 1))) w:=by
 have h:=zme hX (show 1 < top by decide) w
 have o0 : wd 1 0 = 1:=by decide
 have o1 : wd 1 1 = 0:=by decide
 have o2 : wd 1 2 = 0:=by decide
 have o3 : wd 1 3 = 0:=by decide
 rw [o0,o1,o2,o3] at h
 exact h
section
variable {w0 : World} {Post : Value → World → Prop} {J : World → Prop}
def iInc (n : Nat) (h : n < 4294967296) (r : OT Tryz.prog w0 Post J) : OT Tryz.prog w0 Post J :=
 .ins 27 (binK .add 3 (.tmp 26) (.const (.int .i64 1)) (.int .i64 (n : Int)) (.int .i64 1)) (.int .i64 ((n + 1 : Nat) : Int)) (fun _ _ => inc_run h) r
end
theorem ginv_calls (X M : Nat) (hX : X < M) (hM1 : 1 < M) (hodd : M % 2 = 1) (hM : M < top) (w : World) :
  Calls Tryz.prog 45 #[.agg #[vI vU (wd X 0),vI vU (wd X 1),vI vU (wd X 2),vI vU (wd X 3)],.agg #[vI vU (wd M 0),vI vU (wd M 1),vI vU (wd M 2),vI vU (wd M 3)]] w fun e w' => ∃ y,y < M ∧ (Nat.gcd X M = 1 → X * y % M = 1) ∧ e = .returned (.tuple #[.agg #[vI vU (wd y 0),vI vU (wd y 1),vI vU (wd y 2),vI vU (wd y 3)],.bool (Nat.gcd X M == 1)]) ∧ Below w.heap.size w w':=by
 have hI0:=inv_start hX hM hM1 hodd
 have hr : ∀ {r u v x y},Inv X M r u v x y → r < 1100:=fun h => by obtain ⟨p,q,_,_,h⟩:=h.left; omega
 have ho : ∀ {u : Nat},¬ u % 2 = 0 → u % 2 = 1:=fun h => by omega
 have hd : ∀ {v : Nat},Nat.gcd X M = v → (decide (v = 1)) = (Nat.gcd X M == 1):=fun h => by rw [h]; rfl
 refine (way0 (Post:=fun v W => ∃ y,y < M ∧ (Nat.gcd X M = 1 → X * y % M = 1) ∧ v = .tuple #[.agg #[vI vU (wd y 0),vI vU (wd y 1),vI vU (wd y 2),vI vU (wd y 3)],.bool (Nat.gcd X M == 1)] ∧ Ext w W) Tryz.func45 [.agg #[vI vU (wd X 0),vI vU (wd X 1),vI vU (wd X 2),vI vU (wd X 3)],.agg #[vI vU (wd M 0),vI vU (wd M 1),vI vU (wd M 2),vI vU (wd M 3)]] (
  .loop (fun l => [(11,.v (.int .i64 (l 0 : Int))),(2,.p 0 0),(3,.p 1 0),(4,.p 2 0),(6,.p 3 0),(7,.p 4 0),(8,.p 5 0),(9,.p 6 0),(10,.p 7 0)])
   (fun l => [⟨29,cN X⟩,⟨29,cN M⟩,⟨29,cZ⟩,⟨29,cN (l 1)⟩,⟨29,cN (l 2)⟩,⟨29,cN (l 3)⟩,⟨29,cN (l 4)⟩,⟨29,cZ⟩])
   (fun l => 1100 - l 0) (fun l => Inv X M (l 0) (l 1) (l 2) (l 3) (l 4)) (lst [0,X,M,1,0]) hI0 fun l h =>
  .cases (l 1 = 0)
   (fun h0 => .ins 20 (binK .lss 3 (.tmp 19) (.const (.int .i64 1100)) (.int .i64 (l 0 : Int)) (.int .i64 1100)) (.bool true) (fun _ _ => lssi_run (by have:=hr h; omega)) <|
    .ins 24 (binK .neq 29 (.tmp 22) (.tmp 23) (.agg #[vI vU (wd (l 1) 0),vI vU (wd (l 1) 1),vI vU (wd (l 1) 2),vI vU (wd (l 1) 3)]) (.agg #[vI vU 0,vI vU 0,vI vU 0,vI vU 0])) (.bool false) (fun W _ => zbp (by simp [eqGuard,go_sem]) (by rw [zkq h.hu W,decide_eq_true h0]; rfl)) <|
    .ins 80 (binK .eql 29 (.tmp 78) (.tmp 79) (.agg #[vI vU (wd (l 2) 0),vI vU (wd (l 2) 1),vI vU (wd (l 2) 2),vI vU (wd (l 2) 3)]) (.agg #[vI vU 1,vI vU 0,vI vU 0,vI vU 0])) (.bool (Nat.gcd X M == 1)) (fun W _ => zbp (by simp [eqGuard,go_sem]) (by rw [eql_one h.hv W,hd (by rw [← h.g,h0,Nat.gcd_zero_left])])) <|
    .ret (.tuple #[.agg #[vI vU (wd (l 4) 0),vI vU (wd (l 4) 1),vI vU (wd (l 4) 2),vI vU (wd (l 4) 3)],.bool (Nat.gcd X M == 1)]) fun W hW => ⟨l 4,h.hy,fun hg => by rw [h.ey,show l 2 = 1 by rw [← hg,← h.g,h0,Nat.gcd_zero_left],Nat.mod_eq_of_lt hM1],rfl,hW⟩)
   (fun h0 => .ins 20 (binK .lss 3 (.tmp 19) (.const (.int .i64 1100)) (.int .i64 (l 0 : Int)) (.int .i64 1100)) (.bool true) (fun _ _ => lssi_run (by have:=hr h; omega)) <|
    .ins 24 (binK .neq 29 (.tmp 22) (.tmp 23) (.agg #[vI vU (wd (l 1) 0),vI vU (wd (l 1) 1),vI vU (wd (l 1) 2),vI vU (wd (l 1) 3)]) (.agg #[vI vU 0,vI vU 0,vI vU 0,vI vU 0])) (.bool true) (fun W _ => zbp (by simp [eqGuard,go_sem]) (by rw [zkq h.hu W,decide_eq_false h0]; rfl)) <|
    .cases (l 1 % 2 = 0)
     (fun hp => parH 30 (l 1) 0 (by rw [wd_par,hp]; rfl) <|
      .call _ _ _ (fun W _ => ghalf_calls (l 3) M h.hx hM W) <| .unroll 5 <| stepH 43 52 59 (l 1) 0 _ rfl <| stepH 43 52 59 (l 1) 1 _ rfl <| stepH 43 52 59 (l 1) 2 _ rfl <| lastH 43 (l 1) h.hu <|
      iInc (l 0) (by have:=hr h; omega) <| .next (lst [l 0 + 1,l 1 / 2,l 2,hf (l 3) M,l 4]) _ (And.intro (inv_even h hodd hp h0) (show 1100 - (l 0 + 1) < 1100 - l 0 by have:=hr h; omega)))
     (fun hp => parH 30 (l 1) 1 (by rw [wd_par,ho hp]; rfl) <|
      .cases (l 1 < l 2)
       (fun hl => .call _ _ _ (fun W _ => zfn (l 1) (l 2) true (decide_eq_true hl) h.hu h.hv W) <| .call _ _ _ (fun W _ => zgc (l 2) (l 1) (l 2 - l 1) (by rw [show l 2 + top - l 1 = (l 2 - l 1) + top by omega,Nat.add_mod_right,Nat.mod_eq_of_lt (by have:=h.hv; omega)]) h.hv h.hu W) <|
        .call _ _ _ (fun W _ => zjr (l 4) (l 3) M h.hy h.hx hM W) <| iInc (l 0) (by have:=hr h; omega) <| .next (lst [l 0 + 1,l 2 - l 1,l 1,(l 4 + M - l 3) % M,l 3]) _ (And.intro (inv_less h (ho hp) hl) (show 1100 - (l 0 + 1) < 1100 - l 0 by have:=hr h; omega)))
       (fun hl => .call _ _ _ (fun W _ => zfn (l 1) (l 2) false (decide_eq_false hl) h.hu h.hv W) <| .call _ _ _ (fun W _ => zgc (l 1) (l 2) (l 1 - l 2) (by rw [show l 1 + top - l 2 = (l 1 - l 2) + top by omega,Nat.add_mod_right,Nat.mod_eq_of_lt (by have:=h.hu; omega)]) h.hu h.hv W) <|
        .call _ _ _ (fun W _ => zjr (l 3) (l 4) M h.hx h.hy hM W) <| iInc (l 0) (by have:=hr h; omega) <| .next (lst [l 0 + 1,l 1 - l 2,l 2,(l 3 + M - l 4) % M,l 4]) _ (And.intro (inv_more h (ho hp) (Nat.le_of_not_lt hl)) (show 1100 - (l 0 + 1) < 1100 - l 0 by have:=hr h; omega))))))
  (by kernel_rfl)).mono fun e w' ⟨v,he,y,h1,h2,h3,h4⟩ => ⟨y,h1,h2,by rw [he,h3],h4⟩
theorem three_lt : 3 < Pt.pp:=by decide +kernel
theorem bb_lt : Pt.bb < Pt.pp:=by decide +kernel
theorem pp_one : 1 < Pt.pp:=by decide +kernel
theorem pp_odd : Pt.pp % 2 = 1:=by decide +kernel
theorem wd_nil (i : Nat) : wd 0 i = 0:=by unfold wd dg; simp
theorem eql_zero {X : Nat} (hX : X < top) (w : World) : (binOp .eql 29 (.agg #[vI vU (wd X 0),vI vU (wd X 1),vI vU (wd X 2),vI vU (wd X 3)]) (.agg #[vI vU 0,vI vU 0,vI vU 0,vI vU 0])).run Tryz.prog w = .ok (.bool (decide (X = 0))) w:=by
 have h:=zme hX (show 0 < top by decide) w
 simp only [wd_nil] at h
 exact h
theorem zgi : ((0 : Fin Pt.pp)).val = 0:=Fin.val_zero _
theorem v_one : ((1 : Fin Pt.pp)).val = 1:=Pt.val_one pp_one
theorem v_three : ((3 : Fin Pt.pp)).val = 3:=by
 rw [← Pt.F_three]
 exact Nat.mod_eq_of_lt three_lt
theorem zce (x : Fin Pt.pp) : x.val < top:=Nat.lt_trans x.isLt zdq
section
variable {x y z : Fin Pt.pp}
theorem fmul_is {X Y : Nat} (hX : X < Pt.pp) (hY : Y < Pt.pp) (h : X * Y % Pt.pp = z.val) (w : World) : Calls Tryz.prog 85 #[nv X,nv Y] w fun e w' => e = .returned (nv z.val) ∧ Ext w w':=by
 have k:=veil fun W => gmul_calls X Y Pt.pp hX (Nat.lt_trans hY zdq) zdq W
 rw [h] at k
 clear h
 exact way1 Tryz.func85 [nv X,nv Y] (.call _ _ _ (fun W _ => zhh W) <| .call _ _ _ (fun W _ => k.out W) <| .ret _ fun _ h => ⟨rfl,h⟩) (by kernel_rfl)
theorem fsub_is {X Y : Nat} (hX : X < Pt.pp) (hY : Y < Pt.pp) (h : (X + Pt.pp - Y) % Pt.pp = z.val) (w : World) : Calls Tryz.prog 86 #[nv X,nv Y] w fun e w' => e = .returned (nv z.val) ∧ Ext w w':=by
 have k:=veil fun W => zjr X Y Pt.pp hX hY zdq W
 rw [h] at k
 clear h
 exact way1 Tryz.func86 [nv X,nv Y] (.call _ _ _ (fun W _ => zhh W) <| .call _ _ _ (fun W _ => k.out W) <| .ret _ fun _ h => ⟨rfl,h⟩) (by kernel_rfl)
theorem fmul (h : z = x * y) (w : World) : Calls Tryz.prog 85 #[nv x.val,nv y.val] w fun e w' => e = .returned (nv z.val) ∧ Ext w w':=fmul_is x.isLt y.isLt (by rw [h,Pt.v_mul]) w
theorem fthree (h : z = 3 * x) (w : World) : Calls Tryz.prog 85 #[nv 3,nv x.val] w fun e w' => e = .returned (nv z.val) ∧ Ext w w':=fmul_is three_lt x.isLt (by rw [h,← Pt.v_mul,v_three]) w
theorem fsub (h : z = x - y) (w : World) : Calls Tryz.prog 86 #[nv x.val,nv y.val] w fun e w' => e = .returned (nv z.val) ∧ Ext w w':=fsub_is x.isLt y.isLt (by rw [h,Pt.v_sub]) w
theorem fless (h : z = x - 1) (w : World) : Calls Tryz.prog 86 #[nv x.val,nv 1] w fun e w' => e = .returned (nv z.val) ∧ Ext w w':=fsub_is x.isLt pp_one (by rw [h,← Pt.v_sub,v_one]) w
theorem fneg (h : z = 0 - y) (w : World) : Calls Tryz.prog 86 #[nv 0,nv y.val] w fun e w' => e = .returned (nv z.val) ∧ Ext w w':=fsub_is pp_pos y.isLt (by rw [h,← Pt.v_sub,zgi]) w
theorem fadd (h : z = x + y) (w : World) : Calls Tryz.prog 68 #[nv x.val,nv y.val,nv Pt.pp] w fun e w' => e = .returned (nv z.val) ∧ Ext w w':=by
 have k:=zgx x.val y.val Pt.pp x.isLt y.isLt zdq w
 rw [Pt.v_add,← h] at k
 exact k
theorem finv (hx : x ≠ 0) (h : z = Pt.E256.inv x) (w : World) : Calls Tryz.prog 45 #[nv x.val,nv Pt.pp] w fun e w' => e = .returned (.tuple #[nv z.val,.bool true]) ∧ Ext w w':=by
 refine (ginv_calls x.val Pt.pp x.isLt pp_one pp_odd zdq w).mono ?_
 rintro e w' ⟨t,ht,hi,rfl,hb⟩
 have hg:=Pt.v_gcd hx
 rw [Pt.v_inv ht (hi hg),← h,hg]
 exact ⟨rfl,hb⟩
end
/-! ### Neg -/
theorem rneg_fe (X : Nat) {y z : Fin Pt.pp} (f : Bool) (h : z = 0 - y) (w : World) : Calls Tryz.prog 95 #[qv X y.val f] w fun e w' => e = .returned (qv X z.val f) ∧ Ext w w':=by
 have k:=veil h
 clear h
 exact way1 Tryz.func95 [qv X y.val f] (.call _ _ _ (fun W _ => fneg k.out W) <| .ret _ fun _ h => ⟨rfl,h⟩) (by kernel_rfl)
/-! ### On -/
def rightN (X : Nat) : Nat:=((X * X % Pt.pp * X % Pt.pp + Pt.pp - 3 * X % Pt.pp) % Pt.pp + Pt.bb) % Pt.pp
def onB (X Y : Nat) (f : Bool) : Bool:=if f then decide (X = 0) && decide (Y = 0) else decide (X < Pt.pp) && (decide (Y < Pt.pp) && decide (Y * Y % Pt.pp = rightN X))
theorem right_val (x : Fin Pt.pp) : rightN x.val = (x * x * x - 3 * x + Pt.F Pt.bb).val:=by
 unfold rightN
 have e3 : 3 * x.val % Pt.pp = (3 * x).val:=by rw [← Pt.v_mul,v_three]
 have eb : Pt.bb = (Pt.F Pt.bb : Fin Pt.pp).val:=(Nat.mod_eq_of_lt bb_lt).symm
 rw [e3,Pt.v_mul,Pt.v_mul,Pt.v_sub]
 conv => lhs; rw [eb]
 rw [Pt.v_add]
section
variable (X Y : Nat)
end
/-! ### Add -/
section
variable (X Y : Nat)
theorem radd_far1 (X2 Y2 : Nat) (f : Bool) (w : World) : Calls Tryz.prog 50 #[qv X Y true,qv X2 Y2 f] w fun e w' => e = .returned (qv X2 Y2 f) ∧ Ext w w':=by
 exact way1 Tryz.func50 [qv X Y true,qv X2 Y2 f] (.ret _ fun _ h => ⟨rfl,h⟩) (by kernel_rfl)
theorem radd_far2 (X2 Y2 : Nat) (w : World) : Calls Tryz.prog 50 #[qv X Y false,qv X2 Y2 true] w fun e w' => e = .returned (qv X Y false) ∧ Ext w w':=by
 exact way1 Tryz.func50 [qv X Y false,qv X2 Y2 true] (.ret _ fun _ h => ⟨rfl,h⟩) (by kernel_rfl)
end
theorem eql_no {X Y X' Y' : Nat} (hX : X < top) (hY : Y < top) (hX' : X' < top) (hY' : Y' < top) (h : ¬ (X = X' ∧ Y = Y')) (w : World) : (binOp .eql 44 (qv X Y false) (qv X' Y' false)).run Tryz.prog w = .ok (.bool false) w:=by
 have e:=eql_pt hX hY hX' hY' false false w
 rw [decide_eq_false fun ⟨h1,h2,_⟩ => h ⟨h1,h2⟩] at e
 exact e
section
variable {x1 y1 x2 y2 m u d t l a b X c e Y : Fin Pt.pp}
theorem radd_opp (h : m = 0 - y1) (w : World) : Calls Tryz.prog 50 #[qv x1.val m.val false,qv x1.val y1.val false] w fun e w' => e = .returned (qv 0 0 true) ∧ Ext w w':=by
 have k:=veil h
 clear h
 exact way1 Tryz.func50 [qv x1.val m.val false,qv x1.val y1.val false] (.call _ _ _ (fun W _ => rneg_fe x1.val false k.out W) <|
  .ins 20 (binK .eql 44 (.tmp 17) (.tmp 19) (qv x1.val m.val false) (qv x1.val m.val false)) (.bool true) (fun W _ => zbp (gT _ _ _ _ _ _ _ _ _ W) (eqT (zce _) (zce _) W)) <| .ret _ fun _ h => ⟨rfl,h⟩) (by kernel_rfl)
theorem radd_else (hm : m = 0 - y2) (hn : ¬ (x1.val = x2.val ∧ y1.val = m.val)) (hs : ¬ (x1.val = x2.val ∧ y1.val = y2.val)) (hu : u = y2 - y1) (hd : d = x2 - x1) (h0 : d ≠ 0) (ht : t = Pt.E256.inv d) (hl : l = u * t)
  (ha : a = l * l) (hb : b = a - x1) (hX : X = b - x2) (hc : c = x1 - X) (he : e = l * c) (hY : Y = e - y1) (w : World) :
  Calls Tryz.prog 50 #[qv x1.val y1.val false,qv x2.val y2.val false] w fun e w' => e = .returned (qv X.val Y.val false) ∧ Ext w w':=by
 have k1:=veil hm
 have k2:=veil hn
 have k3:=veil hs
 have k4:=veil hu
 have k5:=veil hd
 have k6:=veil (And.intro h0 ht)
 have k7:=veil hl
 have k8:=veil ha
 have k9:=veil hb
 have k10:=veil hX
 have k11:=veil hc
 have k12:=veil he
 have k13:=veil hY
 clear hm hn hs hu hd h0 ht hl ha hb hX hc he hY
 exact way1 Tryz.func50 [qv x1.val y1.val false,qv x2.val y2.val false] (.call _ _ _ (fun W _ => rneg_fe x2.val false k1.out W) <|
  .ins 20 (binK .eql 44 (.tmp 17) (.tmp 19) (qv x1.val y1.val false) (qv x2.val m.val false)) (.bool false) (fun W _ => zbp (gT _ _ _ _ _ _ _ _ _ W) (eql_no (zce _) (zce _) (zce _) (zce _) k2.out W)) <|
  .call _ _ _ (fun W _ => fsub k4.out W) <| .call _ _ _ (fun W _ => fsub k5.out W) <|
  .ins 34 (binK .eql 44 (.tmp 32) (.tmp 33) (qv x1.val y1.val false) (qv x2.val y2.val false)) (.bool false) (fun W _ => zbp (gT _ _ _ _ _ _ _ _ _ W) (eql_no (zce _) (zce _) (zce _) (zce _) k3.out W)) <|
  .call _ _ _ (fun W _ => zhh W) <| .call _ _ _ (fun W _ => finv k6.out.1 k6.out.2 W) <| .call _ _ _ (fun W _ => fmul k7.out W) <| .call _ _ _ (fun W _ => fmul k8.out W) <| .call _ _ _ (fun W _ => fsub k9.out W) <|
  .call _ _ _ (fun W _ => fsub k10.out W) <| .call _ _ _ (fun W _ => fsub k11.out W) <| .call _ _ _ (fun W _ => fmul k12.out W) <| .call _ _ _ (fun W _ => fsub k13.out W) <| .ret _ fun _ h => ⟨rfl,h⟩) (by kernel_rfl)
theorem radd_same {z0 z1 xx g : Fin Pt.pp} (hm : m = 0 - y1) (hn : ¬ (x1.val = x1.val ∧ y1.val = m.val)) (h1 : z0 = y1 - y1) (h2 : z1 = x1 - x1) (h3 : xx = x1 * x1) (h4 : g = xx - 1) (hu : u = 3 * g) (hd : d = y1 + y1) (h0 : d ≠ 0) (ht : t = Pt.E256.inv d) (hl : l = u * t)
  (ha : a = l * l) (hb : b = a - x1) (hX : X = b - x1) (hc : c = x1 - X) (he : e = l * c) (hY : Y = e - y1) (w : World) :
  Calls Tryz.prog 50 #[qv x1.val y1.val false,qv x1.val y1.val false] w fun e w' => e = .returned (qv X.val Y.val false) ∧ Ext w w':=by
 have k1:=veil hm
 have k2:=veil hn
 have k3:=veil (And.intro h1 h2)
 have k4:=veil (And.intro h3 (And.intro h4 hu))
 have k5:=veil hd
 have k6:=veil (And.intro h0 ht)
 have k7:=veil hl
 have k8:=veil ha
 have k9:=veil hb
 have k10:=veil hX
 have k11:=veil hc
 have k12:=veil he
 have k13:=veil hY
 clear hm hn h1 h2 h3 h4 hu hd h0 ht hl ha hb hX hc he hY
 exact way1 Tryz.func50 [qv x1.val y1.val false,qv x1.val y1.val false] (.call _ _ _ (fun W _ => rneg_fe x1.val false k1.out W) <|
  .ins 20 (binK .eql 44 (.tmp 17) (.tmp 19) (qv x1.val y1.val false) (qv x1.val m.val false)) (.bool false) (fun W _ => zbp (gT _ _ _ _ _ _ _ _ _ W) (eql_no (zce _) (zce _) (zce _) (zce _) k2.out W)) <|
  .call _ _ _ (fun W _ => fsub k3.out.1 W) <| .call _ _ _ (fun W _ => fsub k3.out.2 W) <|
  .ins 34 (binK .eql 44 (.tmp 32) (.tmp 33) (qv x1.val y1.val false) (qv x1.val y1.val false)) (.bool true) (fun W _ => zbp (gT _ _ _ _ _ _ _ _ _ W) (eqT (zce _) (zce _) W)) <|
  .call _ _ _ (fun W _ => fmul k4.out.1 W) <| .call _ _ _ (fun W _ => fless k4.out.2.1 W) <| .call _ _ _ (fun W _ => fthree k4.out.2.2 W) <| .call _ _ _ (fun W _ => zhh W) <| .call _ _ _ (fun W _ => fadd k5.out W) <|
  .call _ _ _ (fun W _ => zhh W) <| .call _ _ _ (fun W _ => finv k6.out.1 k6.out.2 W) <| .call _ _ _ (fun W _ => fmul k7.out W) <| .call _ _ _ (fun W _ => fmul k8.out W) <| .call _ _ _ (fun W _ => fsub k9.out W) <|
  .call _ _ _ (fun W _ => fsub k10.out W) <| .call _ _ _ (fun W _ => fsub k11.out W) <| .call _ _ _ (fun W _ => fmul k12.out W) <| .call _ _ _ (fun W _ => fsub k13.out W) <| .ret _ fun _ h => ⟨rfl,h⟩) (by kernel_rfl)
end
theorem p_top (p : Pt.P Pt.pp) : Pt.pX p < top ∧ Pt.pY p < top:=⟨Nat.lt_trans (Pt.pX_lt p) zdq,Nat.lt_trans (Pt.pY_lt p) zdq⟩
theorem rplus_calls (p q : Pt.Q) (w : World) :
  Calls Tryz.prog 50 #[.agg #[vI vU (wd (Pt.pX p.1) 0),vI vU (wd (Pt.pX p.1) 1),vI vU (wd (Pt.pX p.1) 2),vI vU (wd (Pt.pX p.1) 3),vI vU (wd (Pt.pY p.1) 0),vI vU (wd (Pt.pY p.1) 1),vI vU (wd (Pt.pY p.1) 2),vI vU (wd (Pt.pY p.1) 3),.bool (Pt.pFar p.1)],.agg #[vI vU (wd (Pt.pX q.1) 0),vI vU (wd (Pt.pX q.1) 1),vI vU (wd (Pt.pX q.1) 2),vI vU (wd (Pt.pX q.1) 3),vI vU (wd (Pt.pY q.1) 0),vI vU (wd (Pt.pY q.1) 1),vI vU (wd (Pt.pY q.1) 2),vI vU (wd (Pt.pY q.1) 3),.bool (Pt.pFar q.1)]] w fun e w' => e = .returned (.agg #[vI vU (wd (Pt.pX (Pt.grp.op p q).1) 0),vI vU (wd (Pt.pX (Pt.grp.op p q).1) 1),vI vU (wd (Pt.pX (Pt.grp.op p q).1) 2),vI vU (wd (Pt.pX (Pt.grp.op p q).1) 3),vI vU (wd (Pt.pY (Pt.grp.op p q).1) 0),vI vU (wd (Pt.pY (Pt.grp.op p q).1) 1),vI vU (wd (Pt.pY (Pt.grp.op p q).1) 2),vI vU (wd (Pt.pY (Pt.grp.op p q).1) 3),.bool (Pt.pFar (Pt.grp.op p q).1)]) ∧ Below w.heap.size w w':=by
 obtain ⟨p,hp⟩:=p
 obtain ⟨q,hq⟩:=q
 show Calls Tryz.prog 50 #[.agg #[vI vU (wd (Pt.pX p) 0),vI vU (wd (Pt.pX p) 1),vI vU (wd (Pt.pX p) 2),vI vU (wd (Pt.pX p) 3),vI vU (wd (Pt.pY p) 0),vI vU (wd (Pt.pY p) 1),vI vU (wd (Pt.pY p) 2),vI vU (wd (Pt.pY p) 3),.bool (Pt.pFar p)],.agg #[vI vU (wd (Pt.pX q) 0),vI vU (wd (Pt.pX q) 1),vI vU (wd (Pt.pX q) 2),vI vU (wd (Pt.pX q) 3),vI vU (wd (Pt.pY q) 0),vI vU (wd (Pt.pY q) 1),vI vU (wd (Pt.pY q) 2),vI vU (wd (Pt.pY q) 3),.bool (Pt.pFar q)]] w fun e w' => e = .returned (.agg #[vI vU (wd (Pt.pX (Pt.E256.add p q)) 0),vI vU (wd (Pt.pX (Pt.E256.add p q)) 1),vI vU (wd (Pt.pX (Pt.E256.add p q)) 2),vI vU (wd (Pt.pX (Pt.E256.add p q)) 3),vI vU (wd (Pt.pY (Pt.E256.add p q)) 0),vI vU (wd (Pt.pY (Pt.E256.add p q)) 1),vI vU (wd (Pt.pY (Pt.E256.add p q)) 2),vI vU (wd (Pt.pY (Pt.E256.add p q)) 3),.bool (Pt.pFar (Pt.E256.add p q))]) ∧ Below w.heap.size w w'
 rcases p with _ | ⟨x1,y1⟩
 ·
  rw [Pt.none_add]
  exact radd_far1 0 0 (Pt.pX q) (Pt.pY q) (Pt.pFar q) w
 ·
  rcases q with _ | ⟨x2,y2⟩
  ·
   rw [Pt.add_none]
   exact radd_far2 x1.val y1.val 0 0 w
  ·
   by_cases h : x1 = x2 ∧ y1 = 0 - y2
   ·
    rw [Pt.add_far h]
    obtain ⟨rfl,rfl⟩:=h
    obtain ⟨m,hm⟩ : ∃ m,m = 0 - y2:=⟨_,rfl⟩
    rw [← hm]
    exact radd_opp hm w
   ·
    rw [Pt.add_near h]
    by_cases hs : x1 = x2 ∧ y1 = y2
    ·
     obtain ⟨rfl,rfl⟩:=hs
     rw [Pt.lam_same]
     obtain ⟨u,hu⟩ : ∃ u,u = 3 * (x1 * x1 - 1):=⟨_,rfl⟩
     obtain ⟨d,hd⟩ : ∃ d,d = y1 + y1:=⟨_,rfl⟩
     obtain ⟨l,hl⟩ : ∃ l,l = u * Pt.E256.inv d:=⟨_,rfl⟩
     rw [← hu,← hd,← hl]
     obtain ⟨X,hX⟩ : ∃ X,X = l * l - x1 - x1:=⟨_,rfl⟩
     obtain ⟨Y,hY⟩ : ∃ Y,Y = l * (x1 - X) - y1:=⟨_,rfl⟩
     rw [show Pt.third x1 y1 x1 l = some (X,Y) by rw [hY,hX]; rfl]
     exact radd_same rfl (fun e => h ⟨rfl,Fin.ext e.2⟩) rfl rfl rfl rfl hu hd (hd ▸ Pt.down_same hp) rfl hl rfl rfl hX rfl rfl hY w
    ·
     rw [Pt.lam_else hs]
     obtain ⟨u,hu⟩ : ∃ u,u = y2 - y1:=⟨_,rfl⟩
     obtain ⟨d,hd⟩ : ∃ d,d = x2 - x1:=⟨_,rfl⟩
     obtain ⟨l,hl⟩ : ∃ l,l = u * Pt.E256.inv d:=⟨_,rfl⟩
     rw [← hu,← hd,← hl]
     obtain ⟨X,hX⟩ : ∃ X,X = l * l - x1 - x2:=⟨_,rfl⟩
     obtain ⟨Y,hY⟩ : ∃ Y,Y = l * (x1 - X) - y1:=⟨_,rfl⟩
     rw [show Pt.third x1 y1 x2 l = some (X,Y) by rw [hY,hX]; rfl]
     exact radd_else rfl (fun e => h ⟨Fin.ext e.1,Fin.ext e.2⟩) (fun e => hs ⟨Fin.ext e.1,Fin.ext e.2⟩) hu hd (hd ▸ Pt.down_else hp hq h hs) rfl hl rfl rfl hX rfl rfl hY w
theorem onB_iff (X Y : Nat) (f : Bool) : onB X Y f = true ↔ Pt.isOn X Y f:=by
 unfold onB Pt.isOn
 cases f with
 | true => simp
 | false =>
  simp only [Bool.false_eq_true,if_false,Bool.and_eq_true,decide_eq_true_eq]
  constructor
  ·
   rintro ⟨hx,hy,h⟩
   refine ⟨hx,hy,(Pt.on_iff _ _).2 (Fin.ext ?_)⟩
   have ex : X = (Pt.F X : Fin Pt.pp).val:=(Nat.mod_eq_of_lt hx).symm
   have ey : Y = (Pt.F Y : Fin Pt.pp).val:=(Nat.mod_eq_of_lt hy).symm
   rw [← Pt.v_mul,← right_val,← ex,← ey]
   exact h
  ·
   rintro ⟨hx,hy,h⟩
   refine ⟨hx,hy,?_⟩
   have ex : X = (Pt.F X : Fin Pt.pp).val:=(Nat.mod_eq_of_lt hx).symm
   have ey : Y = (Pt.F Y : Fin Pt.pp).val:=(Nat.mod_eq_of_lt hy).symm
   have h2:=congrArg Fin.val ((Pt.on_iff _ _).1 h)
   rw [← Pt.v_mul,← right_val,← ex,← ey] at h2
   exact h2
theorem onB_some {X Y : Nat} {f : Bool} (h : onB X Y f = true) : ∃ q : Pt.Q,X = Pt.pX q.1 ∧ Y = Pt.pY q.1 ∧ f = Pt.pFar q.1:=(Pt.isOn_iff X Y f).1 ((onB_iff X Y f).1 h)
theorem onB_of (q : Pt.Q) : onB (Pt.pX q.1) (Pt.pY q.1) (Pt.pFar q.1) = true:=(onB_iff _ _ _).2 ((Pt.isOn_iff _ _ _).2 ⟨q,rfl,rfl,rfl⟩)
def bit (X n : Nat) : Bool:=X / 2 ^ n % 2 == 1
theorem w64_two : w64 = 2 ^ 64:=by decide
theorem w16_two : w16 = 2 ^ 16:=by decide
theorem bit_dg (a n r m : Nat) (hr : r < m) : a / (2 ^ m) ^ n % 2 ^ m / 2 ^ r % 2 = a / 2 ^ (m * n + r) % 2:=by
 have h:=zcr (B:=2) (a / (2 ^ m) ^ n) m r hr
 unfold dg at h
 rw [h,← Nat.pow_mul,Nat.div_div_eq_div_mul,← Nat.pow_add]
theorem bit_word (X n : Nat) : (bits BinOp.and IntKind.u64 (wd X (n / 64) / 2 ^ (n % 64)) 1 == 1) = bit X n:=by
 have e : wd X (n / 64) / 2 ^ (n % 64) = ((dg w64 X (n / 64) / 2 ^ (n % 64) : Nat) : Int):=by
  unfold wd
  rw [Int.natCast_ediv]
  simp
 have hlt : dg w64 X (n / 64) / 2 ^ (n % 64) < 18446744073709551616:=Nat.lt_of_le_of_lt (Nat.div_le_self _ _) (dg_lt zaq X _)
 rw [e,show (1 : Int) = ((1 : Nat) : Int) from rfl,u64_and_nat _ _ hlt (by omega),Nat.and_one_is_mod]
 have h:=bit_dg X (n / 64) (n % 64) 64 (Nat.mod_lt _ (by omega))
 rw [Nat.div_add_mod] at h
 unfold bit dg
 rw [w64_two,h]
 rw [Bool.eq_iff_iff]
 simp only [beq_iff_eq]
 omega
def ph (X q k : Nat) : Int:=((dg w16 X q / 2 ^ k : Nat) : Int)
theorem ph_lo (X q k : Nat) : 0 ≤ ph X q k:=Int.natCast_nonneg _
theorem ph_lt (X q k : Nat) : ph X q k < 65536:=by
 have h : dg w16 X q / 2 ^ k < 65536:=Nat.lt_of_le_of_lt (Nat.div_le_self _ _) (dg_lt zif X q)
 unfold ph; omega
theorem ph_zero (X q : Nat) : ph X q 0 = pt X q:=by simp [ph,pt]
theorem ph_succ (X q k : Nat) : ph X q (k + 1) = ph X q k / 2:=by
 unfold ph
 rw [Nat.pow_succ,← Nat.div_div_eq_div_mul,Int.natCast_ediv]
 rfl
theorem ph_bit (X n : Nat) : (ph X (n / 16) (n % 16) % 2 == 1) = bit X n:=by
 have h:=bit_dg X (n / 16) (n % 16) 16 (Nat.mod_lt _ (by omega))
 rw [Nat.div_add_mod] at h
 unfold bit ph dg
 rw [w16_two,← h]
 rw [Bool.eq_iff_iff]
 simp only [beq_iff_eq]
 omega
theorem bit_in (X n : Nat) (hn : n < 256) (w : World) :
  Calls Tryz.prog 105 #[.agg #[vI vU (wd X 0),vI vU (wd X 1),vI vU (wd X 2),vI vU (wd X 3)],.int .i64 (n : Int)] w fun e w' => e = .returned (.bool (bit X n)) ∧ Below w.heap.size w w':=by
 have hq : n / 64 < 4:=by omega
 have h0 : ¬ (n : Int) < 0:=by omega
 have h1 : ¬ (256 : Int) ≤ (n : Int):=by omega
 have hR : (w.alloc (.cells #[vI vU (wd X 0),vI vU (wd X 1),vI vU (wd X 2),vI vU (wd X 3)] 29)).rowIs w.heap.size 29 4 (fun j => .int .u64 (wd X j)):=zaj (n:=4) (by simp) rfl (arr4 fun j => .int .u64 (wd X j))
 have c1:=hR.cell hq
 have l1:=wd_lo X (n / 64)
 have u1:=wd_le X (n / 64)
 clear hR
 go_enter Tryz.func105,Tryz.ntmps105
 go_wp2
 go_ret
 rw [← bit_word]
 exact ⟨rfl,(Below.refl _ _).alloc (Nat.le_refl _) _⟩
end Go.Proofs.YtihophdbkjhopaaGreatDoor
