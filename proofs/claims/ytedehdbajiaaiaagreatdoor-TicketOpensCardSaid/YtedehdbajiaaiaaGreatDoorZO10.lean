/-
  Of N2 NK Word Bytes ROf Q2 Q5 Q6.
-/
import Derived.Deep.LoopGhost
import Derived.Deep.CutRange
import Derived.Deep.CutBlock
import Derived.Deep.RegionWith
import Derived.Deep.RegionHeld3
import Derived.Deep.QuietTactic
import Derived.BigQuiet
import Derived.Deep.Matrix
import Derived.BigRegion
import Derived.Test.YtedehdbajiaaiaaGreatDoorZO6
import Derived.Test.YtedehdbajiaaiaaGreatDoorZO9
import Derived.Test.YtedehdbajiaaiaaGreatDoorZO4
import Derived.Test.YtedehdbajiaaiaaGreatDoorZO1
set_option maxRecDepth 1000000
set_option maxHeartbeats 20000000
namespace Go.Proofs.YtedehdbajiaaiaaGreatDoor
open Go.RowKit
open Go.Value renaming int → vI
open Go.IntKind renaming u64 → vU
open Go.Act renaming put → aP
open List renaming setIfInBounds_toArray → lA, set_cons_zero → lZ, set_cons_succ → lS
theorem zeq : Pt.nn < top:=by decide +kernel
theorem nn_words : wd Pt.nn 0 = 17562291160714782033 ∧ wd Pt.nn 1 = 13611842547513532036 ∧ wd Pt.nn 2 = 18446744073709551615 ∧ wd Pt.nn 3 = 18446744069414584320:=by decide +kernel
theorem nn_is (w : World) : Calls Tryz.prog 31 #[] w fun e w' => e = .returned (nv Pt.nn) ∧ Ext w w':=by
 obtain ⟨l0,l1,l2,l3⟩:=nn_words
 unfold nv nc
 rw [l0,l1,l2,l3]
 clear l0 l1 l2 l3
 go_enter Tryz.func31,Tryz.ntmps31
 go_wp2
 exact bodyPost_ret (results_cell_row rfl _ _ w.heap.size 26 #[vI vU 17562291160714782033,vI vU 13611842547513532036,vI vU 18446744073709551615,vI vU 18446744069414584320] (0,0) _ rfl (heap_alloc_last w _) Tryz.underlying26 rfl (by kernel_rfl)) rfl ⟨rfl,(Below.refl _ _).alloc (Nat.le_refl _) _⟩
theorem neN0 {X : Nat} (hX : X < top) (h0 : X ≠ 0) (W : World) : (binOp .neq 26 (nv X) (nv 0)).run Tryz.prog W = .ok (.bool true) W:=by
 have e:=zis hX zcj W
 rw [decide_eq_false h0] at e
 exact neq_of e rfl
section
variable {P : Program} {o : Oper} {a : Act} {w : World}
theorem zke {x : Operand} {ty ty2 : TypeId} {c : Int} {v : Bool} (ho : o.op = .binOp .lss ty x (.const (.int .i64 0)) ty2) (hx : a.eval x = .int .i64 c) (hv : decide (c < 0) = v) : Made P o (.bool v) a w:=zcn fun W _ => by
 have h0 : a.eval (.const (.int .i64 0)) = .int .i64 0:=rfl
 unfold execOp
 simp only [ho]
 generalize a.eval = ρ at *
 subst hv
 rw [hx,h0]
 simp [go_sem,eqGuard]
end
theorem cmpL {X Y : Nat} (h : X < Y) : decide (cmpN X Y < 0) = true:=by unfold cmpN; rw [if_pos h]; rfl
theorem cmpG {X Y : Nat} (h : ¬ X < Y) : decide (cmpN X Y < 0) = false:=by
 unfold cmpN
 rw [if_neg h]
 split <;> rfl
theorem may_zero  (w : World) :
  Calls Tryz.prog 12 #[nv 0] w fun e w' => e = .returned (.bool false) ∧ Ext w w':=by
 unfold nv nc
 go_enter Tryz.func12,Tryz.ntmps12
 go_upto_region 1 with (fail)
 refine zdu fun w1 hx b0 => ?_
 have b0 : w1.heap[w.heap.size]? = some (.cells (nc 0) 26 (0,0)):=b0
 refine' zcr (m:=10) (A:=_) 10 (by kernel_rfl) (by kernel_rfl) ?h1 ?h2
 case h1 =>
  refine zaa (nv 0) rfl (zad rfl rfl b0 rfl uN rfl (iN _)) ?_
  refine zaa (nv 0) rfl (zbh rfl rfl (bldN0 ·)) ?_;simp only [aP,lA,lZ,lS]
  refine zaa (.bool false) rfl (zhw rfl rfl rfl (gN _ _ _ _ _) neN) ?_
  refine zaa (.bool false) rfl (zan (.inl rfl) rfl) ?_;simp only [aP,lA,lZ,lS]
  refine zba rfl ?_
  refine zba rfl ?_;simp only [aP,lA,lZ,lS]
  refine zba rfl ?_
  refine zba rfl ?_;simp only [aP,lA,lZ,lS]
  refine zaa (.bool false) rfl (zbb rfl rfl rfl) ?_
  refine zaa (.bool false) rfl (zan (.inr rfl) rfl) ?_;simp only [aP,lA,lZ,lS]
  exact zap
 refine zch rfl (by kernel_rfl) ?_
 intro w2 hE
 refine NoPanic.normal ?_
 replace hx:=hx.trans hE
 clear hE
 go_wp2
 go_ret
 exact ⟨rfl,hx⟩
theorem may_in (X : Nat) (hX : X < top) (h0 : X ≠ 0) (hl : X < Pt.nn) (w : World) :
  Calls Tryz.prog 12 #[nv X] w fun e w' => e = .returned (.bool true) ∧ Ext w w':=by
 have kX:=veil hX
 have k0:=veil h0
 have kl:=veil hl
 clear hX h0 hl
 unfold nv nc
 go_enter Tryz.func12,Tryz.ntmps12
 go_upto_region 1 with (fail)
 refine zdu fun w1 hx b0 => ?_
 have b0 : w1.heap[w.heap.size]? = some (.cells (nc X) 26 (0,0)):=b0
 refine' zcr (m:=10) (A:=_) 10 (by kernel_rfl) (by kernel_rfl) ?h1 ?h2
 case h1 =>
  refine zaa (nv X) rfl (zad rfl rfl b0 rfl uN rfl (iN _)) ?_
  refine zaa (nv 0) rfl (zbh rfl rfl (bldN0 ·)) ?_;simp only [aP,lA,lZ,lS]
  refine zaa (.bool true) rfl (zhw rfl rfl rfl (gN _ _ _ _ _) (neN0 kX.out k0.out ·)) ?_
  refine zaa (.bool true) rfl (zan (.inl rfl) rfl) ?_;simp only [aP,lA,lZ,lS]
  refine zaq (nv X) rfl (zad rfl rfl b0 rfl uN rfl (iN _)) ?_
  refine zaq (nv Pt.nn) rfl (zai (args:=[]) rfl rfl (fun W => zac Tryz.func31 rfl rfl _ W) (fun W hW => nn_is W)) ?_;simp only [aP,lA,lZ,lS]
  refine zaq (.int .i64 (cmpN X Pt.nn)) rfl (zai (args:=[nv X,nv Pt.nn]) rfl rfl (fun W => zac Tryz.func30 rfl rfl _ W) (fun W hW => zdy X Pt.nn kX.out zeq W)) ?_
  refine zaq (.bool true) rfl (zke rfl rfl (cmpL kl.out)) ?_;simp only [aP,lA,lZ,lS]
  refine zaa (.bool true) rfl (zbb rfl rfl rfl) ?_
  refine zaa (.bool true) rfl (zan (.inr rfl) rfl) ?_;simp only [aP,lA,lZ,lS]
  exact zap
 refine zch rfl (by kernel_rfl) ?_
 intro w2 hE
 refine NoPanic.normal ?_
 replace hx:=hx.trans hE
 clear hE
 go_wp2
 go_ret
 exact ⟨rfl,hx⟩
theorem may_out (X : Nat) (hX : X < top) (h0 : X ≠ 0) (hl : ¬ X < Pt.nn) (w : World) :
  Calls Tryz.prog 12 #[nv X] w fun e w' => e = .returned (.bool false) ∧ Ext w w':=by
 have kX:=veil hX
 have k0:=veil h0
 have kl:=veil hl
 clear hX h0 hl
 unfold nv nc
 go_enter Tryz.func12,Tryz.ntmps12
 go_upto_region 1 with (fail)
 refine zdu fun w1 hx b0 => ?_
 have b0 : w1.heap[w.heap.size]? = some (.cells (nc X) 26 (0,0)):=b0
 refine' zcr (m:=10) (A:=_) 10 (by kernel_rfl) (by kernel_rfl) ?h1 ?h2
 case h1 =>
  refine zaa (nv X) rfl (zad rfl rfl b0 rfl uN rfl (iN _)) ?_
  refine zaa (nv 0) rfl (zbh rfl rfl (bldN0 ·)) ?_;simp only [aP,lA,lZ,lS]
  refine zaa (.bool true) rfl (zhw rfl rfl rfl (gN _ _ _ _ _) (neN0 kX.out k0.out ·)) ?_
  refine zaa (.bool true) rfl (zan (.inl rfl) rfl) ?_;simp only [aP,lA,lZ,lS]
  refine zaq (nv X) rfl (zad rfl rfl b0 rfl uN rfl (iN _)) ?_
  refine zaq (nv Pt.nn) rfl (zai (args:=[]) rfl rfl (fun W => zac Tryz.func31 rfl rfl _ W) (fun W hW => nn_is W)) ?_;simp only [aP,lA,lZ,lS]
  refine zaq (.int .i64 (cmpN X Pt.nn)) rfl (zai (args:=[nv X,nv Pt.nn]) rfl rfl (fun W => zac Tryz.func30 rfl rfl _ W) (fun W hW => zdy X Pt.nn kX.out zeq W)) ?_
  refine zaq (.bool false) rfl (zke rfl rfl (cmpG kl.out)) ?_;simp only [aP,lA,lZ,lS]
  refine zaa (.bool false) rfl (zbb rfl rfl rfl) ?_
  refine zaa (.bool false) rfl (zan (.inr rfl) rfl) ?_;simp only [aP,lA,lZ,lS]
  exact zap
 refine zch rfl (by kernel_rfl) ?_
 intro w2 hE
 refine NoPanic.normal ?_
 replace hx:=hx.trans hE
 clear hE
 go_wp2
 go_ret
 exact ⟨rfl,hx⟩
def mayB (X : Nat) : Bool:=decide (X ≠ 0) && decide (X < Pt.nn)
theorem may_calls (X : Nat) (hX : X < top) (w : World) : Calls Tryz.prog 12 #[nv X] w fun e w' => e = .returned (.bool (mayB X)) ∧ Ext w w':=by
 unfold mayB
 by_cases h0 : X = 0
 ·
  subst h0
  exact may_zero w
 ·
  by_cases hl : X < Pt.nn
  ·
   rw [decide_eq_true h0,decide_eq_true hl]
   exact may_in X hX h0 hl w
  ·
   rw [decide_eq_true h0,decide_eq_false hl]
   exact may_out X hX h0 hl w
structure KV where
 k : Nat → Nat
 v : Nat → Nat
structure KV.Ok (s : KV) : Prop where
 k : ∀ j,s.k j < 256
 v : ∀ j,s.v j < 256
def num32 (y : Nat → Nat) : Nat:=lev (fun k => y (32 - 1 - k)) 32
theorem num32_lt {y : Nat → Nat} (hy : ∀ j,y j < 256) : num32 y < top:=by
 have h:=zje (z:=fun k => y (32 - 1 - k)) (fun j => hy _) 32
 have e : 256 ^ 32 = top:=by decide +kernel
 unfold num32
 omega
def tx (v : Nat → Nat) (b : Nat) (t : Nat → Nat) : Nat → Nat:=cat v 32 (cat (fun _ => b) 1 t)
def KV.step (s : KV) : KV:=⟨s.k,nb s.k 32 s.v 32⟩
def none0 : Nat → Nat:=fun _ => 0
theorem KV.Ok.step {s : KV} (h : s.Ok) : s.step.Ok:=⟨h.k,fun j => nb_lt _ _ _ _ j⟩
def be (X j : Nat) : Nat:=dg 256 X (31 - j)
def two (D M : Nat) : Nat → Nat:=cat (be D) 32 (be M)
theorem word_core (Z g n c j : Nat) (hn : n ≤ 32) (hj : j + 4 ≤ n) (w : World) (hp : Pre w g 3 n (ptv Z)) :
  Calls Tryz.prog 152 #[.slice (some ⟨g,0,none⟩) n c,.int .i64 (j : Int)] w fun e w' => e = .returned (.int .u64 (pt Z j + 65536 * pt Z (j + 1) + 4294967296 * pt Z (j + 2) + 281474976710656 * pt Z (j + 3))) ∧ ∃ m,w' = w.drewN m:=by
 have c0 : w.cell? ⟨g,j,none⟩ = some (.int .i64 (pt Z j)):=hp.cell (by omega)
 have c1 : w.cell? ⟨g,j + 1,none⟩ = some (.int .i64 (pt Z (j + 1))):=hp.cell (by omega)
 have c2 : w.cell? ⟨g,j + 2,none⟩ = some (.int .i64 (pt Z (j + 2))):=hp.cell (by omega)
 have c3 : w.cell? ⟨g,j + 3,none⟩ = some (.int .i64 (pt Z (j + 3))):=hp.cell (by omega)
 have l0:=pt_lo Z j
 have l1:=pt_lo Z (j + 1)
 have l2:=pt_lo Z (j + 2)
 have l3:=pt_lo Z (j + 3)
 have u0:=pt_lt Z j
 have u1:=pt_lt Z (j + 1)
 have u2:=pt_lt Z (j + 2)
 have u3:=pt_lt Z (j + 3)
 clear hp
 go_enter Tryz.func152,Tryz.ntmps152
 go_wp2
 go_quiet (fail)
 go_wp2
 go_ret
 exact ⟨rfl,_,rfl⟩
theorem zgx (Z g n c q : Nat) (a : Int) (ha : a = ((4 * q : Nat) : Int)) (hn : n ≤ 32) (hj : 4 * q + 4 ≤ n) (w : World) (hp : Pre w g 3 n (ptv Z)) :
  Calls Tryz.prog 152 #[.slice (some ⟨g,0,none⟩) n c,.int .i64 a] w fun e w' => e = .returned (.int .u64 (wd Z q)) ∧ ∃ m,w' = w.drewN m:=by
 subst ha
 rw [wd_pt]
 exact word_core Z g n c (4 * q) hn hj w hp
theorem num_calls (Z g c : Nat) (w : World) (hp : Pre w g 3 16 (ptv Z)) :
  Calls Tryz.prog 120 #[.slice (some ⟨g,0,none⟩) 16 c] w fun e w' => e = .returned (.agg #[vI vU (wd Z 0),vI vU (wd Z 1),vI vU (wd Z 2),vI vU (wd Z 3)]) ∧ Below w.heap.size w w':=by
 have hR : (w.alloc (.cells #[vI vU 0,vI vU 0,vI vU 0,vI vU 0] 26)).rowIs w.heap.size 26 4 (fun _ => .int .u64 0):=zag (n:=4) rfl rfl (arr4 fun _ => .int .u64 0)
 have HR:=veil hR
 have HP:=veil (hp.alloc (.cells #[vI vU 0,vI vU 0,vI vU 0,vI vU 0] 26))
 obtain ⟨d0,d1,d2,d3⟩:=zae hR
 obtain ⟨f0,f1,f2,f3⟩:=zah hR
 clear hR hp
 go_enter Tryz.func120,Tryz.ntmps120
 go_wp2_with fail
 refine (zgx Z g 16 c 0 0 rfl (by omega) (by omega) _ HP.out).mono ?_
 rintro e w1 ⟨rfl,m1,rfl⟩
 go_wp2_with fail
 refine (zgx Z g 16 c 1 4 rfl (by omega) (by omega) _ (HP.out.drewN _)).mono ?_
 rintro e w1 ⟨rfl,m2,rfl⟩
 go_wp2_with fail
 refine (zgx Z g 16 c 2 8 rfl (by omega) (by omega) _ (HP.out.drewN _)).mono ?_
 rintro e w1 ⟨rfl,m3,rfl⟩
 go_wp2_with fail
 refine (zgx Z g 16 c 3 12 rfl (by omega) (by omega) _ (HP.out.drewN _)).mono ?_
 rintro e w1 ⟨rfl,m4,rfl⟩
 go_wp2
 refine bodyPost_ret (results_cell_row rfl _ _ w.heap.size 26 #[vI vU (wd Z 0),vI vU (wd Z 1),vI vU (wd Z 2),vI vU (wd Z 3)] (0,0) _ rfl (blk4 (put4 (zcg HR.out _) fun j => .int .u64 (wd Z j))) Tryz.underlying26 rfl (by kernel_rfl)) rfl ⟨rfl,zam (zbk ((Below.refl _ _).alloc (Nat.le_refl _) _) _) (Nat.le_refl _) _ _ _ _⟩
theorem row_filled {w : World} {z : Value} {n b t : Nat} (hb : b = w.heap.size) : (w.alloc (.cells (madeCells #[z] n) t)).rowIs b t n (fun _ => z):=by
 subst hb
 exact World.rowIs_made w z n t
theorem pt_put (L c k j : Nat) (hL : L < 256 ^ k) (hc : c < 256) : pt (L + c * 256 ^ k) j = if j = k / 2 then pt L j + (c * 256 ^ (k % 2) : Nat) else pt L j:=by
 have h:=dg_put 2 (k / 2) (k % 2) L c (Nat.mod_lt _ (by omega)) (by rw [Nat.div_add_mod]; exact hL) hc j
 rw [Nat.div_add_mod,← w16_bytes] at h
 unfold pt
 rw [h]
 split
 ·
  rw [Int.natCast_add]
 ·
  rfl
theorem rof_even (L c k : Nat) (hL : L < 256 ^ k) (hc : c < 256) (hk : k % 2 = 0) : pt L (k / 2) + (c : Int) = pt (L + c * 256 ^ k) (k / 2):=by
 rw [pt_put L c k _ hL hc,if_pos rfl,hk]; simp
theorem rof_odd (L c k : Nat) (hL : L < 256 ^ k) (hc : c < 256) (hk : k % 2 = 1) : pt L (k / 2) + 256 * (c : Int) = pt (L + c * 256 ^ k) (k / 2):=by
 rw [pt_put L c k _ hL hc,if_pos rfl,hk]; omega
theorem rof_step (z : Nat → Nat) (k : Nat) (hz : ∀ j,z j < 256) (i : Nat) :
  (if i = k / 2 then Value.int .i64 (pt (lev z k + z k * 256 ^ k) (k / 2)) else Value.int .i64 (pt (lev z k) i)) = Value.int .i64 (pt (lev z (k + 1)) i):=by
 show _ = Value.int .i64 (pt (lev z k + z k * 256 ^ k) i)
 by_cases h : i = k / 2
 ·
  rw [if_pos h,h]
 ·
  rw [if_neg h,pt_put _ _ _ _ (zje hz k) (hz k),if_neg h]
theorem pt_zero (i : Nat) : pt 0 i = 0:=by unfold pt dg; simp
theorem rof_some (b o n c : Nat) (y : Nat → Nat) (hy : ∀ j,y j < 256) (hn : n ≤ 32) (w : World) (hb : b < w.heap.size) (hcell : ∀ j,j < n → w.cell? ⟨b,o + j,none⟩ = some (.int .u8 (y j))) :
  Calls Tryz.prog 68 #[.slice (some ⟨b,o,none⟩) n c] w fun e w' => e = .returned (.agg #[vI vU (wd (lev (fun k => y (n - 1 - k)) n) 0),vI vU (wd (lev (fun k => y (n - 1 - k)) n) 1),vI vU (wd (lev (fun k => y (n - 1 - k)) n) 2),vI vU (wd (lev (fun k => y (n - 1 - k)) n) 3)]) ∧ Below w.heap.size w w':=by
 obtain ⟨i0,hi,hz0,hz1,hz2⟩:=info_parts infoInt
 have hmk : ∀ W : World,(Instr.makeSlice 70 (.int .i64 16) (.int .i64 16)).run Tryz.prog W = .ok (.slice (some ⟨W.heap.size,0,none⟩) 16 16) (W.alloc (.cells (madeCells #[.int .i64 0] 16) 3)) :=
  fun W => run_make_row 70 3 i0 (.int .i64 0) Tryz.underlying70 hi hz0 hz1 rfl .i64 .i64 16 (by rw [hz2]; omega) (by omega) W
 have HY:=veil hy
 have HC:=veil hcell
 clear hy hcell
 have hn' : (n : Int) ≤ 32:=by omega
 go_enter Tryz.func68,Tryz.ntmps68
 go_wp2
 go_loopw [4] (fun i wr => ∃ k : Nat,k ≤ n ∧ i = .int .i64 k ∧ wr.rowIs w.heap.size 26 4 (fun _ => .int .u64 0) ∧ wr.rowIs (w.heap.size + 1) 3 16 (fun j => .int .i64 (pt (lev (fun k => y (n - 1 - k)) k) j)) ∧ Below w.heap.size w wr)
  (fun i _ => n - (intOf i).toNat)
 case atStart => exact ⟨0,by omega,rfl,(zag (n:=4) rfl rfl (arr4 fun _ => .int .u64 0)).alloc _,(row_filled (z:=.int .i64 0) (by simp)).congr (fun i _ => by rw [lev,pt_zero]),((Below.refl _ _).alloc (by simp) _).alloc (by simp) _⟩
 case round =>
  obtain ⟨k,hk,rfl,hR,hS,hbel⟩:=hrel
  by_cases hlt : k < n
  ·
   have c1:=hS.cell (i:=k / 2) (by omega)
   have f1:=hS.frozen (k / 2)
   obtain ⟨j,hj⟩ : ∃ j,j = n - 1 - k:=⟨_,rfl⟩
   have hji : (n : Int) - 1 - (k : Int) = (j : Int):=by omega
   have hjn : (j : Int) < (n : Int):=by omega
   have hj0 : (0 : Int) ≤ (j : Int):=by omega
   have hkn : (k : Int) < (n : Int):=by omega
   have c2:=(hbel.cell (p:=⟨b,o + j,none⟩) hb).trans (HC.out j (by omega))
   have l1:=pt_lo (lev (fun k => y (n - 1 - k)) k) (k / 2)
   have u1 : pt (lev (fun k => y (n - 1 - k)) k) (k / 2) ≤ 65535:=by have:=pt_lt (lev (fun k => y (n - 1 - k)) k) (k / 2); omega
   have u2 : (y j : Int) ≤ 255:=by have:=HY.out j; omega
   have u3 : (0 : Int) ≤ (y j : Int):=by omega
   have HS:=veil (rof_step (fun k => y (n - 1 - k)) k (fun j => HY.out _))
   have HJ:=veil hj
   clear hj
   rcases Nat.mod_two_eq_zero_or_one k with h2 | h2
   ·
    have hm : ((k : Int) % 2 == 0) = true:=by rw [beq_iff_eq]; omega
    have HM:=veil h2
    clear h2
    go_wp2
    go_region
    all_goals
     go_wp2
     go_roundw
     case rel =>
      rw [show y j = y (n - 1 - k) by rw [HJ.out],rof_even _ _ _ (zje (fun j => HY.out _) k) (HY.out _) HM.out]
      exact ⟨k + 1,by omega,by go_num,(zaz hR (by omega) _).drew,((hS.set (k / 2) _).congr fun i _ => HS.out i).drew,(zas hbel (by omega) _).drew⟩
     case measure => simp [intOf]; omega
   ·
    have hm : ((k : Int) % 2 == 0) = false:=by rw [beq_eq_false_iff_ne]; omega
    have HM:=veil h2
    clear h2
    go_wp2
    go_region
    all_goals
     go_wp2
     go_roundw
     case rel =>
      rw [show y j = y (n - 1 - k) by rw [HJ.out],rof_odd _ _ _ (zje (fun j => HY.out _) k) (HY.out _) HM.out]
      exact ⟨k + 1,by omega,by go_num,(zaz hR (by omega) _).drew,((hS.set (k / 2) _).congr fun i _ => HS.out i).drew,(zas hbel (by omega) _).drew⟩
     case measure => simp [intOf]; omega
  ·
   obtain rfl : k = n:=by omega
   go_wp2_with fail
   refine (num_calls (lev (fun j => y (k - 1 - j)) k) (w.heap.size + 1) 16 _ (Pre.of_row hS)).mono ?_
   rintro e w3 ⟨rfl,hb3⟩
   have hR3:=zab hR hb3 hR.lt
   have hB3:=hbel.trans (hb3.mono hbel.size)
   obtain ⟨d0,d1,d2,d3⟩:=zae hR3
   obtain ⟨f0,f1,f2,f3⟩:=zah hR3
   clear hR hS hbel hb3
   go_wp2
   refine bodyPost_ret (results_cell_row rfl _ _ w.heap.size 26 #[vI vU (wd (lev (fun j => y (k - 1 - j)) k) 0),vI vU (wd (lev (fun j => y (k - 1 - j)) k) 1),vI vU (wd (lev (fun j => y (k - 1 - j)) k) 2),vI vU (wd (lev (fun j => y (k - 1 - j)) k) 3)] (0,0) _ rfl (blk4 (put4 hR3 fun j => .int .u64 (wd (lev (fun j => y (k - 1 - j)) k) j))) Tryz.underlying26 rfl (by kernel_rfl)) rfl ⟨rfl,zam hB3 (by omega) _ _ _ _⟩
theorem zdv (X Y Z : Nat) (hX : X < Pt.pp) (hY : Y < top) (hZ : Z = X * Y % Pt.pp) (w : World) :
  Calls Tryz.prog 124 #[.agg #[vI vU (wd X 0),vI vU (wd X 1),vI vU (wd X 2),vI vU (wd X 3)],.agg #[vI vU (wd Y 0),vI vU (wd Y 1),vI vU (wd Y 2),vI vU (wd Y 3)]] w fun e w' => e = .returned (.agg #[vI vU (wd Z 0),vI vU (wd Z 1),vI vU (wd Z 2),vI vU (wd Z 3)]) ∧ Below w.heap.size w w':=by
 obtain ⟨M,hM⟩ : ∃ M,M = Pt.pp:=⟨_,rfl⟩
 have HG:=veil (show ∀ W,Calls Tryz.prog 79 #[.agg #[vI vU (wd X 0),vI vU (wd X 1),vI vU (wd X 2),vI vU (wd X 3)],.agg #[vI vU (wd Y 0),vI vU (wd Y 1),vI vU (wd Y 2),vI vU (wd Y 3)],.agg #[vI vU (wd M 0),vI vU (wd M 1),vI vU (wd M 2),vI vU (wd M 3)]] W fun e W' => e = .returned (.agg #[vI vU (wd Z 0),vI vU (wd Z 1),vI vU (wd Z 2),vI vU (wd Z 3)]) ∧ Below W.heap.size W W' from fun W => by rw [hM,hZ]; exact gmul_calls X Y Pt.pp hX hY zbf W)
 have HP:=veil (show ∀ W,Calls Tryz.prog 125 #[] W fun e W' => e = .returned (.agg #[vI vU (wd M 0),vI vU (wd M 1),vI vU (wd M 2),vI vU (wd M 3)]) ∧ Below W.heap.size W W' from fun W => by rw [hM]; exact zfw W)
 clear hM hZ
 have hRX : (((w.alloc (.cells #[vI vU (wd X 0),vI vU (wd X 1),vI vU (wd X 2),vI vU (wd X 3)] 26)).alloc (.cells #[vI vU (wd Y 0),vI vU (wd Y 1),vI vU (wd Y 2),vI vU (wd Y 3)] 26)).alloc (.cells #[vI vU 0,vI vU 0,vI vU 0,vI vU 0] 26)).rowIs w.heap.size 26 4 (fun j => .int .u64 (wd X j)):=((zag (n:=4) rfl rfl (arr4 fun j => .int .u64 (wd X j))).alloc _).alloc _
 have hRY : (((w.alloc (.cells #[vI vU (wd X 0),vI vU (wd X 1),vI vU (wd X 2),vI vU (wd X 3)] 26)).alloc (.cells #[vI vU (wd Y 0),vI vU (wd Y 1),vI vU (wd Y 2),vI vU (wd Y 3)] 26)).alloc (.cells #[vI vU 0,vI vU 0,vI vU 0,vI vU 0] 26)).rowIs (w.heap.size + 1) 26 4 (fun j => .int .u64 (wd Y j)):=(zag (n:=4) (by simp) rfl (arr4 fun j => .int .u64 (wd Y j))).alloc _
 have hRR : (((w.alloc (.cells #[vI vU (wd X 0),vI vU (wd X 1),vI vU (wd X 2),vI vU (wd X 3)] 26)).alloc (.cells #[vI vU (wd Y 0),vI vU (wd Y 1),vI vU (wd Y 2),vI vU (wd Y 3)] 26)).alloc (.cells #[vI vU 0,vI vU 0,vI vU 0,vI vU 0] 26)).rowIs (w.heap.size + 1 + 1) 26 4 (fun _ => .int .u64 0):=zag (n:=4) (by simp) rfl (arr4 fun _ => .int .u64 0)
 have hB0 : Below w.heap.size w (((w.alloc (.cells #[vI vU (wd X 0),vI vU (wd X 1),vI vU (wd X 2),vI vU (wd X 3)] 26)).alloc (.cells #[vI vU (wd Y 0),vI vU (wd Y 1),vI vU (wd Y 2),vI vU (wd Y 3)] 26)).alloc (.cells #[vI vU 0,vI vU 0,vI vU 0,vI vU 0] 26)):=(((Below.refl _ _).alloc (by simp) _).alloc (by simp) _).alloc (by simp; omega) _
 go_enter Tryz.func124,Tryz.ntmps124
 go_upto_region 1 with (fail)
 generalize (((w.alloc (.cells #[vI vU (wd X 0),vI vU (wd X 1),vI vU (wd X 2),vI vU (wd X 3)] 26)).alloc (.cells #[vI vU (wd Y 0),vI vU (wd Y 1),vI vU (wd Y 2),vI vU (wd Y 3)] 26)).alloc (.cells #[vI vU 0,vI vU 0,vI vU 0,vI vU 0] 26)) = wz at *
 obtain ⟨x0,x1,x2,x3⟩:=zae hRX
 obtain ⟨y0,y1,y2,y3⟩:=zae hRY
 have l1:=hRX.lt
 have l2:=hRY.lt
 have sB : ∀ W,Bt (w.heap.size + 1 + 1) 26 4 wz W → (Bt (w.heap.size + 1 + 1) 26 4 wz W ∧ W.cell? ⟨w.heap.size,0,none⟩ = some (vI vU (wd X 0)) ∧ W.cell? ⟨w.heap.size,1,none⟩ = some (vI vU (wd X 1)) ∧ W.cell? ⟨w.heap.size,2,none⟩ = some (vI vU (wd X 2)) ∧ W.cell? ⟨w.heap.size,3,none⟩ = some (vI vU (wd X 3)) ∧ W.cell? ⟨(w.heap.size + 1),0,none⟩ = some (vI vU (wd Y 0)) ∧ W.cell? ⟨(w.heap.size + 1),1,none⟩ = some (vI vU (wd Y 1)) ∧ W.cell? ⟨(w.heap.size + 1),2,none⟩ = some (vI vU (wd Y 2)) ∧ W.cell? ⟨(w.heap.size + 1),3,none⟩ = some (vI vU (wd Y 3))):=fun W hB => ⟨hB,(hB.cell l1 (by omega)).trans x0,(hB.cell l1 (by omega)).trans x1,(hB.cell l1 (by omega)).trans x2,(hB.cell l1 (by omega)).trans x3,(hB.cell l2 (by omega)).trans y0,(hB.cell l2 (by omega)).trans y1,(hB.cell l2 (by omega)).trans y2,(hB.cell l2 (by omega)).trans y3⟩
 have hS0:=sB wz (.of hRR (But.refl _ _))
 have SB:=veil sB
 have HB0:=veil hB0
 clear sB hB0 hRX hRY hRR
 go_region_held3 (fun W => Bt (w.heap.size + 1 + 1) 26 4 wz W ∧ W.cell? ⟨w.heap.size,0,none⟩ = some (vI vU (wd X 0)) ∧ W.cell? ⟨w.heap.size,1,none⟩ = some (vI vU (wd X 1)) ∧ W.cell? ⟨w.heap.size,2,none⟩ = some (vI vU (wd X 2)) ∧ W.cell? ⟨w.heap.size,3,none⟩ = some (vI vU (wd X 3)) ∧ W.cell? ⟨(w.heap.size + 1),0,none⟩ = some (vI vU (wd Y 0)) ∧ W.cell? ⟨(w.heap.size + 1),1,none⟩ = some (vI vU (wd Y 1)) ∧ W.cell? ⟨(w.heap.size + 1),2,none⟩ = some (vI vU (wd Y 2)) ∧ W.cell? ⟨(w.heap.size + 1),3,none⟩ = some (vI vU (wd Y 3)))
  (first
   | with_reducible assumption
   | exact hS0
   | exact SB.out _ hS0.1.drew
   | exact SB.out _ ((((hb2.set 0 _).set 1 _).set 2 _).set 3 _))
  (first
   | (go_at_call 125; (with_reducible refine (HP.out _).mono ?_); rintro e w1 ⟨rfl,hb⟩; have hb1:=hS0.1.drew.call hb; have hS1:=SB.out _ hb1; clear hb)
   | (go_at_call 79; (with_reducible refine (HG.out _).mono ?_); rintro e w2 ⟨rfl,hb⟩; have hb2:=hb1.call hb; have hS2:=SB.out _ hb2; clear hb; obtain ⟨fz,hz⟩:=hb2.2; have HZ:=veil hz; obtain ⟨z0,z1,z2,z3⟩:=zae hz; obtain ⟨f0,f1,f2,f3⟩:=zah hz; clear hz))
 clear z0 z1 z2 z3 f0 f1 f2 f3 x0 x1 x2 x3 y0 y1 y2 y3
 go_wp2
 exact bodyPost_ret (results_cell_row rfl _ _ (w.heap.size + 1 + 1) 26 #[vI vU (wd Z 0),vI vU (wd Z 1),vI vU (wd Z 2),vI vU (wd Z 3)] (0,0) _ rfl (blk4 (put4 HZ.out fun j => .int .u64 (wd Z j))) Tryz.underlying26 rfl (by kernel_rfl)) rfl ⟨rfl,zam (HB0.out.trans (hb2.below (by omega) HB0.out.size)) (by omega) _ _ _ _⟩
theorem zcx (X Y Z : Nat) (hX : X < Pt.pp) (hY : Y < Pt.pp) (hZ : Z = (X + Pt.pp - Y) % Pt.pp) (w : World) :
  Calls Tryz.prog 123 #[.agg #[vI vU (wd X 0),vI vU (wd X 1),vI vU (wd X 2),vI vU (wd X 3)],.agg #[vI vU (wd Y 0),vI vU (wd Y 1),vI vU (wd Y 2),vI vU (wd Y 3)]] w fun e w' => e = .returned (.agg #[vI vU (wd Z 0),vI vU (wd Z 1),vI vU (wd Z 2),vI vU (wd Z 3)]) ∧ Below w.heap.size w w':=by
 obtain ⟨M,hM⟩ : ∃ M,M = Pt.pp:=⟨_,rfl⟩
 have HG:=veil (show ∀ W,Calls Tryz.prog 78 #[.agg #[vI vU (wd X 0),vI vU (wd X 1),vI vU (wd X 2),vI vU (wd X 3)],.agg #[vI vU (wd Y 0),vI vU (wd Y 1),vI vU (wd Y 2),vI vU (wd Y 3)],.agg #[vI vU (wd M 0),vI vU (wd M 1),vI vU (wd M 2),vI vU (wd M 3)]] W fun e W' => e = .returned (.agg #[vI vU (wd Z 0),vI vU (wd Z 1),vI vU (wd Z 2),vI vU (wd Z 3)]) ∧ Below W.heap.size W W' from fun W => by rw [hM,hZ]; exact zjg X Y Pt.pp hX hY zbf W)
 have HP:=veil (show ∀ W,Calls Tryz.prog 125 #[] W fun e W' => e = .returned (.agg #[vI vU (wd M 0),vI vU (wd M 1),vI vU (wd M 2),vI vU (wd M 3)]) ∧ Below W.heap.size W W' from fun W => by rw [hM]; exact zfw W)
 clear hM hZ
 have hRX : (((w.alloc (.cells #[vI vU (wd X 0),vI vU (wd X 1),vI vU (wd X 2),vI vU (wd X 3)] 26)).alloc (.cells #[vI vU (wd Y 0),vI vU (wd Y 1),vI vU (wd Y 2),vI vU (wd Y 3)] 26)).alloc (.cells #[vI vU 0,vI vU 0,vI vU 0,vI vU 0] 26)).rowIs w.heap.size 26 4 (fun j => .int .u64 (wd X j)):=((zag (n:=4) rfl rfl (arr4 fun j => .int .u64 (wd X j))).alloc _).alloc _
 have hRY : (((w.alloc (.cells #[vI vU (wd X 0),vI vU (wd X 1),vI vU (wd X 2),vI vU (wd X 3)] 26)).alloc (.cells #[vI vU (wd Y 0),vI vU (wd Y 1),vI vU (wd Y 2),vI vU (wd Y 3)] 26)).alloc (.cells #[vI vU 0,vI vU 0,vI vU 0,vI vU 0] 26)).rowIs (w.heap.size + 1) 26 4 (fun j => .int .u64 (wd Y j)):=(zag (n:=4) (by simp) rfl (arr4 fun j => .int .u64 (wd Y j))).alloc _
 have hRR : (((w.alloc (.cells #[vI vU (wd X 0),vI vU (wd X 1),vI vU (wd X 2),vI vU (wd X 3)] 26)).alloc (.cells #[vI vU (wd Y 0),vI vU (wd Y 1),vI vU (wd Y 2),vI vU (wd Y 3)] 26)).alloc (.cells #[vI vU 0,vI vU 0,vI vU 0,vI vU 0] 26)).rowIs (w.heap.size + 1 + 1) 26 4 (fun _ => .int .u64 0):=zag (n:=4) (by simp) rfl (arr4 fun _ => .int .u64 0)
 have hB0 : Below w.heap.size w (((w.alloc (.cells #[vI vU (wd X 0),vI vU (wd X 1),vI vU (wd X 2),vI vU (wd X 3)] 26)).alloc (.cells #[vI vU (wd Y 0),vI vU (wd Y 1),vI vU (wd Y 2),vI vU (wd Y 3)] 26)).alloc (.cells #[vI vU 0,vI vU 0,vI vU 0,vI vU 0] 26)):=(((Below.refl _ _).alloc (by simp) _).alloc (by simp) _).alloc (by simp; omega) _
 go_enter Tryz.func123,Tryz.ntmps123
 go_upto_region 1 with (fail)
 generalize (((w.alloc (.cells #[vI vU (wd X 0),vI vU (wd X 1),vI vU (wd X 2),vI vU (wd X 3)] 26)).alloc (.cells #[vI vU (wd Y 0),vI vU (wd Y 1),vI vU (wd Y 2),vI vU (wd Y 3)] 26)).alloc (.cells #[vI vU 0,vI vU 0,vI vU 0,vI vU 0] 26)) = wz at *
 obtain ⟨x0,x1,x2,x3⟩:=zae hRX
 obtain ⟨y0,y1,y2,y3⟩:=zae hRY
 have l1:=hRX.lt
 have l2:=hRY.lt
 have sB : ∀ W,Bt (w.heap.size + 1 + 1) 26 4 wz W → (Bt (w.heap.size + 1 + 1) 26 4 wz W ∧ W.cell? ⟨w.heap.size,0,none⟩ = some (vI vU (wd X 0)) ∧ W.cell? ⟨w.heap.size,1,none⟩ = some (vI vU (wd X 1)) ∧ W.cell? ⟨w.heap.size,2,none⟩ = some (vI vU (wd X 2)) ∧ W.cell? ⟨w.heap.size,3,none⟩ = some (vI vU (wd X 3)) ∧ W.cell? ⟨(w.heap.size + 1),0,none⟩ = some (vI vU (wd Y 0)) ∧ W.cell? ⟨(w.heap.size + 1),1,none⟩ = some (vI vU (wd Y 1)) ∧ W.cell? ⟨(w.heap.size + 1),2,none⟩ = some (vI vU (wd Y 2)) ∧ W.cell? ⟨(w.heap.size + 1),3,none⟩ = some (vI vU (wd Y 3))):=fun W hB => ⟨hB,(hB.cell l1 (by omega)).trans x0,(hB.cell l1 (by omega)).trans x1,(hB.cell l1 (by omega)).trans x2,(hB.cell l1 (by omega)).trans x3,(hB.cell l2 (by omega)).trans y0,(hB.cell l2 (by omega)).trans y1,(hB.cell l2 (by omega)).trans y2,(hB.cell l2 (by omega)).trans y3⟩
 have hS0:=sB wz (.of hRR (But.refl _ _))
 have SB:=veil sB
 have HB0:=veil hB0
 clear sB hB0 hRX hRY hRR
 go_region_held3 (fun W => Bt (w.heap.size + 1 + 1) 26 4 wz W ∧ W.cell? ⟨w.heap.size,0,none⟩ = some (vI vU (wd X 0)) ∧ W.cell? ⟨w.heap.size,1,none⟩ = some (vI vU (wd X 1)) ∧ W.cell? ⟨w.heap.size,2,none⟩ = some (vI vU (wd X 2)) ∧ W.cell? ⟨w.heap.size,3,none⟩ = some (vI vU (wd X 3)) ∧ W.cell? ⟨(w.heap.size + 1),0,none⟩ = some (vI vU (wd Y 0)) ∧ W.cell? ⟨(w.heap.size + 1),1,none⟩ = some (vI vU (wd Y 1)) ∧ W.cell? ⟨(w.heap.size + 1),2,none⟩ = some (vI vU (wd Y 2)) ∧ W.cell? ⟨(w.heap.size + 1),3,none⟩ = some (vI vU (wd Y 3)))
  (first
   | with_reducible assumption
   | exact hS0
   | exact SB.out _ hS0.1.drew
   | exact SB.out _ ((((hb2.set 0 _).set 1 _).set 2 _).set 3 _))
  (first
   | (go_at_call 125; (with_reducible refine (HP.out _).mono ?_); rintro e w1 ⟨rfl,hb⟩; have hb1:=hS0.1.drew.call hb; have hS1:=SB.out _ hb1; clear hb)
   | (go_at_call 78; (with_reducible refine (HG.out _).mono ?_); rintro e w2 ⟨rfl,hb⟩; have hb2:=hb1.call hb; have hS2:=SB.out _ hb2; clear hb; obtain ⟨fz,hz⟩:=hb2.2; have HZ:=veil hz; obtain ⟨z0,z1,z2,z3⟩:=zae hz; obtain ⟨f0,f1,f2,f3⟩:=zah hz; clear hz))
 clear z0 z1 z2 z3 f0 f1 f2 f3 x0 x1 x2 x3 y0 y1 y2 y3
 go_wp2
 exact bodyPost_ret (results_cell_row rfl _ _ (w.heap.size + 1 + 1) 26 #[vI vU (wd Z 0),vI vU (wd Z 1),vI vU (wd Z 2),vI vU (wd Z 3)] (0,0) _ rfl (blk4 (put4 HZ.out fun j => .int .u64 (wd Z j))) Tryz.underlying26 rfl (by kernel_rfl)) rfl ⟨rfl,zam (HB0.out.trans (hb2.below (by omega) HB0.out.size)) (by omega) _ _ _ _⟩
theorem wd_nil (i : Nat) : wd 0 i = 0:=by unfold wd dg; simp
theorem zfd {w : World} {b : Nat} {t : Nat} (hb : b = w.heap.size) : (w.alloc (.cells #[vI vU 0,vI vU 0,vI vU 0,vI vU 0,vI vU 0,vI vU 0,vI vU 0,vI vU 0,.bool false] t)).rowIs b t 9 (pc 0 0 false):=zag (n:=9) hb rfl fun i hi => by
 have h:=arr9 0 0 false i hi
 simp only [wd_nil] at h
 exact h
theorem rneg_is (X Y Z : Nat) (f : Bool) (hY : Y < Pt.pp) (hZ : Z = (0 + Pt.pp - Y) % Pt.pp) (w : World) :
  Calls Tryz.prog 122 #[.agg #[vI vU (wd X 0),vI vU (wd X 1),vI vU (wd X 2),vI vU (wd X 3),vI vU (wd Y 0),vI vU (wd Y 1),vI vU (wd Y 2),vI vU (wd Y 3),.bool (f)]] w fun e w' => e = .returned (.agg #[vI vU (wd X 0),vI vU (wd X 1),vI vU (wd X 2),vI vU (wd X 3),vI vU (wd Z 0),vI vU (wd Z 1),vI vU (wd Z 2),vI vU (wd Z 3),.bool (f)]) ∧ Below w.heap.size w w':=by
 have hRA : ((w.alloc (.cells #[vI vU (wd X 0),vI vU (wd X 1),vI vU (wd X 2),vI vU (wd X 3),vI vU (wd Y 0),vI vU (wd Y 1),vI vU (wd Y 2),vI vU (wd Y 3),.bool (f)] 48)).alloc (.cells #[vI vU 0,vI vU 0,vI vU 0,vI vU 0,vI vU 0,vI vU 0,vI vU 0,vI vU 0,.bool false] 48)).rowIs w.heap.size 48 9 (pc X Y f):=(zds X Y f rfl).alloc _
 have hRR : ((w.alloc (.cells #[vI vU (wd X 0),vI vU (wd X 1),vI vU (wd X 2),vI vU (wd X 3),vI vU (wd Y 0),vI vU (wd Y 1),vI vU (wd Y 2),vI vU (wd Y 3),.bool (f)] 48)).alloc (.cells #[vI vU 0,vI vU 0,vI vU 0,vI vU 0,vI vU 0,vI vU 0,vI vU 0,vI vU 0,.bool false] 48)).rowIs (w.heap.size + 1) 48 9 (pc 0 0 false):=zfd (by simp)
 have hB0 : Below w.heap.size w ((w.alloc (.cells #[vI vU (wd X 0),vI vU (wd X 1),vI vU (wd X 2),vI vU (wd X 3),vI vU (wd Y 0),vI vU (wd Y 1),vI vU (wd Y 2),vI vU (wd Y 3),.bool (f)] 48)).alloc (.cells #[vI vU 0,vI vU 0,vI vU 0,vI vU 0,vI vU 0,vI vU 0,vI vU 0,vI vU 0,.bool false] 48)):=((Below.refl _ _).alloc (by simp) _).alloc (by simp) _
 have HS:=veil (show ∀ W,Calls Tryz.prog 123 #[.agg #[vI vU 0,vI vU 0,vI vU 0,vI vU 0],.agg #[vI vU (wd Y 0),vI vU (wd Y 1),vI vU (wd Y 2),vI vU (wd Y 3)]] W fun e W' => e = .returned (.agg #[vI vU (wd Z 0),vI vU (wd Z 1),vI vU (wd Z 2),vI vU (wd Z 3)]) ∧ Below W.heap.size W W' from fun W => by
  have h:=zcx 0 Y Z zgk hY hZ W
  simp only [wd_nil] at h
  exact h)
 clear hY hZ
 go_enter Tryz.func122,Tryz.ntmps122
 go_upto_region 1 with (fail)
 generalize ((w.alloc (.cells #[vI vU (wd X 0),vI vU (wd X 1),vI vU (wd X 2),vI vU (wd X 3),vI vU (wd Y 0),vI vU (wd Y 1),vI vU (wd Y 2),vI vU (wd Y 3),.bool (f)] 48)).alloc (.cells #[vI vU 0,vI vU 0,vI vU 0,vI vU 0,vI vU 0,vI vU 0,vI vU 0,vI vU 0,.bool false] 48)) = wz at *
 obtain ⟨x0,x1,x2,x3⟩:=pt_x hRA
 obtain ⟨y0,y1,y2,y3⟩:=pt_y hRA
 have f0:=pt_f hRA
 have lz:=hRA.lt
 have sB : ∀ W,Bt (w.heap.size + 1) 48 9 wz W → (Bt (w.heap.size + 1) 48 9 wz W ∧ W.cell? ⟨w.heap.size,0,none⟩ = some (vI vU (wd X 0)) ∧ W.cell? ⟨w.heap.size,1,none⟩ = some (vI vU (wd X 1)) ∧ W.cell? ⟨w.heap.size,2,none⟩ = some (vI vU (wd X 2)) ∧ W.cell? ⟨w.heap.size,3,none⟩ = some (vI vU (wd X 3)) ∧ W.cell? ⟨w.heap.size,4,none⟩ = some (vI vU (wd Y 0)) ∧ W.cell? ⟨w.heap.size,5,none⟩ = some (vI vU (wd Y 1)) ∧ W.cell? ⟨w.heap.size,6,none⟩ = some (vI vU (wd Y 2)) ∧ W.cell? ⟨w.heap.size,7,none⟩ = some (vI vU (wd Y 3)) ∧ W.cell? ⟨w.heap.size,8,none⟩ = some (.bool f)):=fun W hB => ⟨hB,(hB.cell lz (by omega)).trans x0,(hB.cell lz (by omega)).trans x1,(hB.cell lz (by omega)).trans x2,(hB.cell lz (by omega)).trans x3,(hB.cell lz (by omega)).trans y0,(hB.cell lz (by omega)).trans y1,(hB.cell lz (by omega)).trans y2,(hB.cell lz (by omega)).trans y3,(hB.cell lz (by omega)).trans f0⟩
 have hS0:=sB wz (.of hRR (But.refl _ _))
 have SB:=veil sB
 have HB0:=veil hB0
 clear sB hB0 hRA hRR
 refine wp_region_held_drew (S:=fun W => Bt (w.heap.size + 1) 48 9 wz W ∧ W.cell? ⟨w.heap.size,0,none⟩ = some (vI vU (wd X 0)) ∧ W.cell? ⟨w.heap.size,1,none⟩ = some (vI vU (wd X 1)) ∧ W.cell? ⟨w.heap.size,2,none⟩ = some (vI vU (wd X 2)) ∧ W.cell? ⟨w.heap.size,3,none⟩ = some (vI vU (wd X 3)) ∧ W.cell? ⟨w.heap.size,4,none⟩ = some (vI vU (wd Y 0)) ∧ W.cell? ⟨w.heap.size,5,none⟩ = some (vI vU (wd Y 1)) ∧ W.cell? ⟨w.heap.size,6,none⟩ = some (vI vU (wd Y 2)) ∧ W.cell? ⟨w.heap.size,7,none⟩ = some (vI vU (wd Y 3)) ∧ W.cell? ⟨w.heap.size,8,none⟩ = some (.bool f)) (by kernel_rfl) (SB.out _ hS0.1.drew) (fun hH => ?_)
 repeat
  ((first
    | (refine wpAnyH_take (i:=0) (v:=.pointer (some ⟨w.heap.size,0,none⟩)) rfl (by kernel_rfl) (by kernel_rfl) (by decide +kernel) (fun _ _ _ h => h) (Or.inl ⟨by rfl,fun W hSw => (by dsimp only at hSw; go_simp)⟩) (by with_reducible assumption) ?_)
    | (refine wpAnyH_take (i:=1) (v:=.agg #[vI vU (wd X 0),vI vU (wd X 1),vI vU (wd X 2),vI vU (wd X 3)]) rfl (by kernel_rfl) (by kernel_rfl) (by decide +kernel) (fun _ _ _ h => h) (Or.inl ⟨by rfl,fun W hSw => (by dsimp only at hSw; go_simp)⟩) (by with_reducible assumption) ?_)
    | (refine wpAnyH_take (i:=2) (v:=.agg #[vI vU 0,vI vU 0,vI vU 0,vI vU 0]) rfl (by kernel_rfl) (by kernel_rfl) (by decide +kernel) (fun _ _ _ h => h) (Or.inl ⟨by rfl,fun W hSw => (by dsimp only at hSw; go_simp)⟩) (by with_reducible assumption) ?_)
    | (refine wpAnyH_take (i:=3) (v:=.pointer (some ⟨w.heap.size,4,none⟩)) rfl (by kernel_rfl) (by kernel_rfl) (by decide +kernel) (fun _ _ _ h => h) (Or.inl ⟨by rfl,fun W hSw => (by dsimp only at hSw; go_simp)⟩) (by with_reducible assumption) ?_)
    | (refine wpAnyH_take (i:=4) (v:=.agg #[vI vU (wd Y 0),vI vU (wd Y 1),vI vU (wd Y 2),vI vU (wd Y 3)]) rfl (by kernel_rfl) (by kernel_rfl) (by decide +kernel) (fun _ _ _ h => h) (Or.inl ⟨by rfl,fun W hSw => (by dsimp only at hSw; go_simp)⟩) (by with_reducible assumption) ?_)
    | (refine wpAnyH_ready (rs:=[5]) (by decide +kernel) (by simp) ?_; refine AllReadyH.cons rfl (fun K hK => ?_) AllReadyH.nil; go_simp; (with_reducible refine (HS.out _).mono ?_); rintro e w1 ⟨rfl,hb⟩; have hb1:=hS0.1.drew.call hb; clear hb; obtain ⟨fz,hz⟩:=hb1.2; have HZ:=veil (blkOf hz); clear hz; refine hK.out _ _ (SB.out _ hb1) (fun hH => ?_); clear hK K)
    | (refine wpAnyH_take (i:=6) (v:=.pointer (some ⟨w.heap.size,8,none⟩)) rfl (by kernel_rfl) (by kernel_rfl) (by decide +kernel) (fun _ _ _ h => h) (Or.inl ⟨by rfl,fun W hSw => (by dsimp only at hSw; go_simp)⟩) (by with_reducible assumption) ?_)
    | (refine wpAnyH_take (i:=7) (v:=.bool f) rfl (by kernel_rfl) (by kernel_rfl) (by decide +kernel) (fun _ _ _ h => h) (Or.inl ⟨by rfl,fun W hSw => (by dsimp only at hSw; go_simp)⟩) (by with_reducible assumption) ?_)
    | (refine wpAnyH_take (i:=8) (v:=.agg #[vI vU (wd X 0),vI vU (wd X 1),vI vU (wd X 2),vI vU (wd X 3),vI vU (wd Z 0),vI vU (wd Z 1),vI vU (wd Z 2),vI vU (wd Z 3),.bool (f)]) rfl (by kernel_rfl) (by kernel_rfl) (by decide +kernel) (fun _ _ _ h => h) (Or.inl ⟨by rfl,fun W hSw => (by dsimp only at hSw; go_simp)⟩) (by with_reducible assumption) ?_)
    | (refine wpAnyH_ready (rs:=[9]) (by decide +kernel) (by simp) ?_; refine AllReadyH.cons rfl (fun K hK => ?_) AllReadyH.nil; refine zft rfl 48 _ _ rfl (w.heap.size + 1) #[vI vU (wd X 0),vI vU (wd X 1),vI vU (wd X 2),vI vU (wd X 3),vI vU (wd Z 0),vI vU (wd Z 1),vI vU (wd Z 2),vI vU (wd Z 3),.bool (f)] rfl rfl 48 _ HZ.out zbg (by rw [zbc]; rfl) (one9 X Z f) ?_; refine hK.out _ _ (SB.out _ (hb1.setRow rfl)) (fun hH => ?_); clear hK K)
    | fail);
   try simp only [Act.put,List.setIfInBounds_toArray,List.set_cons_zero,List.set_cons_succ,List.getElem_toArray,List.getElem_cons_zero,List.getElem_cons_succ])
 refine wpAnyH_done (by decide +kernel) ?_ _
 clear x0 x1 x2 x3 y0 y1 y2 y3 f0
 have HFIN:=veil (setRow_heap _ (w.heap.size + 1) _ #[vI vU (wd X 0),vI vU (wd X 1),vI vU (wd X 2),vI vU (wd X 3),vI vU (wd Z 0),vI vU (wd Z 1),vI vU (wd Z 2),vI vU (wd Z 3),.bool (f)] 48 (0,0) HZ.out)
 clear hH
 go_wp2
 exact bodyPost_ret (results_cell_row rfl _ _ (w.heap.size + 1) 48 #[vI vU (wd X 0),vI vU (wd X 1),vI vU (wd X 2),vI vU (wd X 3),vI vU (wd Z 0),vI vU (wd Z 1),vI vU (wd Z 2),vI vU (wd Z 3),.bool (f)] (0,0) _ rfl HFIN.out Tryz.underlying48 rfl zbg) rfl ⟨rfl,HB0.out.trans ((hb1.setRow (cs:=#[vI vU (wd X 0),vI vU (wd X 1),vI vU (wd X 2),vI vU (wd X 3),vI vU (wd Z 0),vI vU (wd Z 1),vI vU (wd Z 2),vI vU (wd Z 3),.bool (f)]) rfl).below (by omega) HB0.out.size)⟩
theorem radd_far1 (X1 Y1 X2 Y2 : Nat) (f2 : Bool) (w : World) :
  Calls Tryz.prog 72 #[.agg #[vI vU (wd X1 0),vI vU (wd X1 1),vI vU (wd X1 2),vI vU (wd X1 3),vI vU (wd Y1 0),vI vU (wd Y1 1),vI vU (wd Y1 2),vI vU (wd Y1 3),.bool (true)],.agg #[vI vU (wd X2 0),vI vU (wd X2 1),vI vU (wd X2 2),vI vU (wd X2 3),vI vU (wd Y2 0),vI vU (wd Y2 1),vI vU (wd Y2 2),vI vU (wd Y2 3),.bool (f2)]] w fun e w' => e = .returned (.agg #[vI vU (wd X2 0),vI vU (wd X2 1),vI vU (wd X2 2),vI vU (wd X2 3),vI vU (wd Y2 0),vI vU (wd Y2 1),vI vU (wd Y2 2),vI vU (wd Y2 3),.bool (f2)]) ∧ Below w.heap.size w w':=by
 have hA : (((w.alloc (.cells #[vI vU (wd X1 0),vI vU (wd X1 1),vI vU (wd X1 2),vI vU (wd X1 3),vI vU (wd Y1 0),vI vU (wd Y1 1),vI vU (wd Y1 2),vI vU (wd Y1 3),.bool (true)] 48)).alloc (.cells #[vI vU (wd X2 0),vI vU (wd X2 1),vI vU (wd X2 2),vI vU (wd X2 3),vI vU (wd Y2 0),vI vU (wd Y2 1),vI vU (wd Y2 2),vI vU (wd Y2 3),.bool (f2)] 48)).alloc (.cells #[vI vU 0,vI vU 0,vI vU 0,vI vU 0,vI vU 0,vI vU 0,vI vU 0,vI vU 0,.bool false] 48)).rowIs w.heap.size 48 9 (pc X1 Y1 true):=((zds X1 Y1 true rfl).alloc _).alloc _
 have hC : (((w.alloc (.cells #[vI vU (wd X1 0),vI vU (wd X1 1),vI vU (wd X1 2),vI vU (wd X1 3),vI vU (wd Y1 0),vI vU (wd Y1 1),vI vU (wd Y1 2),vI vU (wd Y1 3),.bool (true)] 48)).alloc (.cells #[vI vU (wd X2 0),vI vU (wd X2 1),vI vU (wd X2 2),vI vU (wd X2 3),vI vU (wd Y2 0),vI vU (wd Y2 1),vI vU (wd Y2 2),vI vU (wd Y2 3),.bool (f2)] 48)).alloc (.cells #[vI vU 0,vI vU 0,vI vU 0,vI vU 0,vI vU 0,vI vU 0,vI vU 0,vI vU 0,.bool false] 48)).rowIs (w.heap.size + 1) 48 9 (pc X2 Y2 f2):=(zds X2 Y2 f2 (by simp)).alloc _
 have hR : (((w.alloc (.cells #[vI vU (wd X1 0),vI vU (wd X1 1),vI vU (wd X1 2),vI vU (wd X1 3),vI vU (wd Y1 0),vI vU (wd Y1 1),vI vU (wd Y1 2),vI vU (wd Y1 3),.bool (true)] 48)).alloc (.cells #[vI vU (wd X2 0),vI vU (wd X2 1),vI vU (wd X2 2),vI vU (wd X2 3),vI vU (wd Y2 0),vI vU (wd Y2 1),vI vU (wd Y2 2),vI vU (wd Y2 3),.bool (f2)] 48)).alloc (.cells #[vI vU 0,vI vU 0,vI vU 0,vI vU 0,vI vU 0,vI vU 0,vI vU 0,vI vU 0,.bool false] 48)).rowIs (w.heap.size + 1 + 1) 48 9 (pc 0 0 false):=zfd (by simp)
 have hB : Below w.heap.size w (((w.alloc (.cells #[vI vU (wd X1 0),vI vU (wd X1 1),vI vU (wd X1 2),vI vU (wd X1 3),vI vU (wd Y1 0),vI vU (wd Y1 1),vI vU (wd Y1 2),vI vU (wd Y1 3),.bool (true)] 48)).alloc (.cells #[vI vU (wd X2 0),vI vU (wd X2 1),vI vU (wd X2 2),vI vU (wd X2 3),vI vU (wd Y2 0),vI vU (wd Y2 1),vI vU (wd Y2 2),vI vU (wd Y2 3),.bool (f2)] 48)).alloc (.cells #[vI vU 0,vI vU 0,vI vU 0,vI vU 0,vI vU 0,vI vU 0,vI vU 0,vI vU 0,.bool false] 48)):=(((Below.refl _ _).alloc (by simp) _).alloc (by simp) _).alloc (by simp; omega) _
 go_enter Tryz.func72,Tryz.ntmps72
 go_upto_region 1 with (fail)
 generalize (((w.alloc (.cells #[vI vU (wd X1 0),vI vU (wd X1 1),vI vU (wd X1 2),vI vU (wd X1 3),vI vU (wd Y1 0),vI vU (wd Y1 1),vI vU (wd Y1 2),vI vU (wd Y1 3),.bool (true)] 48)).alloc (.cells #[vI vU (wd X2 0),vI vU (wd X2 1),vI vU (wd X2 2),vI vU (wd X2 3),vI vU (wd Y2 0),vI vU (wd Y2 1),vI vU (wd Y2 2),vI vU (wd Y2 3),.bool (f2)] 48)).alloc (.cells #[vI vU 0,vI vU 0,vI vU 0,vI vU 0,vI vU 0,vI vU 0,vI vU 0,vI vU 0,.bool false] 48)) = wz at *
 have fA:=pt_f hA
 have fC:=pt_f hC
 have HV:=veil (blk9 hC)
 have HR:=veil (blkOf hR)
 clear hA hC hR
 go_wp2_with (first
  | ((with_reducible refine zau 13 ?_); refine wpList_load_row rfl 48 _ rfl (w.heap.size + 1) rfl 48 #[vI vU (wd X2 0),vI vU (wd X2 1),vI vU (wd X2 2),vI vU (wd X2 3),vI vU (wd Y2 0),vI vU (wd Y2 1),vI vU (wd Y2 2),vI vU (wd Y2 3),.bool (f2)] (0,0) _ HV.out Tryz.underlying48 rfl zbg ?_)
  | ((with_reducible refine zat ?_); refine wpList_store_row rfl 48 _ _ rfl (w.heap.size + 1 + 1) #[vI vU (wd X2 0),vI vU (wd X2 1),vI vU (wd X2 2),vI vU (wd X2 3),vI vU (wd Y2 0),vI vU (wd Y2 1),vI vU (wd Y2 2),vI vU (wd Y2 3),.bool (f2)] rfl rfl 48 _ HR.out zbg (by rw [zbc]; rfl) (one9 _ _ _) ?_))
 exact bodyPost_ret (results_cell_row rfl _ _ (w.heap.size + 1 + 1) 48 #[vI vU (wd X2 0),vI vU (wd X2 1),vI vU (wd X2 2),vI vU (wd X2 3),vI vU (wd Y2 0),vI vU (wd Y2 1),vI vU (wd Y2 2),vI vU (wd Y2 3),.bool (f2)] (0,0) _ rfl (setRow_heap wz (w.heap.size + 1 + 1) _ #[vI vU (wd X2 0),vI vU (wd X2 1),vI vU (wd X2 2),vI vU (wd X2 3),vI vU (wd Y2 0),vI vU (wd Y2 1),vI vU (wd Y2 2),vI vU (wd Y2 3),.bool (f2)] 48 (0,0) HR.out) Tryz.underlying48 rfl zbg) rfl ⟨rfl,zbw hB (by omega) _⟩
theorem radd_far2 (X1 Y1 X2 Y2 : Nat) (w : World) :
  Calls Tryz.prog 72 #[.agg #[vI vU (wd X1 0),vI vU (wd X1 1),vI vU (wd X1 2),vI vU (wd X1 3),vI vU (wd Y1 0),vI vU (wd Y1 1),vI vU (wd Y1 2),vI vU (wd Y1 3),.bool (false)],.agg #[vI vU (wd X2 0),vI vU (wd X2 1),vI vU (wd X2 2),vI vU (wd X2 3),vI vU (wd Y2 0),vI vU (wd Y2 1),vI vU (wd Y2 2),vI vU (wd Y2 3),.bool (true)]] w fun e w' => e = .returned (.agg #[vI vU (wd X1 0),vI vU (wd X1 1),vI vU (wd X1 2),vI vU (wd X1 3),vI vU (wd Y1 0),vI vU (wd Y1 1),vI vU (wd Y1 2),vI vU (wd Y1 3),.bool (false)]) ∧ Below w.heap.size w w':=by
 have hA : (((w.alloc (.cells #[vI vU (wd X1 0),vI vU (wd X1 1),vI vU (wd X1 2),vI vU (wd X1 3),vI vU (wd Y1 0),vI vU (wd Y1 1),vI vU (wd Y1 2),vI vU (wd Y1 3),.bool (false)] 48)).alloc (.cells #[vI vU (wd X2 0),vI vU (wd X2 1),vI vU (wd X2 2),vI vU (wd X2 3),vI vU (wd Y2 0),vI vU (wd Y2 1),vI vU (wd Y2 2),vI vU (wd Y2 3),.bool (true)] 48)).alloc (.cells #[vI vU 0,vI vU 0,vI vU 0,vI vU 0,vI vU 0,vI vU 0,vI vU 0,vI vU 0,.bool false] 48)).rowIs w.heap.size 48 9 (pc X1 Y1 false):=((zds X1 Y1 false rfl).alloc _).alloc _
 have hC : (((w.alloc (.cells #[vI vU (wd X1 0),vI vU (wd X1 1),vI vU (wd X1 2),vI vU (wd X1 3),vI vU (wd Y1 0),vI vU (wd Y1 1),vI vU (wd Y1 2),vI vU (wd Y1 3),.bool (false)] 48)).alloc (.cells #[vI vU (wd X2 0),vI vU (wd X2 1),vI vU (wd X2 2),vI vU (wd X2 3),vI vU (wd Y2 0),vI vU (wd Y2 1),vI vU (wd Y2 2),vI vU (wd Y2 3),.bool (true)] 48)).alloc (.cells #[vI vU 0,vI vU 0,vI vU 0,vI vU 0,vI vU 0,vI vU 0,vI vU 0,vI vU 0,.bool false] 48)).rowIs (w.heap.size + 1) 48 9 (pc X2 Y2 true):=(zds X2 Y2 true (by simp)).alloc _
 have hR : (((w.alloc (.cells #[vI vU (wd X1 0),vI vU (wd X1 1),vI vU (wd X1 2),vI vU (wd X1 3),vI vU (wd Y1 0),vI vU (wd Y1 1),vI vU (wd Y1 2),vI vU (wd Y1 3),.bool (false)] 48)).alloc (.cells #[vI vU (wd X2 0),vI vU (wd X2 1),vI vU (wd X2 2),vI vU (wd X2 3),vI vU (wd Y2 0),vI vU (wd Y2 1),vI vU (wd Y2 2),vI vU (wd Y2 3),.bool (true)] 48)).alloc (.cells #[vI vU 0,vI vU 0,vI vU 0,vI vU 0,vI vU 0,vI vU 0,vI vU 0,vI vU 0,.bool false] 48)).rowIs (w.heap.size + 1 + 1) 48 9 (pc 0 0 false):=zfd (by simp)
 have hB : Below w.heap.size w (((w.alloc (.cells #[vI vU (wd X1 0),vI vU (wd X1 1),vI vU (wd X1 2),vI vU (wd X1 3),vI vU (wd Y1 0),vI vU (wd Y1 1),vI vU (wd Y1 2),vI vU (wd Y1 3),.bool (false)] 48)).alloc (.cells #[vI vU (wd X2 0),vI vU (wd X2 1),vI vU (wd X2 2),vI vU (wd X2 3),vI vU (wd Y2 0),vI vU (wd Y2 1),vI vU (wd Y2 2),vI vU (wd Y2 3),.bool (true)] 48)).alloc (.cells #[vI vU 0,vI vU 0,vI vU 0,vI vU 0,vI vU 0,vI vU 0,vI vU 0,vI vU 0,.bool false] 48)):=(((Below.refl _ _).alloc (by simp) _).alloc (by simp) _).alloc (by simp; omega) _
 go_enter Tryz.func72,Tryz.ntmps72
 go_upto_region 1 with (fail)
 generalize (((w.alloc (.cells #[vI vU (wd X1 0),vI vU (wd X1 1),vI vU (wd X1 2),vI vU (wd X1 3),vI vU (wd Y1 0),vI vU (wd Y1 1),vI vU (wd Y1 2),vI vU (wd Y1 3),.bool (false)] 48)).alloc (.cells #[vI vU (wd X2 0),vI vU (wd X2 1),vI vU (wd X2 2),vI vU (wd X2 3),vI vU (wd Y2 0),vI vU (wd Y2 1),vI vU (wd Y2 2),vI vU (wd Y2 3),.bool (true)] 48)).alloc (.cells #[vI vU 0,vI vU 0,vI vU 0,vI vU 0,vI vU 0,vI vU 0,vI vU 0,vI vU 0,.bool false] 48)) = wz at *
 have fA:=pt_f hA
 have fC:=pt_f hC
 have HV:=veil (blk9 hA)
 have HR:=veil (blkOf hR)
 clear hA hC hR
 go_wp2_with (first
  | ((with_reducible refine zau 16 ?_); refine wpList_load_row rfl 48 _ rfl w.heap.size rfl 48 #[vI vU (wd X1 0),vI vU (wd X1 1),vI vU (wd X1 2),vI vU (wd X1 3),vI vU (wd Y1 0),vI vU (wd Y1 1),vI vU (wd Y1 2),vI vU (wd Y1 3),.bool (false)] (0,0) _ HV.out Tryz.underlying48 rfl zbg ?_)
  | ((with_reducible refine zat ?_); refine wpList_store_row rfl 48 _ _ rfl (w.heap.size + 1 + 1) #[vI vU (wd X1 0),vI vU (wd X1 1),vI vU (wd X1 2),vI vU (wd X1 3),vI vU (wd Y1 0),vI vU (wd Y1 1),vI vU (wd Y1 2),vI vU (wd Y1 3),.bool (false)] rfl rfl 48 _ HR.out zbg (by rw [zbc]; rfl) (one9 _ _ _) ?_))
 exact bodyPost_ret (results_cell_row rfl _ _ (w.heap.size + 1 + 1) 48 #[vI vU (wd X1 0),vI vU (wd X1 1),vI vU (wd X1 2),vI vU (wd X1 3),vI vU (wd Y1 0),vI vU (wd Y1 1),vI vU (wd Y1 2),vI vU (wd Y1 3),.bool (false)] (0,0) _ rfl (setRow_heap wz (w.heap.size + 1 + 1) _ #[vI vU (wd X1 0),vI vU (wd X1 1),vI vU (wd X1 2),vI vU (wd X1 3),vI vU (wd Y1 0),vI vU (wd Y1 1),vI vU (wd Y1 2),vI vU (wd Y1 3),.bool (false)] 48 (0,0) HR.out) Tryz.underlying48 rfl zbg) rfl ⟨rfl,zbw hB (by omega) _⟩
theorem zgq {w : World} {b t X Y : Nat} {f : Bool} (h : w.rowIs b t 9 (pc X Y f)) : w.rangeAt b 0 [.int .u64 (wd X 0),.int .u64 (wd X 1),.int .u64 (wd X 2),.int .u64 (wd X 3),.int .u64 (wd Y 0),.int .u64 (wd Y 1),.int .u64 (wd Y 2),.int .u64 (wd Y 3),.bool f]:=fun j v hv => by
 rw [Nat.zero_add,cell_of_row w b j _ t (0,0) (blk9 h)]
 simpa using hv
theorem radd_opp (X1 Y1 X2 Y2 : Nat) (hX1 : X1 < top) (hY1 : Y1 < top) (hX2 : X2 < top) (hY2 : Y2 < Pt.pp) (h : X1 = X2 ∧ Y1 = (0 + Pt.pp - Y2) % Pt.pp) (w : World) :
  Calls Tryz.prog 72 #[.agg #[vI vU (wd X1 0),vI vU (wd X1 1),vI vU (wd X1 2),vI vU (wd X1 3),vI vU (wd Y1 0),vI vU (wd Y1 1),vI vU (wd Y1 2),vI vU (wd Y1 3),.bool (false)],.agg #[vI vU (wd X2 0),vI vU (wd X2 1),vI vU (wd X2 2),vI vU (wd X2 3),vI vU (wd Y2 0),vI vU (wd Y2 1),vI vU (wd Y2 2),vI vU (wd Y2 3),.bool (false)]] w fun e w' => e = .returned (.agg #[vI vU 0,vI vU 0,vI vU 0,vI vU 0,vI vU 0,vI vU 0,vI vU 0,vI vU 0,.bool true]) ∧ Below w.heap.size w w':=by
 have hA : (((w.alloc (.cells #[vI vU (wd X1 0),vI vU (wd X1 1),vI vU (wd X1 2),vI vU (wd X1 3),vI vU (wd Y1 0),vI vU (wd Y1 1),vI vU (wd Y1 2),vI vU (wd Y1 3),.bool (false)] 48)).alloc (.cells #[vI vU (wd X2 0),vI vU (wd X2 1),vI vU (wd X2 2),vI vU (wd X2 3),vI vU (wd Y2 0),vI vU (wd Y2 1),vI vU (wd Y2 2),vI vU (wd Y2 3),.bool (false)] 48)).alloc (.cells #[vI vU 0,vI vU 0,vI vU 0,vI vU 0,vI vU 0,vI vU 0,vI vU 0,vI vU 0,.bool false] 48)).rowIs w.heap.size 48 9 (pc X1 Y1 false):=((zds X1 Y1 false rfl).alloc _).alloc _
 have hC : (((w.alloc (.cells #[vI vU (wd X1 0),vI vU (wd X1 1),vI vU (wd X1 2),vI vU (wd X1 3),vI vU (wd Y1 0),vI vU (wd Y1 1),vI vU (wd Y1 2),vI vU (wd Y1 3),.bool (false)] 48)).alloc (.cells #[vI vU (wd X2 0),vI vU (wd X2 1),vI vU (wd X2 2),vI vU (wd X2 3),vI vU (wd Y2 0),vI vU (wd Y2 1),vI vU (wd Y2 2),vI vU (wd Y2 3),.bool (false)] 48)).alloc (.cells #[vI vU 0,vI vU 0,vI vU 0,vI vU 0,vI vU 0,vI vU 0,vI vU 0,vI vU 0,.bool false] 48)).rowIs (w.heap.size + 1) 48 9 (pc X2 Y2 false):=(zds X2 Y2 false (by simp)).alloc _
 have hR : (((w.alloc (.cells #[vI vU (wd X1 0),vI vU (wd X1 1),vI vU (wd X1 2),vI vU (wd X1 3),vI vU (wd Y1 0),vI vU (wd Y1 1),vI vU (wd Y1 2),vI vU (wd Y1 3),.bool (false)] 48)).alloc (.cells #[vI vU (wd X2 0),vI vU (wd X2 1),vI vU (wd X2 2),vI vU (wd X2 3),vI vU (wd Y2 0),vI vU (wd Y2 1),vI vU (wd Y2 2),vI vU (wd Y2 3),.bool (false)] 48)).alloc (.cells #[vI vU 0,vI vU 0,vI vU 0,vI vU 0,vI vU 0,vI vU 0,vI vU 0,vI vU 0,.bool false] 48)).rowIs (w.heap.size + 1 + 1) 48 9 (pc 0 0 false):=zfd (by simp)
 have hB : Below w.heap.size w (((w.alloc (.cells #[vI vU (wd X1 0),vI vU (wd X1 1),vI vU (wd X1 2),vI vU (wd X1 3),vI vU (wd Y1 0),vI vU (wd Y1 1),vI vU (wd Y1 2),vI vU (wd Y1 3),.bool (false)] 48)).alloc (.cells #[vI vU (wd X2 0),vI vU (wd X2 1),vI vU (wd X2 2),vI vU (wd X2 3),vI vU (wd Y2 0),vI vU (wd Y2 1),vI vU (wd Y2 2),vI vU (wd Y2 3),.bool (false)] 48)).alloc (.cells #[vI vU 0,vI vU 0,vI vU 0,vI vU 0,vI vU 0,vI vU 0,vI vU 0,vI vU 0,.bool false] 48)):=(((Below.refl _ _).alloc (by simp) _).alloc (by simp) _).alloc (by simp; omega) _
 obtain ⟨Z,hZ⟩ : ∃ Z,Z = (0 + Pt.pp - Y2) % Pt.pp:=⟨_,rfl⟩
 have HN:=veil (show ∀ W,Calls Tryz.prog 122 #[.agg #[vI vU (wd X2 0),vI vU (wd X2 1),vI vU (wd X2 2),vI vU (wd X2 3),vI vU (wd Y2 0),vI vU (wd Y2 1),vI vU (wd Y2 2),vI vU (wd Y2 3),.bool (false)]] W fun e W' => e = .returned (.agg #[vI vU (wd X2 0),vI vU (wd X2 1),vI vU (wd X2 2),vI vU (wd X2 3),vI vU (wd Z 0),vI vU (wd Z 1),vI vU (wd Z 2),vI vU (wd Z 3),.bool (false)]) ∧ Below W.heap.size W W' from fun W => rneg_is X2 Y2 Z false hY2 hZ W)
 have lZ : Z < top:=by rw [hZ]; exact Nat.lt_trans (Nat.mod_lt _ zgk) zbf
 have kq : ∀ W,(binOp .eql 48 (.agg #[vI vU (wd X1 0),vI vU (wd X1 1),vI vU (wd X1 2),vI vU (wd X1 3),vI vU (wd Y1 0),vI vU (wd Y1 1),vI vU (wd Y1 2),vI vU (wd Y1 3),.bool (false)]) (.agg #[vI vU (wd X2 0),vI vU (wd X2 1),vI vU (wd X2 2),vI vU (wd X2 3),vI vU (wd Z 0),vI vU (wd Z 1),vI vU (wd Z 2),vI vU (wd Z 3),.bool (false)])).run Tryz.prog W = .ok (.bool true) W:=fun W => by
  rw [eql_pt hX1 hY1 hX2 lZ false false W,decide_eq_true ⟨h.1,by rw [hZ]; exact h.2,rfl⟩]
 clear hZ h hX1 hY1 hX2 hY2 lZ
 go_enter Tryz.func72,Tryz.ntmps72
 go_upto_region 1 with (fail)
 generalize (((w.alloc (.cells #[vI vU (wd X1 0),vI vU (wd X1 1),vI vU (wd X1 2),vI vU (wd X1 3),vI vU (wd Y1 0),vI vU (wd Y1 1),vI vU (wd Y1 2),vI vU (wd Y1 3),.bool (false)] 48)).alloc (.cells #[vI vU (wd X2 0),vI vU (wd X2 1),vI vU (wd X2 2),vI vU (wd X2 3),vI vU (wd Y2 0),vI vU (wd Y2 1),vI vU (wd Y2 2),vI vU (wd Y2 3),.bool (false)] 48)).alloc (.cells #[vI vU 0,vI vU 0,vI vU 0,vI vU 0,vI vU 0,vI vU 0,vI vU 0,vI vU 0,.bool false] 48)) = wz at *
 have fA:=pt_f hA
 have fC:=pt_f hC
 go_upto_region 5 with (fail)
 have lA:=hA.lt
 have lC:=hC.lt
 have sB : ∀ W,Below wz.heap.size wz W → (Below wz.heap.size wz W ∧ W.rangeAt w.heap.size 0 [.int .u64 (wd X1 0),.int .u64 (wd X1 1),.int .u64 (wd X1 2),.int .u64 (wd X1 3),.int .u64 (wd Y1 0),.int .u64 (wd Y1 1),.int .u64 (wd Y1 2),.int .u64 (wd Y1 3),.bool false] ∧ W.rangeAt (w.heap.size + 1) 0 [.int .u64 (wd X2 0),.int .u64 (wd X2 1),.int .u64 (wd X2 2),.int .u64 (wd X2 3),.int .u64 (wd Y2 0),.int .u64 (wd Y2 1),.int .u64 (wd Y2 2),.int .u64 (wd Y2 3),.bool false]):=fun W hb => ⟨hb,zdh (zgq hA) (hb.block _ lA),zdh (zgq hC) (hb.block _ lC)⟩
 have SB:=veil sB
 clear sB
 refine wp_region_held_drew (S:=fun W => (Below wz.heap.size wz W ∧ W.rangeAt w.heap.size 0 [.int .u64 (wd X1 0),.int .u64 (wd X1 1),.int .u64 (wd X1 2),.int .u64 (wd X1 3),.int .u64 (wd Y1 0),.int .u64 (wd Y1 1),.int .u64 (wd Y1 2),.int .u64 (wd Y1 3),.bool false] ∧ W.rangeAt (w.heap.size + 1) 0 [.int .u64 (wd X2 0),.int .u64 (wd X2 1),.int .u64 (wd X2 2),.int .u64 (wd X2 3),.int .u64 (wd Y2 0),.int .u64 (wd Y2 1),.int .u64 (wd Y2 2),.int .u64 (wd Y2 3),.bool false])) (by kernel_rfl) (SB.out _ (Below.refl _ wz).drew) (fun hH => ?_)
 repeat
  ((first
    | (refine wpAnyH_take (i:=0) (v:=.agg #[vI vU (wd X1 0),vI vU (wd X1 1),vI vU (wd X1 2),vI vU (wd X1 3),vI vU (wd Y1 0),vI vU (wd Y1 1),vI vU (wd Y1 2),vI vU (wd Y1 3),.bool false]) rfl (by kernel_rfl) (by kernel_rfl) (by decide +kernel) (fun _ _ _ h => h) (yieldsIf_load_mid (by rfl) _ _ rfl _ _ rfl _ _ (fun W hSw => hSw.2.1) Tryz.underlying48 rfl zbg) (by with_reducible assumption) ?_)
    | (refine wpAnyH_take (i:=1) (v:=.agg #[vI vU (wd X2 0),vI vU (wd X2 1),vI vU (wd X2 2),vI vU (wd X2 3),vI vU (wd Y2 0),vI vU (wd Y2 1),vI vU (wd Y2 2),vI vU (wd Y2 3),.bool false]) rfl (by kernel_rfl) (by kernel_rfl) (by decide +kernel) (fun _ _ _ h => h) (yieldsIf_load_mid (by rfl) _ _ rfl _ _ rfl _ _ (fun W hSw => hSw.2.2) Tryz.underlying48 rfl zbg) (by with_reducible assumption) ?_)
    | (refine wpAnyH_ready (rs:=[2]) (by decide +kernel) (by simp) ?_; refine AllReadyH.cons rfl (fun K hK => ?_) AllReadyH.nil; go_simp; (with_reducible refine (HN.out _).mono ?_); rintro e w1 ⟨rfl,hb⟩; have hb1:=hH.1.trans (hb.mono hH.1.size); clear hb; refine hK.out _ _ (SB.out _ hb1) (fun hH => ?_); clear hK K)
    | (refine wpAnyH_take (i:=3) (v:=.bool true) rfl (by kernel_rfl) (by kernel_rfl) (by decide +kernel) (fun _ _ _ h => h) (Or.inl ⟨by rfl,fun W hSw => (by dsimp only at hSw; go_simp)⟩) (by with_reducible assumption) ?_)
    | fail);
   try simp only [Act.put,List.setIfInBounds_toArray,List.set_cons_zero,List.set_cons_succ,List.getElem_toArray,List.getElem_cons_zero,List.getElem_cons_succ])
 refine wpAnyH_done (by decide +kernel) ?_ _
 have HR:=veil (blkOf (zab hR hb1 hR.lt))
 have hB1:=hB.trans (hb1.mono hB.size)
 clear hA hC hR hB kq fA fC hH
 go_wp2_with ((with_reducible refine zat ?_); refine wpList_store_row rfl 48 _ _ rfl (w.heap.size + 1 + 1) #[vI vU 0,vI vU 0,vI vU 0,vI vU 0,vI vU 0,vI vU 0,vI vU 0,vI vU 0,.bool true] rfl rfl 48 _ HR.out zbg (by rw [zbc]; rfl) (by simp [Value.oneCell']) ?_)
 exact bodyPost_ret (results_cell_row rfl _ _ (w.heap.size + 1 + 1) 48 #[vI vU 0,vI vU 0,vI vU 0,vI vU 0,vI vU 0,vI vU 0,vI vU 0,vI vU 0,.bool true] (0,0) _ rfl (setRow_heap w1 (w.heap.size + 1 + 1) _ #[vI vU 0,vI vU 0,vI vU 0,vI vU 0,vI vU 0,vI vU 0,vI vU 0,vI vU 0,.bool true] 48 (0,0) HR.out) Tryz.underlying48 rfl zbg) rfl ⟨rfl,zbw hB1 (by omega) _⟩
theorem far_pt : (.agg #[vI vU (wd 0 0),vI vU (wd 0 1),vI vU (wd 0 2),vI vU (wd 0 3),vI vU (wd 0 0),vI vU (wd 0 1),vI vU (wd 0 2),vI vU (wd 0 3),.bool (true)] : Value) = .agg #[vI vU 0,vI vU 0,vI vU 0,vI vU 0,vI vU 0,vI vU 0,vI vU 0,vI vU 0,.bool true]:=by simp only [wd_nil]
end Go.Proofs.YtedehdbajiaaiaaGreatDoor
