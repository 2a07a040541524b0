/-
  Of S4 V0 FMath FBase Mul64 MulMath Q11 Q13 Kp Made3 ArgB FrameN ArgD ArgU Rda.
-/
import Derived.Test.YtihophdbkjhopaaGreatDoorRows
import Derived.WalkKit
import Derived.WalkSpells
import Derived.WalkLawsBesides
import Derived.Deep.LoopGhost
import Derived.Deep.RegionWith
import Derived.Deep.RegionHeld3
import Derived.Deep.QuietTactic
import Derived.BigQuiet
import Derived.Deep.MidRow
import Derived.Lib.SmallJoins
import Derived.ChangeSlices
import Derived.Carry
import Derived.BigFrame
import Derived.ProofKit
import Derived.Laws.IdiomArrays
import Derived.OpenShut
import Derived.Test.YtihophdbkjhopaaGreatDoorZA11
import Derived.Test.YtihophdbkjhopaaGreatDoorZA1
import Derived.Test.YtihophdbkjhopaaGreatDoorZA5
import Derived.Test.YtihophdbkjhopaaGreatDoorZA10
import Derived.Test.YtihophdbkjhopaaGreatDoorZA2
import Derived.Test.YtihophdbkjhopaaGreatDoorZA3
import Derived.Test.YtihophdbkjhopaaGreatDoorZA8
import Derived.Test.YtihophdbkjhopaaGreatDoorZA7
set_option maxRecDepth 1000000
set_option maxHeartbeats 20000000
namespace Go.Proofs.YtihophdbkjhopaaGreatDoor
open Go.RowKit
open Go.Value renaming int → vI
open Go.IntKind renaming u64 → vU
open Go.Act renaming put → aP
open List renaming setIfInBounds_toArray → lA, set_cons_zero → lZ, set_cons_succ → lS
def pick (D E : Nat) : List Nat → Option (Nat × Nat)
 | [] => none
 | k :: l => if (mayB (Pt.rOf k) && mayB (Pt.sOf D E k)) = true then some (Pt.rOf k,Pt.sOf D E k) else pick D E l
def sigOf (D E : Nat) (xs : List Nat) : Option (Nat × Nat):=if xs.length < 16 then none else pick D E xs
theorem pick_yes {D E k : Nat} {l : List Nat} (h1 : mayB (Pt.rOf k) = true) (h2 : mayB (Pt.sOf D E k) = true) : pick D E (k :: l) = some (Pt.rOf k,Pt.sOf D E k):=by
 show (if _ then _ else _) = _
 rw [h1,h2]; rfl
theorem pick_no {D E k : Nat} {l : List Nat} (h : (mayB (Pt.rOf k) && mayB (Pt.sOf D E k)) = false) : pick D E (k :: l) = pick D E l:=by
 show (if _ then _ else _) = _
 rw [h]; rfl
def sgv : Option (Nat × Nat) → Value
 | none => gv 0 0
 | some (r,s) => gv r s
theorem OwnN.blk {w : World} {base : Nat} {v : Value} {xs : List Nat} (o : OwnN w base v xs) (hn : 0 < xs.length) : ∃ g cap cur,v = .slice (some ⟨g,0,none⟩) xs.length cap ∧ w.heap[g]? = some (.cells cur 29 (0,0)) ∧ ∀ i k,xs[i]? = some k → (cur.toList.drop (i * 4)).take 4 = (nc k).toList:=by
 rcases o.2 with ⟨_,h0⟩ | ⟨g,cap,cur,rfl,hbg,hh,hn,hm,hs,ht⟩
 ·
  omega
 ·
  refine ⟨g,cap,cur,rfl,hh,fun i k hk => ?_⟩
  have hi : i < xs.length:=(List.getElem?_eq_some_iff.1 hk).1
  have h1:=cellsN_at xs i k hk
  rw [← h1,← ht,List.drop_take,List.take_take,show min 4 (xs.length * 4 - i * 4) = 4 by omega]
theorem gc_zero : #[Value.int .u64 0,vI vU 0,vI vU 0,vI vU 0,vI vU 0,vI vU 0,vI vU 0,vI vU 0] = gc 0 0:=by
 unfold gc
 rw [zed,zed,zed,zed]
theorem drop_at {xs : List Nat} {i k : Nat} (h : xs[i]? = some k) : xs.drop i = k :: xs.drop (i + 1):=by
 obtain ⟨hi,rfl⟩:=List.getElem?_eq_some_iff.1 h
 exact List.drop_eq_getElem_cons hi
theorem rsign_calls (RS : RSum) (D : Nat) (hD : mayB D = true) (y : Nat → Nat) (hy : ∀ j,y j < 256) (w : World) :
  Calls Tryz.prog 35 #[nv D,dgv y] w fun e w' => ∃ s o,Ends D (num32 y % Pt.nn) 16 s ∧ sigOf D (num32 y) (outN D (num32 y % Pt.nn) s) = o ∧ e = .returned (.tuple #[sgv o,.bool o.isSome]) ∧ Ext w w':=by
 obtain ⟨E,hE⟩ : ∃ E,E = num32 y:=⟨_,rfl⟩
 obtain ⟨M,hM⟩ : ∃ M,M = num32 y % Pt.nn:=⟨_,rfl⟩
 have KL:=veil (fun W => rlist_calls RS D y hy 16 (by decide) W)
 have kM:=veil hM
 have kEE:=veil hE
 rw [← hM] at KL ⊢
 rw [← hE]
 have kD:=veil (Nat.lt_trans (zfr hD) zbn)
 have ky:=veil hy
 clear hD hy hM hE RS
 show Calls _ _ #[.agg (nc D),.agg (dgc y)] w _
 obtain ⟨C,hC⟩ : ∃ C,C = nc D:=⟨_,rfl⟩
 obtain ⟨F,hF⟩ : ∃ F,F = dgc y:=⟨_,rfl⟩
 rw [← hC,← hF]
 have HC:=veil hC
 have HF:=veil hF
 rw [show nv D = .agg C from by rw [hC]; rfl,show (Value.agg (arrOf 32 fun i => .int .u8 (y i : Nat))) = .agg F from by rw [hF]; rfl] at KL
 have KL2:=veil (fun W => show Calls Tryz.prog 67 #[.agg C,.agg F,.int .i64 16] W (fun e w' => ∃ s v,Ends D M 16 s ∧ e = .returned v ∧ OwnN w' W.heap.size v (outN D M s) ∧ Ext W w') from KL.out W)
 clear hC hF KL
 go_enter Tryz.func35,Tryz.ntmps35
 go_upto_region 1 with (fail)
 have hx:=Ext.alloc w (.cells C 29)
 have b0 : (w.alloc (.cells C 29)).heap[w.heap.size]? = some (.cells C 29 (0,0)):=heap_alloc_last w _
 have z1 : (w.alloc (.cells C 29)).heap.size = w.heap.size + 1:=by simp
 generalize w.alloc (.cells C 29) = w1 at *
 have hx2:=Ext.alloc w1 (.cells F 23)
 have b1 : (w1.alloc (.cells F 23)).heap[w.heap.size + 1]? = some (.cells F 23 (0,0)):=by rw [← z1]; exact heap_alloc_last w1 _
 have z2 : (w1.alloc (.cells F 23)).heap.size = w.heap.size + 1 + 1:=by simp [z1]
 replace b0:=hx2.block b0
 replace hx:=hx.trans hx2
 clear z1 hx2
 generalize w1.alloc (.cells F 23) = w2 at *
 rw [gc_zero]
 have hx3:=Ext.alloc w2 (.cells (gc 0 0) 46)
 have b2 : (w2.alloc (.cells (gc 0 0) 46)).heap[w.heap.size + 1 + 1]? = some (.cells (gc 0 0) 46 (0,0)):=by rw [← z2]; exact heap_alloc_last w2 _
 replace b0:=hx3.block b0
 replace b1:=hx3.block b1
 replace hx:=hx.trans hx3
 clear z2 hx3
 generalize w2.alloc (.cells (gc 0 0) 46) = w3 at *
 have H3:=veil (And.intro b0 (And.intro b1 (And.intro b2 hx)))
 clear b0 b1 b2 hx
 go_upto_region 2 with (first
  | (go_at_call 34; refine (nn_is _).mono ?_; rintro e w4 ⟨rfl,hE4⟩)
  | ((with_reducible refine zak ?_); refine wpList_store_row rfl 29 _ _ rfl w4.heap.size (nc Pt.nn) rfl rfl 29 _ (heap_alloc_last w4 _) (iN _) (by rfl) (zch _) ?_; rw [World.setRow_alloc_new]))
 have bN : (w4.alloc (.cells (nc Pt.nn) 29)).heap[w4.heap.size]? = some (.cells (nc Pt.nn) 29 (0,0)):=heap_alloc_last w4 _
 have hE5:=hE4.trans (Ext.alloc w4 (.cells (nc Pt.nn) 29))
 generalize w4.alloc (.cells (nc Pt.nn) 29) = w5 at *
 generalize w4.heap.size = gN at *
 have H5:=veil (And.intro (hE5.block H3.out.1) (And.intro (hE5.block H3.out.2.1) (And.intro (hE5.block H3.out.2.2.1) (And.intro bN (H3.out.2.2.2.trans hE5)))))
 clear bN hE4 hE5 H3
 go_upto_region 3 with (first
  | ((with_reducible refine zac 17 ?_); refine wpList_load_row rfl 29 _ rfl w.heap.size rfl 29 C (0,0) _ H5.out.1 Tryz.underlying29 rfl (by rw [HC.out]; exact iN D) ?_)
  | ((with_reducible refine zac 18 ?_); refine wpList_load_row rfl 23 _ rfl (w.heap.size + 1) rfl 23 F (0,0) _ H5.out.2.1 Tryz.underlying23 rfl (by rw [HF.out]; exact iDg y) ?_)
  | (go_at_call 67; refine (KL2.out _).mono ?_; rintro e w6 ⟨s',v,hEn,rfl,hO,hE6⟩))
 obtain ⟨b0,b1,b2,bN,hx⟩:=H5.out
 replace b0:=hE6.block b0
 replace b1:=hE6.block b1
 replace b2:=hE6.block b2
 replace bN:=hE6.block bN
 replace hx:=hx.trans hE6
 rw [HC.out] at b0
 rw [HF.out] at b1
 clear hE6 H5 KL2
 obtain ⟨xs,hxs⟩ : ∃ xs,xs = outN D M s':=⟨_,rfl⟩
 have hmx : ∀ k ∈ xs,mayB k = true:=fun k hk => by rw [hxs] at hk; exact (zkm D M s' k hk).1
 have kxs:=veil hxs
 have kE:=veil hEn
 rw [← hxs] at hO
 clear hxs hEn
 obtain ⟨n,hn⟩ : ∃ n,n = xs.length:=⟨_,rfl⟩
 by_cases h16 : n < 16
 ·
  obtain ⟨A,c,rfl,_⟩:=hO.form
  rw [← hn]
  have hd : decide ((n : Int) < 16) = true:=by simp; omega
  have hd2 : decide (n < 16) = true:=decide_eq_true h16
  have ks:=veil (show sigOf D E xs = none from if_pos (by rw [← hn]; exact h16))
  clear hO hmx hn
  go_wp2_with ((with_reducible refine zak ?_); rw [gc_zero]; refine wpList_store_row rfl 46 _ _ rfl (w.heap.size + 1 + 1) (gc 0 0) rfl rfl 46 _ b2 (iSg _ _) rfl (zci _ _) ?_)
  exact bodyPost_ret (zay rfl _ _ (w.heap.size + 1 + 1) 46 (gc 0 0) (0,0) _ rfl (setRow_heap w6 _ _ (gc 0 0) 46 (0,0) b2) Tryz.underlying46 rfl (iSg _ _)) rfl ⟨s',none,kE.out,by rw [← kxs.out]; exact ks.out,rfl,zas hx (by omega) _⟩
 ·
  obtain ⟨gL,cap,cur,rfl,bL,hcs⟩:=hO.blk (by omega)
  rw [← hn]
  have hd : decide ((n : Int) < 16) = false:=by simp; omega
  have hd2 : decide (n < 16) = false:=decide_eq_false h16
  have kCS:=veil (And.intro hcs (And.intro hmx (And.intro hn (show sigOf D E xs = pick D E xs from if_neg (by rw [← hn]; exact h16)))))
  have kX:=veil hx
  clear hO hmx hcs hn hx
  go_upto_region 6 with (fail)
  clear hd hd2
  go_loopw [8] (fun v wr => ∃ i : Nat,i ≤ n ∧ v = .int .i64 (i : Int) ∧ pick D E xs = pick D E (xs.drop i) ∧ Ext w6 wr)
   (fun v _ => n - (intOf v).toNat)
  case atStart => exact ⟨0,by omega,rfl,rfl,Ext.refl _⟩
  case round =>
   obtain ⟨i,hi,rfl,hpk,hx⟩:=hrel
   replace b0:=hx.block b0
   replace b1:=hx.block b1
   replace b2:=hx.block b2
   replace bN:=hx.block bN
   replace bL:=hx.block bL
   by_cases hlt : i < n
   ·
    have hn100 : n ≤ 100:=by have:=kE.out.most; have h1:=kCS.out.2.2.1; rw [kxs.out] at h1; omega
    obtain ⟨K,hK⟩ : ∃ K,xs[i]? = some K:=⟨_,List.getElem?_eq_getElem (by rw [← kCS.out.2.2.1]; exact hlt)⟩
    have hmK:=kCS.out.2.1 K (List.mem_of_getElem? hK)
    have kK:=veil (And.intro (may_ne hmK) (zfr hmK))
    have kil:=veil hlt
    have kcs:=veil (kCS.out.1 i K hK)
    have kdrop:=veil (drop_at hK)
    have kpick:=veil hpk
    obtain ⟨P,hP⟩ : ∃ P,P = Pt.grp.mul K Pt.base:=⟨_,rfl⟩
    obtain ⟨r,hr⟩ : ∃ r,r = Pt.pX P.1 % Pt.nn:=⟨_,rfl⟩
    obtain ⟨t,ht⟩ : ∃ t,t = Pt.iG Pt.nn K:=⟨_,rfl⟩
    obtain ⟨u,hu⟩ : ∃ u,u = r * D % Pt.nn:=⟨_,rfl⟩
    obtain ⟨v,hv⟩ : ∃ v,v = (M + u) % Pt.nn:=⟨_,rfl⟩
    obtain ⟨s,hs⟩ : ∃ s,s = t * v % Pt.nn:=⟨_,rfl⟩
    have kr1:=veil (show r = Pt.rOf K from by rw [hr,hP]; rfl)
    have ks1:=veil (show s = Pt.sOf D E K from by
     unfold Pt.sOf
     rw [hs,hv,hu,ht,← kr1.out,kM.out,kEE.out])
    have kP:=veil hP
    have kr:=veil hr
    have kt:=veil ht
    have ku:=veil hu
    have kv:=veil hv
    have ks:=veil hs
    have hI : (i : Int) < (n : Int):=by omega
    clear hs hv hu ht hr hP hpk hmK hK
    go_upto_region 8 with (fail)
    refine' zjx (m:=6) (A:=_) 7 (by kernel_rfl) (by kernel_rfl) (by kernel_rfl) ?h1 ?h2
    case h1 =>
     refine zaa (.slice (some ⟨gL,0,none⟩) n cap) rfl (zaf (.inl rfl) rfl) ?_
     refine zaa (.int .i64 (i : Int)) rfl (zaf (.inl rfl) rfl) ?_;simp only [aP,lA,lZ,lS]
     refine zaa (.pointer (some ⟨gL,i * 4,none⟩)) rfl (zjn (sz:=4) rfl rfl rfl kil.out Tryz.underlying101 infoN4) ?_
     refine zaa (nv K) rfl (zag (cs:=(nc K).toList) rfl rfl bL kcs.out uN rfl (iN K)) ?_;simp only [aP,lA,lZ,lS]
     refine zaa (qv Pt.gx Pt.gy false) rfl (zam (args:=[]) rfl rfl (fun W => zab Tryz.func49 rfl rfl _ W) (fun W hW => rbase_is W)) ?_
     refine zaa (qv (Pt.pX P.1) (Pt.pY P.1) (Pt.pFar P.1)) rfl (zam (args:=[nv K,qv Pt.gx Pt.gy false]) rfl rfl (fun W => zab Tryz.func46 rfl rfl _ W) (fun W hW => rmulb_is (Nat.lt_trans kK.out.2 zbn) kP.out W)) ?_;simp only [aP,lA,lZ,lS]
     exact zax
    refine rest_var _ _ rfl rfl rfl rfl rfl rfl rfl rfl rfl (by kernel_rfl) (by kernel_rfl) (by kernel_rfl) rfl rfl (hzT ·) (fun _ => rfl) (fun _ => rfl) (iT _ _ _) rfl (qc_one _ _ _) ?_
    intro gp w2 hgp bp hE
    refine NoPanic.normal ?_
    replace b0:=hE.block b0
    replace b1:=hE.block b1
    replace b2:=hE.block b2
    replace bN:=hE.block bN
    replace bL:=hE.block bL
    replace hx:=hx.trans hE
    clear hE
    simp only [aP,lA,lZ,lS]
    clear hgp
    go_upto_region 9 with (fail)
    refine' zbd (m:=4) (A:=_) (by kernel_rfl) ?h2a ?h2b
    case h2a =>
     refine zaa (ptrTo gp) rfl (zcd rfl rfl (fldT0 _ ·)) ?_
     refine zaa (nv (Pt.pX P.1)) rfl (zag rfl rfl bp rfl uN rfl (iN _)) ?_;simp only [aP,lA,lZ,lS]
     refine zaa (nv Pt.nn) rfl (zag rfl rfl bN rfl uN rfl (iN _)) ?_
     refine zaa (nv r) rfl (zam (args:=[nv (Pt.pX P.1),nv Pt.nn]) rfl rfl (fun W => zab Tryz.func51 rfl rfl _ W) (fun W hW => rinn_is kr.out (p_top _).1 W)) ?_;simp only [aP,lA,lZ,lS]
     exact zax
    refine prest_var _ _ rfl rfl rfl rfl rfl rfl rfl (hzN ·) (fun _ => rfl) (fun _ => rfl) (iN _) rfl (zch _) ?_
    intro gr w3 hgr br hE
    replace b0:=hE.block b0
    replace b1:=hE.block b1
    replace b2:=hE.block b2
    replace bN:=hE.block bN
    replace bL:=hE.block bL
    replace hx:=hx.trans hE
    clear hE
    simp only [aP,lA,lZ,lS]
    clear hgr
    go_upto_region 10 with (fail)
    refine' zjx (m:=8) (A:=_) 10 (by kernel_rfl) (by kernel_rfl) (by kernel_rfl) ?h3a ?h3b
    case h3a =>
     refine zaa (.slice (some ⟨gL,0,none⟩) n cap) rfl (zaf (.inl rfl) rfl) ?_
     refine zaa (.int .i64 (i : Int)) rfl (zaf (.inl rfl) rfl) ?_;simp only [aP,lA,lZ,lS]
     refine zaa (.pointer (some ⟨gL,i * 4,none⟩)) rfl (zjn (sz:=4) rfl rfl rfl kil.out Tryz.underlying101 infoN4) ?_
     refine zaa (nv K) rfl (zag (cs:=(nc K).toList) rfl rfl bL kcs.out uN rfl (iN K)) ?_;simp only [aP,lA,lZ,lS]
     refine zaa (nv Pt.nn) rfl (zag rfl rfl bN rfl uN rfl (iN _)) ?_
     refine zaa (.tuple #[nv t,.bool true]) rfl (zam (args:=[nv K,nv Pt.nn]) rfl rfl (fun W => zab Tryz.func45 rfl rfl _ W) (fun W hW => rinvn_is kK.out.1 kK.out.2 kt.out W)) ?_;simp only [aP,lA,lZ,lS]
     refine zaa (.tuple #[nv t,.bool true]) rfl (zaf (.inl rfl) rfl) ?_
     refine zaa (nv t) rfl (zcb rfl rfl rfl) ?_;simp only [aP,lA,lZ,lS]
     exact zax
    refine rest_var2 (v:=.bool true) (vx:=.bool true) _ _ _ _ rfl rfl rfl rfl rfl rfl rfl rfl rfl rfl rfl rfl rfl rfl rfl rfl (by decide) (by kernel_rfl) (by kernel_rfl) (by kernel_rfl) (by kernel_rfl) (by kernel_rfl) (by kernel_rfl) (by kernel_rfl) rfl rfl rfl rfl rfl rfl (hzN ·) (run_ext rfl rfl rfl) (fun _ => run_ext rfl rfl rfl) (fun _ => rfl) (fun _ => rfl) (fun _ => rfl) (fun _ => rfl) (fun _ => rfl) (iN _) rfl (zch _) ?_
    intro gt w4 hgt bt hE
    refine NoPanic.normal ?_
    replace b0:=hE.block b0
    replace b1:=hE.block b1
    replace b2:=hE.block b2
    replace bN:=hE.block bN
    replace br:=hE.block br
    replace hx:=hx.trans hE
    clear hE
    simp only [aP,lA,lZ,lS]
    clear hgt
    go_upto_region 11 with (fail)
    refine' zjx (m:=9) (A:=_) 10 (by kernel_rfl) (by kernel_rfl) (by kernel_rfl) ?h4a ?h4b
    case h4a =>
     refine zaa (nv t) rfl (zag rfl rfl bt rfl uN rfl (iN _)) ?_
     refine zaa (dgv y) rfl (zag rfl rfl b1 rfl Tryz.underlying23 rfl (iDg _)) ?_;simp only [aP,lA,lZ,lS]
     refine zaa (nv M) rfl (zam (args:=[dgv y]) rfl rfl (fun W => zab Tryz.func48 rfl rfl _ W) (fun W hW => vnum_calls y ky.out rfl kM.out W)) ?_
     refine zaa (nv r) rfl (zag rfl rfl br rfl uN rfl (iN _)) ?_;simp only [aP,lA,lZ,lS]
     refine zaa (nv D) rfl (zag rfl rfl b0 rfl uN rfl (iN _)) ?_
     refine zaa (nv u) rfl (zam (args:=[nv r,nv D]) rfl rfl (fun W => zab Tryz.func47 rfl rfl _ W) (fun W hW => vmul_calls ku.out (mod_nn kr.out) kD.out W)) ?_;simp only [aP,lA,lZ,lS]
     refine zaa (nv Pt.nn) rfl (zag rfl rfl bN rfl uN rfl (iN _)) ?_
     refine zaa (nv v) rfl (zam (args:=[nv M,nv u,nv Pt.nn]) rfl rfl (fun W => zab Tryz.func68 rfl rfl _ W) (fun W hW => raddn_is kv.out (mod_nn kM.out) (mod_nn ku.out) W)) ?_;simp only [aP,lA,lZ,lS]
     refine zaa (nv s) rfl (zam (args:=[nv t,nv v]) rfl rfl (fun W => zab Tryz.func47 rfl rfl _ W) (fun W hW => vmul_calls ks.out (inv_nn kt.out) (zbv kv.out) W)) ?_;simp only [aP,lA,lZ,lS]
     exact zax
    refine rest_var _ _ rfl rfl rfl rfl rfl rfl rfl rfl rfl (by kernel_rfl) (by kernel_rfl) (by kernel_rfl) rfl rfl (hzN ·) (fun _ => rfl) (fun _ => rfl) (iN _) rfl (zch _) ?_
    intro gs w5 hgs bs hE
    refine NoPanic.normal ?_
    replace b2:=hE.block b2
    replace br:=hE.block br
    replace hx:=hx.trans hE
    clear hE
    simp only [aP,lA,lZ,lS]
    clear hgs
    go_upto_region 12 with (fail)
    cases hmr : mayB r with
    | false =>
     cases hms : mayB s with
     | false =>
      have kmr:=veil hmr
      have kms:=veil hms
      clear hmr hms
      refine' zbd (m:=3) (A:=_) (by kernel_rfl) ?h5a ?h5b
      case h5a =>
       refine zaa (nv r) rfl (zag rfl rfl br rfl uN rfl (iN _)) ?_
       refine zaa (.bool false) rfl (zam (args:=[nv r]) rfl rfl (fun W => zab Tryz.func13 rfl rfl _ W) (fun W hW => zfi kmr.out (zbv kr.out) W)) ?_;simp only [aP,lA,lZ,lS]
       refine zaa (.bool false) rfl (zaf (.inr rfl) rfl) ?_;simp only [aP,lA,lZ,lS]
       exact zax
      refine zbi rfl ?_
      intro w6 hE
      replace b2:=hE.block b2
      replace br:=hE.block br
      replace bs:=hE.block bs
      replace hx:=hx.trans hE
      clear hE
      go_upto_region 13 with (fail)
      refine' zbd (m:=3) (A:=_) (by kernel_rfl) ?h6a ?h6b
      case h6a =>
       refine zaa (nv s) rfl (zag rfl rfl bs rfl uN rfl (iN _)) ?_
       refine zaa (.bool false) rfl (zam (args:=[nv s]) rfl rfl (fun W => zab Tryz.func13 rfl rfl _ W) (fun W hW => zfi kms.out (zbv ks.out) W)) ?_;simp only [aP,lA,lZ,lS]
       refine zaa (.bool false) rfl (zaf (.inr rfl) rfl) ?_;simp only [aP,lA,lZ,lS]
       exact zax
      refine zbi rfl ?_
      intro w7 hE
      replace b2:=hE.block b2
      replace br:=hE.block br
      replace bs:=hE.block bs
      replace hx:=hx.trans hE
      clear hE
      go_upto_region 14 with (fail)
      refine' zie (m:=4) (A:=_) ?h7a ?h7b
      case h7a =>
       refine zaa (.bool false) rfl (zaf (.inl rfl) rfl) ?_
       refine zaa (.bool false) rfl (zaf (.inl rfl) rfl) ?_;simp only [aP,lA,lZ,lS]
       refine zdv rfl ?_
       refine zaa (.bool false) rfl (zbw rfl rfl rfl) ?_;simp only [aP,lA,lZ,lS]
       exact zax
      refine zbi rfl ?_
      intro w8 hE
      replace b2:=hE.block b2
      replace br:=hE.block br
      replace bs:=hE.block bs
      replace hx:=hx.trans hE
      clear hE
      go_wp2
      go_roundw
      case rel =>
       exact ⟨i + 1,by omega,by go_num,by rw [kpick.out,kdrop.out,pick_no (by rw [← kr1.out,← ks1.out,kmr.out,kms.out]; rfl)],hx⟩
      case measure => simp [intOf]; omega
     | true =>
      have kmr:=veil hmr
      have kms:=veil hms
      clear hmr hms
      refine' zbd (m:=3) (A:=_) (by kernel_rfl) ?h8a ?h8b
      case h8a =>
       refine zaa (nv r) rfl (zag rfl rfl br rfl uN rfl (iN _)) ?_
       refine zaa (.bool false) rfl (zam (args:=[nv r]) rfl rfl (fun W => zab Tryz.func13 rfl rfl _ W) (fun W hW => zfi kmr.out (zbv kr.out) W)) ?_;simp only [aP,lA,lZ,lS]
       refine zaa (.bool false) rfl (zaf (.inr rfl) rfl) ?_;simp only [aP,lA,lZ,lS]
       exact zax
      refine zbi rfl ?_
      intro w6 hE
      replace b2:=hE.block b2
      replace br:=hE.block br
      replace bs:=hE.block bs
      replace hx:=hx.trans hE
      clear hE
      go_upto_region 13 with (fail)
      refine' zbd (m:=3) (A:=_) (by kernel_rfl) ?h9a ?h9b
      case h9a =>
       refine zaa (nv s) rfl (zag rfl rfl bs rfl uN rfl (iN _)) ?_
       refine zaa (.bool true) rfl (zam (args:=[nv s]) rfl rfl (fun W => zab Tryz.func13 rfl rfl _ W) (fun W hW => zfi kms.out (zbv ks.out) W)) ?_;simp only [aP,lA,lZ,lS]
       refine zaa (.bool true) rfl (zaf (.inr rfl) rfl) ?_;simp only [aP,lA,lZ,lS]
       exact zax
      refine zbi rfl ?_
      intro w7 hE
      replace b2:=hE.block b2
      replace br:=hE.block br
      replace bs:=hE.block bs
      replace hx:=hx.trans hE
      clear hE
      go_upto_region 14 with (fail)
      refine' zie (m:=4) (A:=_) ?h10a ?h10b
      case h10a =>
       refine zaa (.bool false) rfl (zaf (.inl rfl) rfl) ?_
       refine zaa (.bool false) rfl (zaf (.inl rfl) rfl) ?_;simp only [aP,lA,lZ,lS]
       refine zdv rfl ?_
       refine zaa (.bool false) rfl (zbw rfl rfl rfl) ?_;simp only [aP,lA,lZ,lS]
       exact zax
      refine zbi rfl ?_
      intro w8 hE
      replace b2:=hE.block b2
      replace br:=hE.block br
      replace bs:=hE.block bs
      replace hx:=hx.trans hE
      clear hE
      go_wp2
      go_roundw
      case rel =>
       exact ⟨i + 1,by omega,by go_num,by rw [kpick.out,kdrop.out,pick_no (by rw [← kr1.out,← ks1.out,kmr.out,kms.out]; rfl)],hx⟩
      case measure => simp [intOf]; omega
    | true =>
     cases hms : mayB s with
     | false =>
      have kmr:=veil hmr
      have kms:=veil hms
      clear hmr hms
      refine' zbd (m:=3) (A:=_) (by kernel_rfl) ?h11a ?h11b
      case h11a =>
       refine zaa (nv r) rfl (zag rfl rfl br rfl uN rfl (iN _)) ?_
       refine zaa (.bool true) rfl (zam (args:=[nv r]) rfl rfl (fun W => zab Tryz.func13 rfl rfl _ W) (fun W hW => zfi kmr.out (zbv kr.out) W)) ?_;simp only [aP,lA,lZ,lS]
       refine zaa (.bool true) rfl (zaf (.inr rfl) rfl) ?_;simp only [aP,lA,lZ,lS]
       exact zax
      refine zbi rfl ?_
      intro w6 hE
      replace b2:=hE.block b2
      replace br:=hE.block br
      replace bs:=hE.block bs
      replace hx:=hx.trans hE
      clear hE
      go_upto_region 13 with (fail)
      refine' zbd (m:=3) (A:=_) (by kernel_rfl) ?h12a ?h12b
      case h12a =>
       refine zaa (nv s) rfl (zag rfl rfl bs rfl uN rfl (iN _)) ?_
       refine zaa (.bool false) rfl (zam (args:=[nv s]) rfl rfl (fun W => zab Tryz.func13 rfl rfl _ W) (fun W hW => zfi kms.out (zbv ks.out) W)) ?_;simp only [aP,lA,lZ,lS]
       refine zaa (.bool false) rfl (zaf (.inr rfl) rfl) ?_;simp only [aP,lA,lZ,lS]
       exact zax
      refine zbi rfl ?_
      intro w7 hE
      replace b2:=hE.block b2
      replace br:=hE.block br
      replace bs:=hE.block bs
      replace hx:=hx.trans hE
      clear hE
      go_upto_region 14 with (fail)
      refine' zie (m:=4) (A:=_) ?h13a ?h13b
      case h13a =>
       refine zaa (.bool true) rfl (zaf (.inl rfl) rfl) ?_
       refine zaa (.bool true) rfl (zaf (.inl rfl) rfl) ?_;simp only [aP,lA,lZ,lS]
       refine zbf (.bool false) rfl (zaf (.inl rfl) rfl) ?_
       refine zaa (.bool false) rfl (zbw rfl rfl rfl) ?_;simp only [aP,lA,lZ,lS]
       exact zax
      refine zbi rfl ?_
      intro w8 hE
      replace b2:=hE.block b2
      replace br:=hE.block br
      replace bs:=hE.block bs
      replace hx:=hx.trans hE
      clear hE
      go_wp2
      go_roundw
      case rel =>
       exact ⟨i + 1,by omega,by go_num,by rw [kpick.out,kdrop.out,pick_no (by rw [← kr1.out,← ks1.out,kmr.out,kms.out]; rfl)],hx⟩
      case measure => simp [intOf]; omega
     | true =>
      have kmr:=veil hmr
      have kms:=veil hms
      clear hmr hms
      refine' zbd (m:=3) (A:=_) (by kernel_rfl) ?h14a ?h14b
      case h14a =>
       refine zaa (nv r) rfl (zag rfl rfl br rfl uN rfl (iN _)) ?_
       refine zaa (.bool true) rfl (zam (args:=[nv r]) rfl rfl (fun W => zab Tryz.func13 rfl rfl _ W) (fun W hW => zfi kmr.out (zbv kr.out) W)) ?_;simp only [aP,lA,lZ,lS]
       refine zaa (.bool true) rfl (zaf (.inr rfl) rfl) ?_;simp only [aP,lA,lZ,lS]
       exact zax
      refine zbi rfl ?_
      intro w6 hE
      replace b2:=hE.block b2
      replace br:=hE.block br
      replace bs:=hE.block bs
      replace hx:=hx.trans hE
      clear hE
      go_upto_region 13 with (fail)
      refine' zbd (m:=3) (A:=_) (by kernel_rfl) ?h15a ?h15b
      case h15a =>
       refine zaa (nv s) rfl (zag rfl rfl bs rfl uN rfl (iN _)) ?_
       refine zaa (.bool true) rfl (zam (args:=[nv s]) rfl rfl (fun W => zab Tryz.func13 rfl rfl _ W) (fun W hW => zfi kms.out (zbv ks.out) W)) ?_;simp only [aP,lA,lZ,lS]
       refine zaa (.bool true) rfl (zaf (.inr rfl) rfl) ?_;simp only [aP,lA,lZ,lS]
       exact zax
      refine zbi rfl ?_
      intro w7 hE
      replace b2:=hE.block b2
      replace br:=hE.block br
      replace bs:=hE.block bs
      replace hx:=hx.trans hE
      clear hE
      go_upto_region 14 with (fail)
      refine' zie (m:=4) (A:=_) ?h16a ?h16b
      case h16a =>
       refine zaa (.bool true) rfl (zaf (.inl rfl) rfl) ?_
       refine zaa (.bool true) rfl (zaf (.inl rfl) rfl) ?_;simp only [aP,lA,lZ,lS]
       refine zbf (.bool true) rfl (zaf (.inl rfl) rfl) ?_
       refine zaa (.bool true) rfl (zbw rfl rfl rfl) ?_;simp only [aP,lA,lZ,lS]
       exact zax
      refine zbi rfl ?_
      intro w8 hE
      replace b2:=hE.block b2
      replace br:=hE.block br
      replace bs:=hE.block bs
      replace hx:=hx.trans hE
      clear hE
      go_upto_region 15 with (fail)
      refine' zbd (m:=3) (A:=_) (by kernel_rfl) ?h17a ?h17b
      case h17a =>
       refine zaa (nv r) rfl (zag rfl rfl br rfl uN rfl (iN _)) ?_
       refine zaa (nv s) rfl (zag rfl rfl bs rfl uN rfl (iN _)) ?_;simp only [aP,lA,lZ,lS]
       refine zaa (gv r s) rfl (zcj (vs:=[(0,nv r),(1,nv s)]) rfl rfl (fun W => bldG W _ _)) ?_;simp only [aP,lA,lZ,lS]
       exact zax
      refine zeh _ rfl rfl rfl rfl rfl rfl b2 (iSg _ _) rfl (zci _ _) ?_
      intro w9 hB hb
      go_wp2
      refine bodyPost_ret (zay rfl _ _ (w.heap.size + 1 + 1) 46 (gc r s) (0,0) _ rfl hb Tryz.underlying46 rfl (iSg _ _)) rfl ⟨s',some (r,s),kE.out,?_,rfl,(kX.out.trans hx).new hB (by omega)⟩
      rw [← kxs.out,kCS.out.2.2.2,kpick.out,kdrop.out,pick_yes (by rw [← kr1.out]; exact kmr.out) (by rw [← ks1.out]; exact kms.out),← kr1.out,← ks1.out]
   ·
    obtain rfl : i = n:=by omega
    have kn:=veil (show sigOf D E xs = none from by
     rw [kCS.out.2.2.2,hpk,List.drop_eq_nil_of_le (by rw [← kCS.out.2.2.1]; exact Nat.le_refl _)]; rfl)
    clear hpk hi hlt
    go_wp2_with ((with_reducible refine zak ?_); rw [gc_zero]; refine wpList_store_row rfl 46 _ _ rfl (w.heap.size + 1 + 1) (gc 0 0) rfl rfl 46 _ b2 (iSg _ _) rfl (zci _ _) ?_)
    exact bodyPost_ret (zay rfl _ _ (w.heap.size + 1 + 1) 46 (gc 0 0) (0,0) _ rfl (setRow_heap wr _ _ (gc 0 0) 46 (0,0) b2) Tryz.underlying46 rfl (iSg _ _)) rfl ⟨s',none,kE.out,by rw [← kxs.out]; exact kn.out,rfl,zas (kX.out.trans hx) (by omega) _⟩
section
variable {P : Program} {o : Oper} {a : Act} {w : World}
end
theorem sig_top {D E r s : Nat} {l : List Nat} (h : pick D E l = some (r,s)) : r < top ∧ s < top:=by
 induction l with
 | nil => cases h
 | cons k l ih =>
  unfold pick at h
  split at h
  ·
   injection h with h
   injection h with h1 h2
   rename_i hc
   simp only [Bool.and_eq_true] at hc
   rw [← h1,← h2]
   exact ⟨Nat.lt_trans (zfr hc.1) zbn,Nat.lt_trans (zfr hc.2) zbn⟩
  ·
   exact ih h
theorem sigOf_top {D E r s : Nat} {l : List Nat} (h : sigOf D E l = some (r,s)) : r < top ∧ s < top:=by
 unfold sigOf at h
 split at h
 ·
  cases h
 ·
  exact sig_top h
end Go.Proofs.YtihophdbkjhopaaGreatDoor
namespace Go.Proofs.YtihophdbkjhopaaGreatDoor
def top8 : Nat:=w64 ^ 8
theorem zkc : top8 = top * top:=by unfold top8 top; rw [← Nat.pow_add]
theorem zka : w64 = 18446744073709551616:=rfl
theorem div_succ' (B n i : Nat) : n / B ^ (i + 1) = n / B ^ i / B:=by rw [Nat.pow_succ,Nat.div_div_eq_div_mul]
theorem setw {B : Nat} (hB : 0 < B) (Z k n v : Nat) (hk : k < n) (hZ : Z < B ^ n) (hv : v < B) :
  ∃ Z',Z' < B ^ n ∧ (∀ m,dg B Z' m = if m = k then v else dg B Z m) ∧ Z' + B ^ k * dg B Z k = Z + B ^ k * v:=by
 have hP : 0 < B ^ k:=Nat.pow_pos hB
 have e1 : B ^ k * (Z / B ^ k) + Z % B ^ k = Z:=Nat.div_add_mod _ _
 have e2 : B * (Z / B ^ k / B) + Z / B ^ k % B = Z / B ^ k:=Nat.div_add_mod _ _
 have hr:=Nat.mod_lt Z hP
 have hq : Z / B ^ k / B < B ^ (n - (k + 1)):=by
  rw [← div_succ',Nat.div_lt_iff_lt_mul (Nat.pow_pos hB),← Nat.pow_add,show n - (k + 1) + (k + 1) = n by omega]; exact hZ
 have hn : B ^ n = B ^ k * (B * B ^ (n - (k + 1))):=by
  rw [← Nat.mul_assoc,← Nat.pow_succ,← Nat.pow_add]; congr 1; omega
 have hd : dg B Z k = Z / B ^ k % B:=rfl
 have hdm : ∀ j,dg B Z (k + 1 + j) = Z / B ^ k / B / B ^ j % B:=by
  intro j; unfold dg; rw [Nat.pow_add,← Nat.div_div_eq_div_mul,div_succ']
 have hlo : ∀ j,j < k → dg B Z j = dg B (Z % B ^ k) j:=fun j hj => (zcr Z k j hj).symm
 rw [hd,hn]
 clear hd hn hZ
 generalize Z / B ^ k / B = q at *
 generalize Z / B ^ k % B = d at *
 generalize Z / B ^ k = a at *
 generalize Z % B ^ k = r at *
 have hz : r + B ^ k * (v + B * q) = r + B ^ k * v + B ^ k * (B * q):=by rw [Nat.mul_add,Nat.add_assoc]
 refine ⟨r + B ^ k * (v + B * q),?_,?_,?_⟩
 ·
  have : v + B * q + 1 ≤ B * B ^ (n - (k + 1)):=by
   have : B * (q + 1) ≤ B * B ^ (n - (k + 1)):=Nat.mul_le_mul_left _ hq
   rw [Nat.mul_add] at this; omega
  have:=Nat.mul_le_mul_left (B ^ k) this
  rw [Nat.mul_add] at this; omega
 ·
  have hdiv : (r + B ^ k * (v + B * q)) / B ^ k = v + B * q:=by
   rw [Nat.add_mul_div_left _ _ hP,Nat.div_eq_of_lt hr,Nat.zero_add]
  intro m
  by_cases h : m = k
  ·
   rw [if_pos h,h]
   unfold dg
   rw [hdiv,Nat.add_mul_mod_self_left,Nat.mod_eq_of_lt hv]
  ·
   rw [if_neg h]
   by_cases hlt : m < k
   ·
    rw [← zcr _ k m hlt,Nat.add_mul_mod_self_left,Nat.mod_eq_of_lt hr,hlo m hlt]
   ·
    obtain ⟨j,rfl⟩ : ∃ j,m = k + 1 + j:=⟨m - (k + 1),by omega⟩
    rw [hdm]
    unfold dg
    rw [Nat.pow_add,← Nat.div_div_eq_div_mul,div_succ',hdiv,Nat.add_mul_div_left _ _ hB,Nat.div_eq_of_lt hv,Nat.zero_add]
 ·
  rw [hz,← e1,← e2,Nat.mul_add]
  omega
theorem setwd (Z k : Nat) (v : Int) (hk : k < 8) (hZ : Z < top8) (h0 : 0 ≤ v) (h1 : v ≤ 18446744073709551615) :
  ∃ Z',Z' < top8 ∧ (∀ m,wd Z' m = if m = k then v else wd Z m) ∧ Z' + w64 ^ k * dg w64 Z k = Z + w64 ^ k * v.toNat:=by
 obtain ⟨Z',a,b,c⟩:=setw zaq Z k 8 v.toNat hk hZ (by unfold w64; omega)
 refine ⟨Z',a,fun m => ?_,c⟩
 unfold wd
 rw [b m]
 split
 ·
  omega
 ·
  rfl
theorem col_step {B Z Z' Z0 t m c c' x i j M : Nat} (hM : m = dg B M j) (e : Z + c * B ^ (i + j) = Z0 + t * (M % B ^ j) * B ^ i)
  (hx : x + B * c' = t * m + c + dg B Z (i + j)) (hZ : Z' + B ^ (i + j) * dg B Z (i + j) = Z + B ^ (i + j) * x) :
  Z' + c' * B ^ (i + (j + 1)) = Z0 + t * (M % B ^ (j + 1)) * B ^ i:=by
 rw [zca,← hM,← Nat.add_assoc i j 1,Nat.pow_succ B (i + j)]
 have h1 : t * (M % B ^ j + B ^ j * m) * B ^ i = t * (M % B ^ j) * B ^ i + B ^ (i + j) * (t * m):=by
  rw [Nat.mul_add,Nat.add_mul,Nat.pow_add]
  congr 1
  rw [Nat.mul_left_comm t,Nat.mul_comm (B ^ i),Nat.mul_comm (B ^ j * B ^ i),Nat.mul_comm (B ^ j),Nat.mul_assoc]
 have h2:=congrArg (fun z => B ^ (i + j) * z) hx
 simp only [Nat.mul_add] at h2
 rw [h1]
 have h3 : c' * (B ^ (i + j) * B) = B ^ (i + j) * (B * c'):=by rw [Nat.mul_comm c',Nat.mul_assoc]
 rw [h3]
 rw [Nat.mul_comm c] at e
 generalize B ^ (i + j) * (B * c') = p1 at *
 generalize B ^ (i + j) * (t * m) = p2 at *
 generalize B ^ (i + j) * c = p3 at *
 generalize B ^ (i + j) * dg B Z (i + j) = p4 at *
 generalize B ^ (i + j) * x = p5 at *
 omega
theorem low_dvd {B Z : Nat} {k : Nat} (h : Z % B ^ k = 0) : Z = B ^ k * (Z / B ^ k):=by
 have:=Nat.div_add_mod Z (B ^ k); omega
theorem row_done {B X M Z Z1 Z2 T t c o o' x k : Nat} (hlow : Z % B ^ k = 0) (hT : T < B ^ k) (ht : t < B) (hM : M < B ^ 4) (e : Z + o * B ^ (k + 4) = X + T * M)
  (ht0 : (dg B Z k + t * dg B M 0) % B = 0) (h1 : Z1 + c * B ^ (k + 4) = Z + t * (M % B ^ 4) * B ^ k) (hx : x + B * o' = dg B Z1 (k + 4) + c + o)
  (h2 : Z2 + B ^ (k + 4) * dg B Z1 (k + 4) = Z1 + B ^ (k + 4) * x) :
  Z2 % B ^ (k + 1) = 0 ∧ T + B ^ k * t < B ^ (k + 1) ∧ Z2 + o' * B ^ (k + 1 + 4) = X + (T + B ^ k * t) * M:=by
 have hz:=low_dvd hlow
 rw [Nat.mod_eq_of_lt hM] at h1
 have hp5 : B ^ (k + 1 + 4) = B ^ (k + 4) * B:=by rw [← Nat.pow_succ,show k + 1 + 4 = k + 4 + 1 by omega]
 have hq : B ^ (k + 4) = B ^ (k + 1) * B ^ 3:=by rw [← Nat.pow_add,show k + 1 + 3 = k + 4 by omega]
 have f : Z2 + o' * B ^ (k + 1 + 4) = Z + t * M * B ^ k + o * B ^ (k + 4):=by
  have h3:=congrArg (fun z => B ^ (k + 4) * z) hx
  simp only [Nat.mul_add] at h3
  rw [hp5,Nat.mul_comm o',Nat.mul_assoc (B ^ (k + 4)),Nat.mul_comm o]
  rw [Nat.mul_comm c] at h1
  generalize B ^ (k + 4) * dg B Z1 (k + 4) = p1 at *
  generalize B ^ (k + 4) * x = p2 at *
  generalize B ^ (k + 4) * c = p3 at *
  generalize B ^ (k + 4) * o = p4 at *
  generalize B ^ (k + 4) * (B * o') = p5 at *
  omega
 refine ⟨?_,?_,?_⟩
 ·
  have g : (Z2 + o' * B ^ (k + 1 + 4)) % B ^ (k + 1) = Z2 % B ^ (k + 1):=by
   rw [hp5,hq,Nat.mul_comm o',Nat.mul_assoc,Nat.mul_assoc,Nat.add_mul_mod_self_left]
  rw [← g,f,hq,Nat.mul_comm o,Nat.mul_assoc (B ^ (k + 1)),Nat.add_mul_mod_self_left]
  have hd : (Z / B ^ k + t * M) % B = 0:=by
   have : dg B Z k = Z / B ^ k % B:=rfl
   rw [this] at ht0
   have h0 : dg B M 0 = M % B:=by unfold dg; rw [Nat.pow_zero,Nat.div_one]
   rw [h0,Nat.mod_add_mod,Nat.add_mod,Nat.mul_mod,Nat.mod_mod,← Nat.mul_mod,← Nat.add_mod] at ht0
   exact ht0
  rw [hz,Nat.mul_comm (t * M),← Nat.mul_add,Nat.pow_succ,Nat.mul_mod_mul_left,hd,Nat.mul_zero]
 ·
  rw [Nat.pow_succ]
  have : B ^ k * (t + 1) ≤ B ^ k * B:=Nat.mul_le_mul_left _ ht
  rw [Nat.mul_add] at this; omega
 ·
  rw [f,Nat.add_mul,Nat.mul_right_comm t M,Nat.mul_comm (B ^ k) t]
  generalize t * B ^ k * M = p3 at *
  generalize o * B ^ (k + 4) = p1 at *
  generalize T * M = p2 at *
  omega
theorem times_zero {d n m : Int} (h : (18446744073709551616 : Int) ∣ m * n - 1) :
  (d + (-d % 18446744073709551616 * n) % 18446744073709551616 * m) % 18446744073709551616 = 0:=by
 have e1:=Int.emod_add_mul_ediv (-d) 18446744073709551616
 have e2:=Int.emod_add_mul_ediv (-d % 18446744073709551616 * n) 18446744073709551616
 generalize -d % 18446744073709551616 * n / 18446744073709551616 = q2 at *
 generalize -d % 18446744073709551616 * n % 18446744073709551616 = t at *
 generalize -d / 18446744073709551616 = q1 at *
 generalize -d % 18446744073709551616 = s at *
 obtain ⟨c,hc⟩:=h
 apply Int.emod_eq_zero_of_dvd
 refine ⟨-d * c - q1 * n * m - q2 * m,?_⟩
 have et : t = s * n - 18446744073709551616 * q2:=by omega
 have es : s = -d - 18446744073709551616 * q1:=by omega
 have hmn : m * n = 18446744073709551616 * c + 1:=by omega
 rw [et,es]
 have : (-d - 18446744073709551616 * q1) * n * m = (-d - 18446744073709551616 * q1) * (m * n):=by rw [Int.mul_assoc,Int.mul_comm n]
 simp only [Int.sub_mul,Int.mul_sub,Int.neg_mul,Int.mul_assoc] at *
 rw [Int.mul_comm n m,hmn]
 simp only [Int.mul_add,Int.mul_one]
 have e3 : d * (18446744073709551616 * c) = 18446744073709551616 * (d * c):=by rw [Int.mul_left_comm]
 rw [e3]
 have e4 : q1 * (18446744073709551616 * c) = 18446744073709551616 * (q1 * c):=by rw [Int.mul_left_comm]
 rw [e4]
 omega
/-! ### Newton's steps -/
theorem newton {D E m x : Int} (h : D ∣ m * x - 1) (hE : E ∣ D * D) (hW : E ∣ 18446744073709551616) :
  E ∣ m * (x * ((2 - m * x % 18446744073709551616) % 18446744073709551616) % 18446744073709551616) - 1:=by
 obtain ⟨a,ha⟩:=h
 have e1:=Int.emod_add_mul_ediv (m * x) 18446744073709551616
 have e2:=Int.emod_add_mul_ediv (2 - m * x % 18446744073709551616) 18446744073709551616
 have e3:=Int.emod_add_mul_ediv (x * ((2 - m * x % 18446744073709551616) % 18446744073709551616)) 18446744073709551616
 generalize x * ((2 - m * x % 18446744073709551616) % 18446744073709551616) / 18446744073709551616 = q3 at *
 generalize x * ((2 - m * x % 18446744073709551616) % 18446744073709551616) % 18446744073709551616 = t3 at *
 generalize (2 - m * x % 18446744073709551616) / 18446744073709551616 = q2 at *
 generalize (2 - m * x % 18446744073709551616) % 18446744073709551616 = t2 at *
 generalize m * x / 18446744073709551616 = q1 at *
 generalize m * x % 18446744073709551616 = t1 at *
 -- m x = 1 + D a; t2 = 2 - m x + W (q1 - q2); t3 = x t2 - W q3
 have h3 : t3 = x * t2 - 18446744073709551616 * q3:=by omega
 have h2 : t2 = 2 - m * x + 18446744073709551616 * (q1 - q2):=by omega
 have hk : m * t3 - 1 = -(D * D) * (a * a) + 18446744073709551616 * (m * x * (q1 - q2) - m * q3):=by
  rw [h3,h2]
  have hx : m * x = 1 + D * a:=by omega
  rw [Int.mul_sub,← Int.mul_assoc,Int.mul_add,hx,Int.mul_left_comm m,Int.mul_left_comm (1 + D * a) 18446744073709551616]
  have : (1 + D * a) * (2 - (1 + D * a)) = 1 - D * D * (a * a):=by
   rw [show (2 : Int) - (1 + D * a) = 1 - D * a by omega,Int.mul_sub,Int.mul_one,Int.add_mul,Int.one_mul]
   have : D * a * (D * a) = D * D * (a * a):=by rw [Int.mul_assoc,Int.mul_left_comm a,Int.mul_assoc]
   omega
  rw [this,Int.neg_mul,Int.mul_sub]
  omega
 rw [hk]
 exact Int.dvd_add (Int.dvd_trans (Int.dvd_neg.2 hE) (Int.dvd_mul_right _ _)) (Int.dvd_trans hW (Int.dvd_mul_right _ _))
def dv (k : Nat) : Int:=match k with | 0 => 8 | 1 => 64 | 2 => 4096 | 3 => 16777216 | 4 => 281474976710656 | _ => 18446744073709551616
theorem dv_start {m : Int} (h : m % 2 = 1) : dv 0 ∣ m * m - 1:=by
 show (8 : Int) ∣ m * m - 1
 obtain ⟨a,b,ha,hb⟩ : ∃ a b : Int,m = 8 * a + b ∧ (b = 1 ∨ b = 3 ∨ b = 5 ∨ b = 7):=⟨m / 8,m % 8,by omega,by omega⟩
 have : m * m = 8 * (a * (8 * a) + 2 * (a * b)) + b * b:=by
  rw [ha,Int.add_mul,Int.mul_add,Int.mul_add,Int.mul_assoc,Int.mul_assoc,Int.mul_comm b,Int.mul_assoc 8 a b]
  omega
 rw [this]
 rcases hb with rfl | rfl | rfl | rfl <;> omega
theorem dv_step {m x : Int} {k : Nat} (hk : k < 5) (h : dv k ∣ m * x - 1) :
  dv (k + 1) ∣ m * (x * ((2 - m * x % 18446744073709551616) % 18446744073709551616) % 18446744073709551616) - 1:=by
 refine newton h ?_ ?_
 ·
  match k,hk with
  | 0,_ => decide
  | 1,_ => decide
  | 2,_ => decide
  | 3,_ => decide
  | 4,_ => decide
 ·
  match k,hk with
  | 0,_ => decide
  | 1,_ => decide
  | 2,_ => decide
  | 3,_ => decide
  | 4,_ => decide
/-! ### modulo an odd number,2^256 can be taken away -/
theorem top_two : top = 2 ^ 256:=by decide
theorem cop_top {M : Nat} (h : M % 2 = 1) : Nat.Coprime top M:=by
 rw [top_two]
 apply Nat.Coprime.pow_left
 unfold Nat.Coprime
 rw [Nat.gcd_rec,h]; rfl
theorem cut_top {M A B : Nat} (hM : M % 2 = 1) (h : A * top % M = B * top % M) : A % M = B % M:=by
 have hc : Nat.Coprime M top:=(cop_top hM).symm
 have key : ∀ {a b : Nat},a ≤ b → a * top % M = b * top % M → a % M = b % M:=by
  intro a b hab h
  have h1 : M ∣ (b - a) * top:=by
   rw [Nat.sub_mul]
   exact Nat.dvd_of_mod_eq_zero (Nat.sub_mod_eq_zero_of_mod_eq h.symm)
  have h2 : M ∣ b - a:=Nat.Coprime.dvd_of_dvd_mul_right hc h1
  obtain ⟨c,hc2⟩:=h2
  rw [show b = a + M * c by omega,Nat.add_mul_mod_self_left]
 rcases Nat.le_total A B with hab | hab
 ·
  exact key hab h
 ·
  exact (key hab h.symm).symm
theorem shr_sum {X M Z T o : Nat} (hX : X < top8) (hT : T < top) (hM0 : 0 < M) (hlow : Z % top = 0) (e : Z + o * top8 = X + T * M) :
  (Z / top + o * top) * top = X + T * M ∧ Z / top + o * top < top + M ∧ (X < M * top → Z / top + o * top < 2 * M):=by
 have hp:=zbm
 have hz : top * (Z / top) + Z % top = Z:=Nat.div_add_mod _ _
 rw [zkc] at *
 have e2 : (Z / top + o * top) * top = X + T * M:=by
  rw [Nat.add_mul,Nat.mul_assoc,Nat.mul_comm (Z / top)]; omega
 have hTM : T * M < top * M:=Nat.mul_lt_mul_of_pos_right hT hM0
 refine ⟨e2,?_,fun h => ?_⟩
 ·
  apply Nat.lt_of_mul_lt_mul_right (a:=top)
  rw [e2,Nat.add_mul,Nat.mul_comm M]; omega
 ·
  apply Nat.lt_of_mul_lt_mul_right (a:=top)
  rw [e2,Nat.mul_assoc 2,Nat.mul_comm M] at *
  omega
end Go.Proofs.YtihophdbkjhopaaGreatDoor
namespace Go.Proofs.YtihophdbkjhopaaGreatDoor
open Go.RowKit
open Go.Value renaming int → vI
open Go.IntKind renaming u64 → vU
open Go.Act renaming put → aP
open List renaming setIfInBounds_toArray → lA, set_cons_zero → lZ, set_cons_succ → lS
def fdf (M : Nat) (N : Int) (Q : Nat) : Nat → Value:=fun j => if j < 4 then .int .u64 (wd M j) else if j = 4 then .int .u64 N else .int .u64 (wd Q (j - 5))
def Fb (w : World) (b M : Nat) (N : Int) (Q : Nat) : Prop:=w.rowIs b 168 9 (fdf M N Q)
structure Fok (M : Nat) (N : Int) (Q : Nat) : Prop where
 m2 : 2 < M
 odd : M % 2 = 1
 mt : M < top
 n0 : 0 ≤ N
 n1 : N ≤ 18446744073709551615
 inv : (18446744073709551616 : Int) ∣ wd M 0 * N - 1
 q : Q = top8 % M
theorem Fok.qm {M : Nat} {N : Int} {Q : Nat} (h : Fok M N Q) : Q < M:=by rw [h.q]; exact Nat.mod_lt _ (by have:=h.m2; omega)
section
variable {w w' : World} {b M Q B : Nat} {N : Int}
theorem Fb.lt (h : Fb w b M N Q) : b < w.heap.size:=World.rowIs.lt h
theorem Fb.below (h : Fb w b M N Q) (hb : Below B w w') (hlt : b < B) : Fb w' b M N Q:=zad h hb hlt
theorem Fb.call (h : Fb w b M N Q) (hb : Below w.heap.size w w') : Fb w' b M N Q:=zad h hb h.lt
theorem Fb.drew (h : Fb w b M N Q) : Fb w.drew b M N Q:=h
theorem Fb.alloc (h : Fb w b M N Q) (o : Obj) : Fb (w.alloc o) b M N Q:=World.rowIs.alloc h o
theorem Fb.far {b' i : Nat} (h : Fb w b M N Q) (hne : b ≠ b') (v : Value) : Fb (w.setCell ⟨b',i,none⟩ v) b M N Q:=zat h hne v
theorem Fb.mod (h : Fb w b M N Q) : w.cell? ⟨b,0,none⟩ = some (vI vU (wd M 0)) ∧ w.cell? ⟨b,1,none⟩ = some (vI vU (wd M 1)) ∧ w.cell? ⟨b,2,none⟩ = some (vI vU (wd M 2)) ∧ w.cell? ⟨b,3,none⟩ = some (vI vU (wd M 3)) :=
 ⟨World.rowIs.cell h (by omega),World.rowIs.cell h (by omega),World.rowIs.cell h (by omega),World.rowIs.cell h (by omega)⟩
theorem Fb.inv (h : Fb w b M N Q) : w.cell? ⟨b,4,none⟩ = some (vI vU N):=World.rowIs.cell h (by omega)
theorem Fb.sq (h : Fb w b M N Q) : w.cell? ⟨b,5,none⟩ = some (vI vU (wd Q 0)) ∧ w.cell? ⟨b,6,none⟩ = some (vI vU (wd Q 1)) ∧ w.cell? ⟨b,7,none⟩ = some (vI vU (wd Q 2)) ∧ w.cell? ⟨b,8,none⟩ = some (vI vU (wd Q 3)) :=
 ⟨World.rowIs.cell h (by omega),World.rowIs.cell h (by omega),World.rowIs.cell h (by omega),World.rowIs.cell h (by omega)⟩
end
theorem wide_num (X : Nat) (h : X < top) : wd X 4 = 0 ∧ wd X 5 = 0 ∧ wd X 6 = 0 ∧ wd X 7 = 0:=by
 have e : ∀ i,4 ≤ i → wd X i = 0:=by
  intro i hi
  unfold wd dg
  rw [Nat.div_eq_of_lt (Nat.lt_of_lt_of_le h (Nat.pow_le_pow_right zaq hi))]; rfl
 exact ⟨e 4 (by omega),e 5 (by omega),e 6 (by omega),e 7 (by omega)⟩
theorem wide_calls (X : Nat) (hX : X < top) (w : World) :
  Calls Tryz.prog 168 #[.agg #[vI vU (wd X 0),vI vU (wd X 1),vI vU (wd X 2),vI vU (wd X 3)]] w fun e w' => e = .returned (.agg #[vI vU (wd X 0),vI vU (wd X 1),vI vU (wd X 2),vI vU (wd X 3),vI vU (wd X 4),vI vU (wd X 5),vI vU (wd X 6),vI vU (wd X 7)]) ∧ Below w.heap.size w w':=by
 obtain ⟨e4,e5,e6,e7⟩:=wide_num X hX
 rw [e4,e5,e6,e7]
 have hA0 : ((w.alloc (.cells #[vI vU (wd X 0),vI vU (wd X 1),vI vU (wd X 2),vI vU (wd X 3)] 29)).alloc (.cells #[vI vU 0,vI vU 0,vI vU 0,vI vU 0,vI vU 0,vI vU 0,vI vU 0,vI vU 0] 142)).rowIs w.heap.size 29 4 (fun j => .int .u64 (wd X j)):=(zaj (n:=4) (by simp) rfl (arr4 fun j => .int .u64 (wd X j))).alloc _
 have hR0 : ((w.alloc (.cells #[vI vU (wd X 0),vI vU (wd X 1),vI vU (wd X 2),vI vU (wd X 3)] 29)).alloc (.cells #[vI vU 0,vI vU 0,vI vU 0,vI vU 0,vI vU 0,vI vU 0,vI vU 0,vI vU 0] 142)).rowIs (w.heap.size + 1) 142 8 (fun _ => .int .u64 0):=zaj (n:=8) (by simp) rfl (arr8 fun _ => .int .u64 0)
 obtain ⟨c0,c1,c2,c3⟩:=zap hA0
 obtain ⟨f0,f1,f2,f3,f4,f5,f6,f7⟩:=row_f8 hR0
 obtain ⟨d0,d1,d2,d3,d4,d5,d6,d7⟩:=row_c8 hR0
 clear e4 e5 e6 e7
 go_enter Tryz.func168,Tryz.ntmps168
 go_wp2
 exact bodyPost_ret (results_cell_row rfl _ _ (w.heap.size + 1) 142 #[vI vU (wd X 0),vI vU (wd X 1),vI vU (wd X 2),vI vU (wd X 3),vI vU 0,vI vU 0,vI vU 0,vI vU 0] (0,0) _ rfl (blk8 (zaj (n:=8) (f:=fun j => if j < 4 then Value.int .u64 (wd X j) else .int .u64 0) (by simp) rfl (arr8 fun j => if j < 4 then Value.int .u64 (wd X j) else .int .u64 0))) Tryz.underlying142 rfl (by kernel_rfl)) rfl ⟨rfl,((Below.refl _ _).alloc (by simp) _).alloc (by simp) _⟩
theorem inverse_calls (m : Int) (h0 : 0 ≤ m) (h1 : m ≤ 18446744073709551615) (hodd : m % 2 = 1) (w : World) :
  Calls Tryz.prog 153 #[vI vU m] w fun e w' => ∃ n : Int,0 ≤ n ∧ n ≤ 18446744073709551615 ∧ (18446744073709551616 : Int) ∣ m * n - 1 ∧ e = .returned (.int .u64 n) ∧ w' = w:=by
 have hS:=veil (dv_start hodd)
 clear hodd
 go_enter Tryz.func153,Tryz.ntmps153
 go_wp2
 go_loopw [3,5] (fun x i wr => ∃ (k : Nat) (n : Int),k ≤ 5 ∧ i = .int .i64 (k : Int) ∧ x = .int .u64 n ∧ 0 ≤ n ∧ n ≤ 18446744073709551615 ∧ Hid (dv k ∣ m * n - 1) ∧ wr = w)
  (fun _ i _ => 5 - (intOf i).toNat)
 case atStart => exact ⟨0,m,by omega,rfl,rfl,h0,h1,hS,rfl⟩
 case round =>
  obtain ⟨k,n,hk,rfl,rfl,n0,n1,hD,rfl⟩:=hrel
  by_cases hlt : k < 5
  ·
   have hn:=veil (dv_step hlt hD.out)
   obtain ⟨y,hy⟩ : ∃ y,y = n * ((2 - m * n % 18446744073709551616) % 18446744073709551616) % 18446744073709551616:=⟨_,rfl⟩
   rw [← hy] at hn
   have y0 : 0 ≤ y:=by omega
   have y1 : y ≤ 18446744073709551615:=by omega
   have hY:=veil hy
   clear hy
   go_wp2
   go_roundw
   case rel => exact ⟨k + 1,y,by omega,by go_num,by simp only [IntKind.wrap_u64]; rw [hY.out],y0,y1,hn,trivial⟩
   case measure => simp [intOf]; omega
  ·
   obtain rfl : k = 5:=by omega
   go_wp2
   go_ret
   exact ⟨n,n0,n1,hD.out,rfl,rfl⟩
theorem Fb.range {w : World} {b M : Nat} {N : Int} {Q : Nat} (h : Fb w b M N Q) : w.rangeAt b 0 [.int .u64 (wd M 0),.int .u64 (wd M 1),.int .u64 (wd M 2),.int .u64 (wd M 3)]:=fun j v hv => by
 obtain ⟨c0,c1,c2,c3⟩:=h.mod
 match j,hv with
 | 0,rfl => exact c0
 | 1,rfl => exact c1
 | 2,rfl => exact c2
 | 3,rfl => exact c3
 | _ + 4,hv => simp at hv
theorem zep {W : World} {b M : Nat} {N : Int} {Q : Nat} (h : Fb W b M N Q) : (Instr.loadAt 29 (.pointer (some ⟨b,0,none⟩))).run Tryz.prog W = .ok (.agg #[vI vU (wd M 0),vI vU (wd M 1),vI vU (wd M 2),vI vU (wd M 3)]) W:=run_loadAt_mid W b 0 29 _ _ h.range Tryz.underlying29 rfl (by kernel_rfl)
theorem ret_u2 {a b c d : Int} (h : a = b) (h2 : c = d) : Ending.returned (.tuple #[vI vU a,vI vU c]) = .returned (.tuple #[vI vU b,vI vU d]):=by rw [h,h2]
theorem mul64 (x y : Int) (hx : 0 ≤ x) (hx2 : x ≤ 18446744073709551615) (hy : 0 ≤ y) (hy2 : y ≤ 18446744073709551615) (w : World) :
  Calls Tryz.prog 167 #[vI vU x,vI vU y] w fun e w' => e = .returned (.tuple #[vI vU (x * y / 18446744073709551616),vI vU (x * y % 18446744073709551616)]) ∧ w' = w:=by
 have key:=mul64_arith x y hx (by omega) hy (by omega)
 have m1:=and_low32 x hx (by omega)
 have m2:=and_low32 y hy (by omega)
 have K:=veil key
 have M1:=veil m1
 have M2:=veil m2
 clear key m1 m2
 go_enter Tryz.func167,Tryz.ntmps167
 go_wp2
 go_ret2
 refine ⟨ret_u2 ?_ ?_,rfl⟩
 ·
  simp only [M1.out,M2.out,IntKind.wrap_u64]
  rw [and_low32 _ (by omega) (by omega)]
  exact K.out
 ·
  exact IntKind.wrap_u64 _
theorem ma_bound {x y : Int} (hx : 0 ≤ x) (hx2 : x ≤ 18446744073709551615) (hy : 0 ≤ y) (hy2 : y ≤ 18446744073709551615) : 0 ≤ x * y ∧ x * y ≤ 340282366920938463426481119284349108225:=by
 refine ⟨Int.mul_nonneg hx hy,?_⟩
 have:=Int.mul_le_mul hx2 hy2 hy (by omega : (0 : Int) ≤ 18446744073709551615)
 omega
theorem mulAdd_calls (x y u v : Int) (hx : 0 ≤ x) (hx2 : x ≤ 18446744073709551615) (hy : 0 ≤ y) (hy2 : y ≤ 18446744073709551615) (hu : 0 ≤ u) (hu2 : u ≤ 18446744073709551615) (hv : 0 ≤ v) (hv2 : v ≤ 18446744073709551615) (w : World) :
  Calls Tryz.prog 158 #[vI vU x,vI vU y,vI vU u,vI vU v] w fun e w' => e = .returned (.tuple #[vI vU ((x * y + u + v) % 18446744073709551616),vI vU ((x * y + u + v) / 18446744073709551616)]) ∧ w' = w:=by
 obtain ⟨p0,p1⟩:=ma_bound hx hx2 hy hy2
 obtain ⟨P,hP⟩ : ∃ P,P = x * y:=⟨_,rfl⟩
 rw [← hP] at p0 p1 ⊢
 obtain ⟨L,hL⟩ : ∃ L,L = P % 18446744073709551616:=⟨_,rfl⟩
 obtain ⟨Hh,hH⟩ : ∃ Hh,Hh = P / 18446744073709551616:=⟨_,rfl⟩
 obtain ⟨L1,hL1⟩ : ∃ L1,L1 = (L + u + 0) % 18446744073709551616:=⟨_,rfl⟩
 obtain ⟨c1,hc1⟩ : ∃ c1,c1 = (L + u + 0) / 18446744073709551616:=⟨_,rfl⟩
 obtain ⟨L2,hL2⟩ : ∃ L2,L2 = (L1 + v + 0) % 18446744073709551616:=⟨_,rfl⟩
 obtain ⟨c2,hc2⟩ : ∃ c2,c2 = (L1 + v + 0) / 18446744073709551616:=⟨_,rfl⟩
 have h29a:=fun W => add64 L u 0 (by omega) hu (by omega) (by omega) W
 have h29b:=fun W => add64 L1 v 0 (by omega) hv (by omega) (by omega) W
 rw [← hL1,← hc1] at h29a
 rw [← hL2,← hc2] at h29b
 have b1 : 0 ≤ Hh:=by omega
 have b2 : 0 ≤ c1:=by omega
 have b3 : 0 ≤ c2:=by omega
 have b4 : Hh + c1 ≤ 18446744073709551615:=by omega
 have b5 : Hh + c1 + c2 ≤ 18446744073709551615:=by omega
 have e1 : (P + u + v) % 18446744073709551616 = L2:=by omega
 have e2 : (P + u + v) / 18446744073709551616 = Hh + c1 + c2:=by omega
 have hM:=fun W => mul64 x y hx hx2 hy hy2 W
 rw [← hP,← hL,← hH] at hM
 have HM:=veil hM
 have E:=veil (And.intro e1 e2)
 clear hM e1 e2 hP hL hH hL1 hc1 hL2 hc2 p0 p1 hx hx2 hy hy2 hu hu2 hv hv2
 go_enter Tryz.func158,Tryz.ntmps158
 go_wp2_with (go_at_call 167; refine (HM.out _).mono ?_; rintro e w' ⟨rfl,rfl⟩)
 go_ret2
 rw [E.out.1,E.out.2]
 exact ⟨rfl,rfl⟩
end Go.Proofs.YtihophdbkjhopaaGreatDoor
namespace Go.Proofs.YtihophdbkjhopaaGreatDoor
def PP (B X Y i : Nat) : Nat:=X % B ^ i * Y
def TT (B X Y i j : Nat) : Nat:=PP B X Y i % B ^ (i + j) + dg B X i * (B ^ i * (Y % B ^ j))
def CC (B X Y i j : Nat) : Nat:=TT B X Y i j / B ^ (i + j)
def UU (B X Y i j m : Nat) : Nat:=if m < i + j then dg B (TT B X Y i j) m else dg B (PP B X Y i) m
theorem UU_start {B : Nat} (X Y i m : Nat) : UU B X Y i 0 m = dg B (PP B X Y i) m:=by
 unfold UU
 split
 ·
  rename_i h
  unfold TT
  simp only [Nat.pow_zero,Nat.mod_one,Nat.mul_zero,Nat.add_zero] at *
  exact zcr _ i m h
 ·
  rfl
theorem CC_start {B : Nat} (hB : 0 < B) (X Y i : Nat) : CC B X Y i 0 = 0:=by
 unfold CC TT
 simp only [Nat.pow_zero,Nat.mod_one,Nat.mul_zero,Nat.add_zero]
 exact Nat.div_eq_of_lt (Nat.mod_lt _ (Nat.pow_pos hB))
theorem TT_lt {B : Nat} (hB : 0 < B) (X Y i j : Nat) : TT B X Y i j < B ^ (i + j) * B:=by
 have hQ : 0 < B ^ (i + j):=Nat.pow_pos hB
 have h1:=Nat.mod_lt (PP B X Y i) hQ
 have h2 : B ^ i * (Y % B ^ j) ≤ B ^ (i + j):=by
  rw [Nat.pow_add]
  exact Nat.mul_le_mul_left _ (Nat.le_of_lt (Nat.mod_lt _ (Nat.pow_pos hB)))
 have h3 : dg B X i * (B ^ i * (Y % B ^ j)) ≤ (B - 1) * B ^ (i + j):=Nat.mul_le_mul (by have:=dg_lt hB X i; omega) h2
 unfold TT
 have h4 : B ^ (i + j) * B = B ^ (i + j) + (B - 1) * B ^ (i + j):=by
  obtain ⟨b,rfl⟩ : ∃ b,B = b + 1:=⟨B - 1,by omega⟩
  rw [Nat.add_sub_cancel,Nat.mul_add,Nat.mul_one,Nat.mul_comm]
  omega
 omega
theorem CC_lt {B : Nat} (hB : 0 < B) (X Y i j : Nat) : CC B X Y i j < B:=by
 unfold CC
 rw [Nat.div_lt_iff_lt_mul (Nat.pow_pos hB),Nat.mul_comm]
 exact TT_lt hB X Y i j
theorem UU_lt {B : Nat} (hB : 0 < B) (X Y i j m : Nat) : UU B X Y i j m < B:=by
 unfold UU
 split <;> exact dg_lt hB _ _
theorem TT_step {B : Nat} (X Y i j : Nat) :
  TT B X Y i (j + 1) = TT B X Y i j % B ^ (i + j) + B ^ (i + j) * (dg B X i * dg B Y j + dg B (PP B X Y i) (i + j) + CC B X Y i j):=by
 have h1 : TT B X Y i (j + 1) = TT B X Y i j + B ^ (i + j) * (dg B (PP B X Y i) (i + j) + dg B X i * dg B Y j):=by
  unfold TT
  rw [show i + (j + 1) = (i + j) + 1 by omega,zca B (PP B X Y i) (i + j),zca B Y j,Nat.mul_add (B ^ i),← Nat.mul_assoc (B ^ i),← Nat.pow_add,Nat.mul_add (dg B X i),Nat.mul_add (B ^ (i + j)),
   show dg B X i * (B ^ (i + j) * dg B Y j) = B ^ (i + j) * (dg B X i * dg B Y j) by rw [Nat.mul_left_comm]]
  omega
 have h2 : B ^ (i + j) * CC B X Y i j + TT B X Y i j % B ^ (i + j) = TT B X Y i j:=Nat.div_add_mod _ _
 rw [h1,Nat.mul_add,Nat.mul_add,Nat.mul_add]
 omega
theorem UU_step {B : Nat} (hB : 0 < B) (X Y i j : Nat) : UU B X Y i (j + 1) (i + j) = (dg B X i * dg B Y j + UU B X Y i j (i + j) + CC B X Y i j) % B:=by
 have hu : UU B X Y i j (i + j) = dg B (PP B X Y i) (i + j):=by unfold UU; rw [if_neg (by omega)]
 rw [hu]
 unfold UU
 rw [if_pos (by omega),dg,TT_step,Nat.add_mul_div_left _ _ (Nat.pow_pos hB),Nat.div_eq_of_lt (Nat.mod_lt _ (Nat.pow_pos hB)),Nat.zero_add]
theorem CC_step {B : Nat} (hB : 0 < B) (X Y i j : Nat) : CC B X Y i (j + 1) = (dg B X i * dg B Y j + UU B X Y i j (i + j) + CC B X Y i j) / B:=by
 have hu : UU B X Y i j (i + j) = dg B (PP B X Y i) (i + j):=by unfold UU; rw [if_neg (by omega)]
 rw [hu]
 show TT B X Y i (j + 1) / B ^ (i + (j + 1)) = _
 rw [show i + (j + 1) = (i + j) + 1 by omega,Nat.pow_succ,← Nat.div_div_eq_div_mul,TT_step,Nat.add_mul_div_left _ _ (Nat.pow_pos hB),Nat.div_eq_of_lt (Nat.mod_lt _ (Nat.pow_pos hB)),Nat.zero_add]
theorem UU_other {B : Nat} (X Y i j m : Nat) (hm : m ≠ i + j) : UU B X Y i (j + 1) m = UU B X Y i j m:=by
 unfold UU
 by_cases h : m < i + j
 ·
  rw [if_pos (by omega),if_pos h,← zcr _ (i + j) m h,TT_step,Nat.add_mul_mod_self_left,Nat.mod_mod,zcr _ (i + j) m h]
 ·
  rw [if_neg (by omega),if_neg h]
theorem PP_lt {B : Nat} (hB : 0 < B) (X Y i n : Nat) (hY : Y < B ^ n) : PP B X Y i < B ^ (i + n):=by
 have h1 : X % B ^ i < B ^ i:=Nat.mod_lt _ (Nat.pow_pos hB)
 unfold PP
 rw [Nat.pow_add]
 exact Nat.mul_lt_mul_of_lt_of_le h1 (Nat.le_of_lt hY) (by omega)
theorem PP_step {B : Nat} (hB : 0 < B) (X Y i n : Nat) (hY : Y < B ^ n) : PP B X Y (i + 1) = TT B X Y i n:=by
 unfold TT
 rw [Nat.mod_eq_of_lt (PP_lt hB X Y i n hY),Nat.mod_eq_of_lt hY]
 unfold PP
 rw [zca,Nat.add_mul,Nat.mul_comm (B ^ i) (dg B X i),Nat.mul_assoc]
theorem PP_row {B : Nat} (hB : 0 < B) (X Y i n m : Nat) (hY : Y < B ^ n) : dg B (PP B X Y (i + 1)) m = if m = i + n then CC B X Y i n else UU B X Y i n m:=by
 rw [PP_step hB X Y i n hY]
 by_cases h : m = i + n
 ·
  subst h
  rw [if_pos rfl]
  show CC B X Y i n % B = _
  exact Nat.mod_eq_of_lt (CC_lt hB X Y i n)
 ·
  rw [if_neg h]
  unfold UU
  by_cases h2 : m < i + n
  ·
   rw [if_pos h2]
  ·
   rw [if_neg h2]
   have hle : B ^ (i + n) * B ≤ B ^ m:=by rw [← Nat.pow_succ]; exact Nat.pow_le_pow_right hB (by omega)
   have h3:=TT_lt hB X Y i n
   have h4:=PP_lt hB X Y i n hY
   have h5 : B ^ (i + n) ≤ B ^ (i + n) * B:=Nat.le_mul_of_pos_right _ hB
   unfold dg
   rw [Nat.div_eq_of_lt (by omega),Nat.div_eq_of_lt (by omega)]
theorem PP_zero (B X Y : Nat) : PP B X Y 0 = 0:=by simp [PP,Nat.mod_one]
theorem PP_end {B : Nat} (X Y n : Nat) (hX : X < B ^ n) : PP B X Y n = X * Y:=by unfold PP; rw [Nat.mod_eq_of_lt hX]
theorem dg_zero (B i : Nat) : dg B 0 i = 0:=by simp [dg]
end Go.Proofs.YtihophdbkjhopaaGreatDoor
namespace Go.Proofs.YtihophdbkjhopaaGreatDoor
open Go.RowKit
open Go.Value renaming int → vI
open Go.IntKind renaming u64 → vU
open Go.Act renaming put → aP
open List renaming setIfInBounds_toArray → lA, set_cons_zero → lZ, set_cons_succ → lS
def ptB (X Y j : Nat) : Value:=if j < 32 then bsv X j else bsv Y (j - 32)
theorem from_own {w : World} {base e n g c : Nat} {f : Nat → Value} (o : Own w base e (.slice (some ⟨g,0,none⟩) n c) n f) : From w (some ⟨g,0,none⟩) n f:=by
 by_cases h : n = 0
 ·
  exact .inl h
 ·
  obtain ⟨g',c',e,_,_,hp⟩:=o.pre (by omega)
  injection e with e1 _ _
  injection e1 with e2
  injection e2 with e3
  subst e3
  exact .inr ⟨_,rfl,fun j hj => by rw [Addr.add_mid,Nat.zero_add]; exact hp.cell hj⟩
def be32 (y : Nat → Nat) (k : Nat) : Nat:=lev (fun i => y (k + (31 - i))) 32
/-! ### numbers -/
theorem lev_digs9 (X : Nat) (z : Nat → Nat) : ∀ i,(∀ k,k < i → z k = X / 256 ^ k % 256) → lev z i = X % 256 ^ i
 | 0,_ => by simp [lev,Nat.mod_one]
 | i + 1,h => by
  show lev z i + z i * 256 ^ i = _
  rw [zca,lev_digs9 X z i (fun k hk => h k (by omega)),h i (by omega),Nat.mul_comm]
  rfl
theorem lev_valB {bs : List Nat} (h : Byt bs) {n : Nat} (hl : bs.length = n) {z : Nat → Nat} (hz : ∀ k,k < n → z k = bs.getD (n - 1 - k) 0) : lev z n = valB bs:=by
 have e:=beB_valB h hl
 have hx : valB bs < 256 ^ n:=hl ▸ zhc h
 rw [lev_digs9 (valB bs) z n fun k hk => ?_,Nat.mod_eq_of_lt hx]
 have h1:=beB_get n (valB bs) (i:=n - 1 - k) (by omega)
 rw [e] at h1
 rw [hz k hk,h1,show n - 1 - (n - 1 - k) = k by omega]
theorem ptB_sig (r s j : Nat) (hj : j < 64) : ptB r s j = .int .u8 ((sigB r s).getD j 0 : Nat):=by
 have hd : ∀ X i,i < 32 → bsv X i = .int .u8 ((beB 32 X).getD i 0 : Nat):=fun X i hi => by
  rw [beB_get 32 X hi]
  rfl
 unfold ptB sigB
 simp only [List.getD_eq_getElem?_getD] at hd ⊢
 by_cases h : j < 32
 ·
  rw [if_pos h,List.getElem?_append_left (by rw [zdd]; exact h)]
  exact hd r j h
 ·
  rw [if_neg h,List.getElem?_append_right (by rw [zdd]; omega),zdd]
  exact hd s (j - 32) (by omega)
theorem own_sig {w w' : World} {v : Value} {r s : Nat} (o : Own w' w.heap.size 5 v 64 (ptB r s)) : ∃ A c,v = .slice A 64 c ∧ 64 ≤ c ∧ Bs w' A (sigB r s) ∧ Fresh w A (sigB r s):=by
 obtain ⟨g,c,rfl,hc,hg,hp⟩:=o.pre (by decide)
 refine ⟨_,c,rfl,hc,⟨sigB_byt r s,.inr ⟨g,0,rfl,hp.lt,fun j hj => ?_⟩⟩,.inr fun b o e => ?_⟩
 ·
  rw [zfh] at hj
  rw [Nat.zero_add,hp.cell hj,ptB_sig r s j hj]
 ·
  injection e with e
  injection e with e
  omega
section
variable {P : Program} {ops : Array Oper} {Q : Exit → Act → World → Prop} {md : Region.Mode}
theorem all_cons {p : Nat → Prop} {i : Nat} {rs : List Nat} (h : p i) (k : ∀ j ∈ rs,p j) : ∀ j ∈ i :: rs,p j:=fun j hj => by
 rcases List.mem_cons.1 hj with rfl | hj
 ·
  exact h
 ·
  exact k j hj
section
variable {i : Nat} {o : Oper} {d : Option Tmp} {K : Act → World → Prop} {a : Act} {W : World}
end
/-! ### a piece of the text's order,whatever has come up -/
end
def Lit (A : Nat → Nat → Act) (T : Nat → World → Prop) : Exit → Act → World → Prop:=fun e a W => ∃ g p,e = .normal ∧ a = A g p ∧ T p W
section
variable {P : Program} {Q : Exit → Act → World → Prop} {A : Nat → Nat → Act} {T : Nat → World → Prop}
section
variable {P : Program} {Q : Exit → Act → World → Prop}
end
end
section
variable {P : Program} {Q : Exit → Act → World → Prop} {l : List Oper} {m g : Nat} {A : Act} {w W0 : World} {ty t : TypeId} {zs cells : Array Value} {d de : Tmp} {y : Operand}
end
end Go.Proofs.YtihophdbkjhopaaGreatDoor
namespace Go.Proofs.YtihophdbkjhopaaGreatDoor
open Go.ChangeShapes Go.WideShapes Go.RowKit
open Go.Value renaming int → vI
open Go.IntKind renaming u64 → vU
open Go.Act renaming put → aP
open List renaming setIfInBounds_toArray → lA, set_cons_zero → lZ, set_cons_succ → lS
theorem ownT : ownKnob Tryz.prog.godebug = none:=by kernel_rfl
theorem laidOutT : laidOutB Tryz.prog = true:=by kernel_rfl
theorem cellsT1 : Tryz.prog.cellsOf 5 = 1:=by kernel_rfl
theorem bs_of {H : Type} {enc : TypeId × Value → H} {W : World} {v : Value} {fuel : Nat} {d : DataW H} {p : List MemPlace} {base : Nat} {sp : Nat → Bool} {held : Bool}
  (hf : DataW.trod enc Tryz.prog W base sp held fuel 24 [v] = some (d,p)) : ∃ (A : Option Addr) (len cap : Nat) (bs : List Nat),v = .slice A len cap ∧ len = bs.length ∧ Bs W A bs ∧ len ≤ cap:=by
 rcases open_ints Tryz.underlying24 Tryz.underlying5 cellsT1 hf with ⟨hcs,hx⟩ | ⟨a,len,cap,zs,hcs,_,hlc,_,hz,hx,hcell,hwz⟩
 ·
  simp only [List.cons.injEq,and_true] at hcs
  exact ⟨none,0,0,[],hcs,rfl,Bs.nil _ _,Nat.le_refl _⟩
 ·
  simp only [List.cons.injEq,and_true] at hcs
  have hzl : len ≤ zs.length:=by rw [hz]; split <;> omega
  have hb : ∀ z ∈ zs,0 ≤ z ∧ z < 256:=fun z hz' => by
   have h:=hwz z hz'
   simp only [Lit.wf,Bool.and_eq_true,decide_eq_true_eq] at h
   have e1 : IntKind.u8.min = 0:=rfl
   have e2 : IntKind.u8.max = 255:=rfl
   omega
  have hl : ((zs.take len).map fun z => z.toNat).length = len:=by simp; omega
  refine ⟨some a,len,cap,(zs.take len).map fun z => z.toNat,hcs,hl.symm,⟨fun x hx' => ?_,?_⟩,hlc⟩
  ·
   obtain ⟨z,hz1,rfl⟩:=List.mem_map.1 hx'
   have:=hb z (List.mem_of_mem_take hz1)
   omega
  ·
   by_cases h0 : len = 0
   ·
    exact .inl (by rw [hl]; exact h0)
   ·
    clear hcs hx
    obtain ⟨b,off,spot⟩:=a
    have h00:=hcell 0 (by omega)
    have hspot : spot = none:=by simpa [Addr.add] using World.cell?_spot h00
    subst hspot
    have hblk : b < W.heap.size:=by
     have:=World.block_lt_of_cell? W _ h00
     simpa [Addr.add] using this
    refine .inr ⟨b,off,rfl,hblk,fun j hj => ?_⟩
    rw [hl] at hj
    have hjz : j < zs.length:=by omega
    have hzj:=hb (zs[j]) (List.getElem_mem hjz)
    have e1 : ((zs.take len).map fun z => z.toNat).getD j 0 = (zs[j]).toNat:=by
     simp [List.getD_eq_getElem?_getD,List.getElem?_take_of_lt hj,hjz]
    have e2 : zs.getD j 0 = zs[j]:=by simp [List.getD_eq_getElem?_getD,hjz]
    rw [← Addr.add_mid,hcell j hjz,e1,e2,Int.toNat_of_nonneg hzj.1]
theorem cellsI1 : Tryz.prog.cellsOf 3 = 1:=by kernel_rfl
end Go.Proofs.YtihophdbkjhopaaGreatDoor
namespace Go.Proofs.YtihophdbkjhopaaGreatDoor
open Go.ChangeShapes Go.WideShapes Go.ChangeAt Go.RowKit
open Go.Value renaming int → vI
open Go.IntKind renaming u64 → vU
open Go.Act renaming put → aP
open List renaming setIfInBounds_toArray → lA, set_cons_zero → lZ, set_cons_succ → lS
theorem cellsWord : Tryz.prog.cellsOf 27 = 1:=by kernel_rfl
theorem cellsNum : Tryz.prog.cellsOf 29 = 4:=by kernel_rfl
def numD {H : Type} (X : Nat) : DataW H:=.agg [.lit (.int .u64 (wd X 0)),.lit (.int .u64 (wd X 1)),.lit (.int .u64 (wd X 2)),.lit (.int .u64 (wd X 3))]
theorem wf_u64 {x : Int} (h : (Lit.int .u64 x).wf = true) : 0 ≤ x ∧ x < 18446744073709551616:=by
 simp only [Lit.wf,Bool.and_eq_true,decide_eq_true_eq] at h
 have e1 : IntKind.u64.min = 0:=rfl
 have e2 : IntKind.u64.max = 18446744073709551615:=rfl
 omega
section
variable {H : Type} {enc : TypeId × Value → H}
theorem open_num {W : World} {base : Nat} {v : Value} {d : DataW H} {p : List MemPlace} (hv : Value.okWide Tryz.prog W .any base 29 v) (h : DataW.Trod enc Tryz.prog W 0 (fun _ => true) true 29 v d p) :
  ∃ X,X < top ∧ v = .agg #[vI vU (wd X 0),vI vU (wd X 1),vI vU (wd X 2),vI vU (wd X 3)] ∧ d = numD X ∧ p = []:=by
 obtain ⟨cs,rfl,hsz,_⟩ : ∃ cs,v = .agg cs ∧ cs.size = Tryz.prog.cellsOf 29 ∧ Row.okWide Tryz.prog W .any base 29 cs:=by
  simpa [Value.okWide,Tryz.underlying29] using hv
 rw [cellsNum] at hsz
 obtain ⟨c0,c1,c2,c3,rfl⟩:=Joins.array4 hsz
 obtain ⟨fuel,hf⟩:=h
 obtain ⟨y0,y1,y2,y3,m,hx,hy0,hy1,hy2,hy3⟩:=trod_array4 Tryz.underlying29 cellsWord hf
 obtain ⟨x0,e0,rfl,w0⟩:=DataW.trod_int Tryz.underlying27 hy0
 obtain ⟨x1,e1,rfl,w1⟩:=DataW.trod_int Tryz.underlying27 hy1
 obtain ⟨x2,e2,rfl,w2⟩:=DataW.trod_int Tryz.underlying27 hy2
 obtain ⟨x3,e3,rfl,w3⟩:=DataW.trod_int Tryz.underlying27 hy3
 simp at e0 e1 e2 e3
 subst e0 e1 e2 e3
 simp only [Prod.mk.injEq] at hx
 obtain ⟨rfl,rfl⟩:=hx
 obtain ⟨a0,b0⟩:=wf_u64 w0
 obtain ⟨a1,b1⟩:=wf_u64 w1
 obtain ⟨a2,b2⟩:=wf_u64 w2
 obtain ⟨a3,b3⟩:=wf_u64 w3
 obtain ⟨g0,g1,g2,g3⟩:=wd_ofWords a0 b0 a1 b1 a2 b2 a3 b3
 refine ⟨ofWords x0 x1 x2 x3,ofWords_lt b0 b1 b2 b3,?_,?_,rfl⟩
 ·
  rw [g0,g1,g2,g3]
 ·
  unfold numD
  rw [g0,g1,g2,g3]
end
end Go.Proofs.YtihophdbkjhopaaGreatDoor
namespace Go.Proofs.YtihophdbkjhopaaGreatDoor
open Go.ChangeShapes Go.WideShapes Go.ChangeAt Go.RowKit
open Go.Value renaming int → vI
open Go.IntKind renaming u64 → vU
open Go.Act renaming put → aP
open List renaming setIfInBounds_toArray → lA, set_cons_zero → lZ, set_cons_succ → lS
theorem cellsDig : Tryz.prog.cellsOf 23 = 32:=by kernel_rfl
theorem cellsB : Tryz.prog.cellsOf 5 = 1:=by kernel_rfl
def byteOf : Option Value → Nat
 | some (.int _ x) => x.toNat % 256
 | _ => 0
theorem byteOf_lt (v : Option Value) : byteOf v < 256:=by
 unfold byteOf
 split
 ·
  exact Nat.mod_lt _ (by decide)
 ·
  decide
section
variable {H : Type} {enc : TypeId × Value → H}
end
end Go.Proofs.YtihophdbkjhopaaGreatDoor
namespace Go.Proofs.YtihophdbkjhopaaGreatDoor
open Go.ChangeShapes Go.WideShapes Go.RowKit
open Go.Value renaming int → vI
open Go.IntKind renaming u64 → vU
open Go.Act renaming put → aP
open List renaming setIfInBounds_toArray → lA, set_cons_zero → lZ, set_cons_succ → lS
theorem underR17 : ∃ f0 f1 f2 f3 f4 f5 f6 f7 f8 f9 : Field,Tryz.prog.underlying 26 = some (.struct #[f0,f1,f2,f3,f4,f5,f6,f7,f8,f9]) ∧ (f0.offset = 0 ∧ f1.offset = 1 ∧ f2.offset = 2 ∧ f3.offset = 3 ∧ f4.offset = 4 ∧ f5.offset = 5 ∧ f6.offset = 6 ∧ f7.offset = 7 ∧ f8.offset = 8 ∧ f9.offset = 40) ∧
  (f0.type = 3 ∧ f1.type = 3 ∧ f2.type = 3 ∧ f3.type = 3 ∧ f4.type = 3 ∧ f5.type = 3 ∧ f6.type = 3 ∧ f7.type = 3) ∧ f8.type = 23 ∧ f9.type = 24 :=
 ⟨_,_,_,_,_,_,_,_,_,_,Tryz.underlying26,⟨rfl,rfl,rfl,rfl,rfl,rfl,rfl,rfl,rfl,rfl⟩,⟨rfl,rfl,rfl,rfl,rfl,rfl,rfl,rfl⟩,rfl,rfl⟩
theorem cellsR17 : Tryz.prog.cellsOf 26 = 41:=by kernel_rfl
theorem cellsTB17 : Tryz.prog.cellsOf 24 = 1:=by kernel_rfl
theorem drop_one {cs : Array Value} {k : Nat} (h : k < cs.size) : (cs.toList.drop k).take 1 = [cs[k]]:=by
 rw [List.drop_eq_getElem_cons (by simpa using h)]
 simp
section
variable {H : Type} {enc : TypeId × Value → H} {W : World} {base : Nat} {sp : Nat → Bool} {hd : Bool} {fuel : Nat}
theorem dig_of_trod {cs : List Value} {x : DataW H × List MemPlace} (hl : cs.length = 32) (hf : DataW.trod enc Tryz.prog W base sp hd fuel 23 cs = some x) : ∃ p : List Nat,p.length = 32 ∧ Byt p ∧ ∀ j,j < 32 → cs[j]? = some (.int .u8 (p.getD j 0 : Nat)):=by
 obtain ⟨d,q⟩:=x
 obtain ⟨xs,m,_,hx,_,hn,hi⟩:=DataW.trod_array Tryz.underlying23 hf
 refine ⟨(List.range 32).map fun i => byteOf cs[i]?,by simp,fun b hb => ?_,fun i h => ?_⟩
 ·
  obtain ⟨j,_,rfl⟩:=List.mem_map.1 hb
  exact byteOf_lt _
 ·
  have h1:=hi i h
  rw [cellsB,Nat.mul_one] at h1
  have hc : cs[i]? = some (cs[i]'(by omega)):=List.getElem?_eq_getElem (by omega)
  have hl : (cs.drop i).take 1 = [cs[i]'(by omega)]:=by
   rw [List.drop_eq_getElem_cons (by omega)]
   rfl
  have hxi : xs[i]? = some (xs[i]'(by omega)):=List.getElem?_eq_getElem (by omega)
  rw [hl,hxi] at h1
  obtain ⟨x,e,hz,wf⟩:=DataW.trod_int Tryz.underlying5 h1
  simp at e
  simp only [Lit.wf,Bool.and_eq_true,decide_eq_true_eq] at wf
  have e1 : IntKind.u8.min = 0:=rfl
  have e2 : IntKind.u8.max = 255:=rfl
  rw [List.getD_eq_getElem?_getD,List.getElem?_map,List.getElem?_range h]
  show cs[i]? = some (Value.int .u8 ((byteOf cs[i]? : Nat) : Int))
  rw [hc,e]
  show some (Value.int .u8 x) = some (.int .u8 ((x.toNat % 256 : Nat) : Int))
  have : ((x.toNat % 256 : Nat) : Int) = x:=by omega
  rw [this]
theorem open_rc {v : Value} {d : DataW H} {p : List MemPlace} (hv : Value.okWide Tryz.prog W .any base 26 v) (h : DataW.Trod enc Tryz.prog W 0 (fun _ => true) true 26 v d p) :
  ∃ (X : Array Value) (r : Rc),v = .agg X ∧ Rv17 W X r ∧ (r.bs.length : Int) ≤ 9223372036854775807:=by
 obtain ⟨f0,f1,f2,f3,f4,f5,f6,f7,f8,f9,hu,⟨o0,o1,o2,o3,o4,o5,o6,o7,o8,o9⟩,⟨t0,t1,t2,t3,t4,t5,t6,t7⟩,t8,t9⟩:=underR17
 obtain ⟨cs,rfl,hsz⟩:=okWide_struct hu hv
 rw [cellsR17] at hsz
 obtain ⟨fuel,hf⟩:=h
 obtain ⟨xs,n,_,hx,hl,hlen,hf⟩:=DataW.trod_struct hu hf
 have at_ : ∀ (i : Nat) (f : Field),(#[f0,f1,f2,f3,f4,f5,f6,f7,f8,f9] : Array Field)[i]? = some f → ∃ y,xs[i]? = some y:=by
  intro i f hi
  cases hy : xs[i]? with
  | none => exact absurd (List.getElem?_eq_none_iff.1 hy) (Nat.not_le.2 (by rw [hlen]; exact (Array.getElem?_eq_some_iff.1 hi).1))
  | some y => exact ⟨y,rfl⟩
 have each : ∀ (i k : Nat) (f : Field),(#[f0,f1,f2,f3,f4,f5,f6,f7,f8,f9] : Array Field)[i]? = some f → f.type = 3 → f.offset = k → (hk : k < 41) → ∃ z,cs[k]? = some (.int .i64 z):=by
  intro i k f hi ht ho hk
  have h1:=hf i f hi
  rw [ht,cellsI1,ho] at h1
  obtain ⟨y,hy⟩:=at_ i f hi
  have e : ((Value.agg cs).cells.toList.drop k).take 1 = [cs[k]'(by omega)]:=drop_one (cs:=cs) (by omega)
  rw [e,hy] at h1
  obtain ⟨z,h2,_⟩:=DataW.trod_int Tryz.underlying3 h1
  simp only [List.cons.injEq,and_true] at h2
  exact ⟨z,by rw [Array.getElem?_eq_getElem (by omega),h2]⟩
 obtain ⟨z0,e0⟩:=each 0 0 f0 rfl t0 o0 (by decide)
 obtain ⟨z1,e1⟩:=each 1 1 f1 rfl t1 o1 (by decide)
 obtain ⟨z2,e2⟩:=each 2 2 f2 rfl t2 o2 (by decide)
 obtain ⟨z3,e3⟩:=each 3 3 f3 rfl t3 o3 (by decide)
 obtain ⟨z4,e4⟩:=each 4 4 f4 rfl t4 o4 (by decide)
 obtain ⟨z5,e5⟩:=each 5 5 f5 rfl t5 o5 (by decide)
 obtain ⟨z6,e6⟩:=each 6 6 f6 rfl t6 o6 (by decide)
 obtain ⟨z7,e7⟩:=each 7 7 f7 rfl t7 o7 (by decide)
 have h8:=hf 8 f8 rfl
 rw [t8,cellsDig,o8] at h8
 obtain ⟨y8,hy8⟩:=at_ 8 f8 rfl
 rw [hy8] at h8
 obtain ⟨pv,hp32,hpb,hpc⟩:=dig_of_trod (by show ((cs.toList.drop 8).take 32).length = 32; simp; omega) h8
 have h9:=hf 9 f9 rfl
 rw [t9,cellsTB17,o9] at h9
 obtain ⟨⟨d9,p9⟩,hy9⟩:=at_ 9 f9 rfl
 have e9 : ((Value.agg cs).cells.toList.drop 40).take 1 = [cs[40]'(by omega)]:=drop_one (cs:=cs) (by omega)
 rw [e9,hy9] at h9
 obtain ⟨A,m,c,bs,hv9,hm,hb,hc⟩:=bs_of h9
 have hn : (m : Int) ≤ 9223372036854775807:=by
  rcases DataW.trod_slice Tryz.underlying24 h9 with ⟨h,_⟩ | ⟨a,len,cap,_,_,_,_,h,_,_,h1,h2,_⟩
  ·
   rw [hv9] at h
   simp only [List.cons.injEq,Value.slice.injEq,and_true] at h
   omega
  ·
   rw [hv9] at h
   simp only [List.cons.injEq,Value.slice.injEq,and_true] at h
   unfold maxLen at h2
   omega
 subst hm
 refine ⟨cs,⟨z0,z1,z2,z3,z4,z5,z6,z7,pv,bs⟩,rfl,⟨⟨hp32,hpb,hb.1⟩,A,c,?_,hc,hb⟩,hn⟩
 refine Array.ext_getElem? fun j => ?_
 have e8 : ∀ j,j < 32 → cs[8 + j]? = some (.int .u8 (pv.getD j 0 : Nat)):=fun j hj => by
  have:=hpc j hj
  have e : ((Value.agg cs).cells.toList.drop 8).take 32 = (cs.toList.drop 8).take 32:=rfl
  rw [e,List.getElem?_take_of_lt hj,List.getElem?_drop] at this
  simpa using this
 have e40 : cs[40]? = some (.slice A bs.length c):=by rw [Array.getElem?_eq_getElem (by omega),hv9]
 by_cases hj : j < 41
 ·
  by_cases h8 : 8 ≤ j ∧ j < 40
  ·
   obtain ⟨i,rfl⟩ : ∃ i,j = 8 + i:=⟨j - 8,by omega⟩
   rw [e8 i (by omega),rcC_pv _ _ (by omega)]
  ·
   have hcase : j = 0 ∨ j = 1 ∨ j = 2 ∨ j = 3 ∨ j = 4 ∨ j = 5 ∨ j = 6 ∨ j = 7 ∨ j = 40:=by omega
   rcases hcase with rfl | rfl | rfl | rfl | rfl | rfl | rfl | rfl | rfl
   ·
    rw [e0]; rfl
   ·
    rw [e1]; rfl
   ·
    rw [e2]; rfl
   ·
    rw [e3]; rfl
   ·
    rw [e4]; rfl
   ·
    rw [e5]; rfl
   ·
    rw [e6]; rfl
   ·
    rw [e7]; rfl
   ·
    rw [e40]; rfl
 ·
  rw [Array.getElem?_eq_none (by omega),Array.getElem?_eq_none (by rw [zki]; omega)]
end
end Go.Proofs.YtihophdbkjhopaaGreatDoor
namespace Go.Proofs.YtihophdbkjhopaaGreatDoor
open Go.RowKit
open Go.Value renaming int → vI
open Go.IntKind renaming u64 → vU
open Go.Act renaming put → aP
open List renaming setIfInBounds_toArray → lA, set_cons_zero → lZ, set_cons_succ → lS
theorem zbu (n l m : Int) (w : World) : Calls Tryz.prog 29 #[.int .i64 n,.int .i64 l,.int .i64 m] w fun e w' => e = .returned (.bool (decide (l ≤ n) && decide (n ≤ m))) ∧ w' = w:=by
 by_cases g0 : l ≤ n
 ·
  have d0 : decide (l ≤ n) = true:=decide_eq_true g0
  by_cases g1 : n ≤ m
  ·
   have d1 : decide (n ≤ m) = true:=decide_eq_true g1
   rw [show (decide (l ≤ n) && decide (n ≤ m)) = true by rw [d0,d1]; rfl]
   go_enter Tryz.func29,Tryz.ntmps29
   go_wp2
   go_ret
   exact ⟨rfl,rfl⟩
  ·
   have d1 : decide (n ≤ m) = false:=decide_eq_false g1
   rw [show (decide (l ≤ n) && decide (n ≤ m)) = false by rw [d0,d1]; rfl]
   go_enter Tryz.func29,Tryz.ntmps29
   go_wp2
   go_ret
   exact ⟨rfl,rfl⟩
 ·
  have d0 : decide (l ≤ n) = false:=decide_eq_false g0
  rw [show (decide (l ≤ n) && decide (n ≤ m)) = false by rw [d0]; rfl]
  go_enter Tryz.func29,Tryz.ntmps29
  go_wp2
  go_ret
  exact ⟨rfl,rfl⟩
theorem tell17_calls (X : Array Value) (r : Rc) (w : World) (hF : Rv17 w X r) (hL : r.bs.length ≤ 1000000000) :
  Calls Tryz.prog 30 #[.agg X] w fun e w' => e = .returned (.bool (kdC r)) ∧ Ext w w':=by
 obtain ⟨R,hR⟩ : ∃ R,R = kdC r:=⟨_,rfl⟩
 rw [← hR]
 have hE:=Ext.alloc w (.cells X 26)
 have hA:=RcAt.new w X
 have hk1:=kdC_1 (r:=r)
 have hk2:=kdC_2 (r:=r)
 obtain ⟨_,A,c,hX,hc,_⟩:=hF
 rw [hX] at hA
 obtain ⟨_,_,_,c3,_,_,_,c7,c8⟩:=hA.cells
 rw [← hX] at hA c3 c7 c8
 have HK:=veil (And.intro hk1 hk2)
 have HE:=veil hE
 have HR:=veil hR
 clear hA hX hc hk1 hk2 hE hR
 obtain ⟨dv,sq,mi,kd,st,zn,sr,vd,pv,bs⟩:=r
 simp only at c3 c7 c8 HK HR hL
 obtain ⟨n,hn⟩ : ∃ n,n = bs.length:=⟨_,rfl⟩
 rw [← hn] at c8 HK hL
 clear hn
 have KW:=veil (fun W => zbu vd 1 7 W)
 go_enter Tryz.func30,Tryz.ntmps30
 go_upto_region 1 with (fail)
 generalize w.alloc (.cells X 26) = w1 at *
 generalize w.heap.size = g at *
 by_cases k1 : kd = 1
 ·
  have e1 : (kd == 1) = true:=by simp [k1]
  have hd : R = decide (1 ≤ vd ∧ vd ≤ 7 ∧ n ≤ 500):=HR.out.trans (HK.out.1 k1)
  have HD:=veil hd
  clear hd HK HR
  obtain ⟨b,hb⟩ : ∃ b,b = (decide (1 ≤ vd) && decide (vd ≤ 7)):=⟨_,rfl⟩
  rw [← hb] at KW
  have HB:=veil hb
  clear hb
  subst k1
  cases b with
  | false =>
   obtain rfl : R = false:=HD.out.trans (decide_eq_false fun h => by
    have h2:=HB.out
    rw [decide_eq_true h.1,decide_eq_true h.2.1] at h2
    cases h2)
   go_wp2_with (go_at_call 29; refine (KW.out _).mono ?_; rintro e w2 ⟨rfl,rfl⟩)
   go_ret
   exact ⟨rfl,HE.out⟩
  | true =>
   have d2 : decide ((n : Int) ≤ 500) = R:=by
    have h2:=HB.out
    have hv : 1 ≤ vd ∧ vd ≤ 7:=by simpa using h2.symm
    rw [HD.out]
    by_cases v2 : n ≤ 500
    ·
     rw [decide_eq_true (show (n : Int) ≤ 500 by omega),decide_eq_true ⟨hv.1,hv.2,v2⟩]
    ·
     rw [decide_eq_false (show ¬ (n : Int) ≤ 500 by omega),decide_eq_false fun h => v2 h.2.2]
   go_wp2_with (go_at_call 29; refine (KW.out _).mono ?_; rintro e w2 ⟨rfl,rfl⟩)
   go_ret
   exact ⟨rfl,HE.out⟩
 have e1 : (kd == 1) = false:=by simp [k1]
 have HS:=veil (HR.out.trans (HK.out.2 k1))
 clear HR HK KW
 by_cases k2 : kd = 2
 ·
  have e2 : (kd == 2) = true:=by simp [k2]
  by_cases v0 : vd = 0
  rotate_left
  ·
   have d0 : (vd == 0) = false:=by simp [v0]
   obtain rfl : R = false:=HS.out.trans (decide_eq_false fun h => v0 h.2.1)
   subst k2
   go_wp2
   go_ret
   exact ⟨rfl,HE.out⟩
  have d0 : (vd == 0) = true:=by simp [v0]
  have d2 : ((n : Int) == 0) = R:=by
   rw [HS.out]
   by_cases v2 : n = 0
   ·
    rw [show ((n : Int) == 0) = true by simp [v2],decide_eq_true ⟨.inl k2,v0,v2⟩]
   ·
    rw [show ((n : Int) == 0) = false by simp [v2],decide_eq_false fun h => v2 h.2.2]
  subst k2 v0
  go_wp2
  go_ret
  exact ⟨rfl,HE.out⟩
 have e2 : (kd == 2) = false:=by simp [k2]
 by_cases k3 : kd = 3
 ·
  have e3 : (kd == 3) = true:=by simp [k3]
  by_cases v0 : vd = 0
  rotate_left
  ·
   have d0 : (vd == 0) = false:=by simp [v0]
   obtain rfl : R = false:=HS.out.trans (decide_eq_false fun h => v0 h.2.1)
   subst k3
   go_wp2
   go_ret
   exact ⟨rfl,HE.out⟩
  have d0 : (vd == 0) = true:=by simp [v0]
  have d2 : ((n : Int) == 0) = R:=by
   rw [HS.out]
   by_cases v2 : n = 0
   ·
    rw [show ((n : Int) == 0) = true by simp [v2],decide_eq_true ⟨.inr k3,v0,v2⟩]
   ·
    rw [show ((n : Int) == 0) = false by simp [v2],decide_eq_false fun h => v2 h.2.2]
  subst k3 v0
  go_wp2
  go_ret
  exact ⟨rfl,HE.out⟩
 have e3 : (kd == 3) = false:=by simp [k3]
 obtain rfl : R = false:=HS.out.trans (decide_eq_false fun h => h.1.elim k2 k3)
 go_wp2
 go_ret
 exact ⟨rfl,HE.out⟩
theorem mayC_and (r : Rc) : mayC r = (((((((decide (1 ≤ r.dv) && decide (r.dv ≤ 2147483647)) && (decide (0 ≤ r.sq) && decide (r.sq ≤ 1073741824))) && (decide (0 ≤ r.mi) && decide (r.mi ≤ 1073741824))) && (decide (0 ≤ r.st) && decide (r.st ≤ 31))) && (decide (0 ≤ r.zn) && decide (r.zn ≤ 7))) && (decide (0 ≤ r.sr) && decide (r.sr ≤ 2147483647))) && kdC r):=by
 unfold mayC rgC
 simp only [Bool.decide_and,Bool.and_assoc]
theorem zhr (X : Array Value) (r : Rc) (w : World) (hF : Rv17 w X r) (hL : r.bs.length ≤ 1000000000) :
  Calls Tryz.prog 11 #[.agg X] w fun e w' => e = .returned (.bool (mayC r)) ∧ Ext w w':=by
 rw [mayC_and]
 have hE:=Ext.alloc w (.cells X 26)
 have hA:=RcAt.new w X
 have hinf:=hF.info
 have KT:=veil (tell17_calls X r _ (hF.ext hE) hL)
 obtain ⟨_,A,c,hX,hc,_⟩:=hF
 rw [hX] at hA
 obtain ⟨c0,c1,c2,_,c4,c5,c6,_,_⟩:=hA.cells
 rw [← hX] at hA c0 c1 c2 c4 c5 c6
 have HE:=veil hE
 have HA:=veil (And.intro hA hinf)
 obtain ⟨R,hR⟩ : ∃ R,R = kdC r:=⟨_,rfl⟩
 rw [← hR] at KT ⊢
 clear hA hX hc hE hR hinf
 obtain ⟨dv,sq,mi,kd,st,zn,sr,vd,pv,bs⟩:=r
 simp only at c0 c1 c2 c4 c5 c6 ⊢
 have K1:=fun W => zbu dv 1 2147483647 W
 have K2:=fun W => zbu sq 0 1073741824 W
 have K3:=fun W => zbu mi 0 1073741824 W
 have K4:=fun W => zbu st 0 31 W
 have K5:=fun W => zbu zn 0 7 W
 have K6:=fun W => zbu sr 0 2147483647 W
 generalize (decide (1 ≤ dv) && decide (dv ≤ 2147483647)) = b1 at *
 generalize (decide (0 ≤ sq) && decide (sq ≤ 1073741824)) = b2 at *
 generalize (decide (0 ≤ mi) && decide (mi ≤ 1073741824)) = b3 at *
 generalize (decide (0 ≤ st) && decide (st ≤ 31)) = b4 at *
 generalize (decide (0 ≤ zn) && decide (zn ≤ 7)) = b5 at *
 generalize (decide (0 ≤ sr) && decide (sr ≤ 2147483647)) = b6 at *
 have H:=veil (And.intro K1 (And.intro K2 (And.intro K3 (And.intro K4 (And.intro K5 K6)))))
 clear K1 K2 K3 K4 K5 K6
 go_enter Tryz.func11,Tryz.ntmps11
 go_upto_region 1 with (fail)
 generalize w.alloc (.cells X 26) = w1 at *
 generalize w.heap.size = g at *
 by_cases q1 : b1 = false
 ·
  subst q1
  go_wp2_with (go_at_call 29; first
   | (with_reducible refine (H.out.1 _).mono ?_; rintro e w2 ⟨rfl,rfl⟩))
  go_ret
  exact ⟨by simp,HE.out⟩
 obtain rfl : b1 = true:=by simpa using q1
 clear q1
 by_cases q2 : b2 = false
 ·
  subst q2
  go_wp2_with (go_at_call 29; first
   | (with_reducible refine (H.out.1 _).mono ?_; rintro e w2 ⟨rfl,rfl⟩)
   | (with_reducible refine (H.out.2.1 _).mono ?_; rintro e w2 ⟨rfl,rfl⟩))
  go_ret
  exact ⟨by simp,HE.out⟩
 obtain rfl : b2 = true:=by simpa using q2
 clear q2
 by_cases q3 : b3 = false
 ·
  subst q3
  go_wp2_with (go_at_call 29; first
   | (with_reducible refine (H.out.1 _).mono ?_; rintro e w2 ⟨rfl,rfl⟩)
   | (with_reducible refine (H.out.2.1 _).mono ?_; rintro e w2 ⟨rfl,rfl⟩)
   | (with_reducible refine (H.out.2.2.1 _).mono ?_; rintro e w2 ⟨rfl,rfl⟩))
  go_ret
  exact ⟨by simp,HE.out⟩
 obtain rfl : b3 = true:=by simpa using q3
 clear q3
 by_cases q4 : b4 = false
 ·
  subst q4
  go_wp2_with (go_at_call 29; first
   | (with_reducible refine (H.out.1 _).mono ?_; rintro e w2 ⟨rfl,rfl⟩)
   | (with_reducible refine (H.out.2.1 _).mono ?_; rintro e w2 ⟨rfl,rfl⟩)
   | (with_reducible refine (H.out.2.2.1 _).mono ?_; rintro e w2 ⟨rfl,rfl⟩)
   | (with_reducible refine (H.out.2.2.2.1 _).mono ?_; rintro e w2 ⟨rfl,rfl⟩))
  go_ret
  exact ⟨by simp,HE.out⟩
 obtain rfl : b4 = true:=by simpa using q4
 clear q4
 by_cases q5 : b5 = false
 ·
  subst q5
  go_wp2_with (go_at_call 29; first
   | (with_reducible refine (H.out.1 _).mono ?_; rintro e w2 ⟨rfl,rfl⟩)
   | (with_reducible refine (H.out.2.1 _).mono ?_; rintro e w2 ⟨rfl,rfl⟩)
   | (with_reducible refine (H.out.2.2.1 _).mono ?_; rintro e w2 ⟨rfl,rfl⟩)
   | (with_reducible refine (H.out.2.2.2.1 _).mono ?_; rintro e w2 ⟨rfl,rfl⟩)
   | (with_reducible refine (H.out.2.2.2.2.1 _).mono ?_; rintro e w2 ⟨rfl,rfl⟩))
  go_ret
  exact ⟨by simp,HE.out⟩
 obtain rfl : b5 = true:=by simpa using q5
 clear q5
 by_cases q6 : b6 = false
 ·
  subst q6
  go_wp2_with (go_at_call 29; first
   | (with_reducible refine (H.out.1 _).mono ?_; rintro e w2 ⟨rfl,rfl⟩)
   | (with_reducible refine (H.out.2.1 _).mono ?_; rintro e w2 ⟨rfl,rfl⟩)
   | (with_reducible refine (H.out.2.2.1 _).mono ?_; rintro e w2 ⟨rfl,rfl⟩)
   | (with_reducible refine (H.out.2.2.2.1 _).mono ?_; rintro e w2 ⟨rfl,rfl⟩)
   | (with_reducible refine (H.out.2.2.2.2.1 _).mono ?_; rintro e w2 ⟨rfl,rfl⟩)
   | (with_reducible refine (H.out.2.2.2.2.2 _).mono ?_; rintro e w2 ⟨rfl,rfl⟩))
  go_ret
  exact ⟨by simp,HE.out⟩
 obtain rfl : b6 = true:=by simpa using q6
 clear q6
 go_wp2_with (first
  | (go_at_call 29; first
      | (with_reducible refine (H.out.1 _).mono ?_; rintro e w2 ⟨rfl,rfl⟩)
      | (with_reducible refine (H.out.2.1 _).mono ?_; rintro e w2 ⟨rfl,rfl⟩)
      | (with_reducible refine (H.out.2.2.1 _).mono ?_; rintro e w2 ⟨rfl,rfl⟩)
      | (with_reducible refine (H.out.2.2.2.1 _).mono ?_; rintro e w2 ⟨rfl,rfl⟩)
      | (with_reducible refine (H.out.2.2.2.2.1 _).mono ?_; rintro e w2 ⟨rfl,rfl⟩)
      | (with_reducible refine (H.out.2.2.2.2.2 _).mono ?_; rintro e w2 ⟨rfl,rfl⟩))
  | ((with_reducible refine zac 32 ?_); refine zeq rfl 26 _ rfl g rfl 26 X (0,0) _ HA.out.1 Tryz.underlying26 rfl HA.out.2 ?_)
  | (go_at_call 30; refine KT.out.mono ?_; rintro e w2 ⟨rfl,hE2⟩))
 go_ret
 exact ⟨by simp,HE.out.trans hE2⟩
end Go.Proofs.YtihophdbkjhopaaGreatDoor
