/-
  Of Rck Made2 SMath SSpec SBits HBase SWords HRot HWords HMix.
-/
import Derived.WalkKit
import Derived.Test.YtihophdbkjhopaaGreatDoorRows
import Derived.Deep.MidRow
import Derived.Deep.WholeRow
import Derived.ChangeKeysEq
import Derived.WalkSpells
import Derived.WalkLawsBesides
import Derived.Deep.LoopGhost
import Derived.BigQuiet
import Derived.Deep.QuietTactic
import Derived.Deep.RegionWith
import Derived.Deep.Cut
import Derived.Deep.CutRange
import Derived.Deep.RegionHeld3
import Derived.StillTailTactics
import Derived.IntWalk
import Derived.Test.YtihophdbkjhopaaGreatDoorZD6
import Derived.Test.YtihophdbkjhopaaGreatDoorZD2
import Derived.Test.YtihophdbkjhopaaGreatDoorZD1
set_option maxRecDepth 1000000
set_option maxHeartbeats 20000000
namespace Go.Proofs.YtihophdbkjhopaaGreatDoor
open Go.RowKit
open Go.Value renaming int → vI
open Go.IntKind renaming u64 → vU
open Go.Act renaming put → aP
open List renaming setIfInBounds_toArray → lA, set_cons_zero → lZ, set_cons_succ → lS
theorem issue17_ways {L : Low} {w' : World} {r : Rc} {D : Nat} {x ev : Value} (h : IssueA17 L w' r D x ev) : (∃ A c k,x = .slice A 0 c ∧ ev = .iface 37 (.int .i64 k)) ∨
  (mayC r = true ∧ L.md D = true ∧ ∃ y s,L.sg D (L.dg (rcB r)) = some (y,s) ∧ (∃ A c,x = .slice A (signedB (rcB r) y s).length c ∧ (signedB (rcB r) y s).length ≤ c ∧ Bs w' A (signedB (rcB r) y s)) ∧ ev = .nilIface):=by
 rcases h with ⟨_,⟨A,c,h1⟩,h2⟩ | ⟨_,_,_,⟨A,c,h1⟩,h2⟩ | h
 ·
  exact .inl ⟨A,c,_,h1,h2⟩
 ·
  exact .inl ⟨A,c,_,h1,h2⟩
 ·
  exact .inr h
theorem body17_may {w' : World} {r : Rc} {x ev : Value} (h : BodyA17 w' r x ev) (hm : mayC r = true) : (∃ A c,x = .slice A (rcB r).length c ∧ (rcB r).length ≤ c ∧ Bs w' A (rcB r)) ∧ ev = .nilIface:=by
 rcases h with ⟨hn,_⟩ | ⟨_,h⟩
 ·
  rw [hm] at hn; cases hn
 ·
  exact h
theorem signedB_len (body : List Nat) (r s : Nat) : (signedB body r s).length = body.length + 70:=by
 unfold signedB
 simp only [encF,List.length_append,zev,List.length_nil,zcx]
 omega
theorem signed17_short {r : Rc} (h : mayC r = true) (h32 : r.pv.length = 32) (y s : Nat) : (signedB (rcB r) y s).length ≤ 5000:=by
 rw [signedB_len,zcu h32]
 have:=(zbt h).2
 omega
theorem back17_walk {L : Low} {I : World → Prop} (R : LowR L) (C : Code17 L I) (X : Array Value) (r : Rc) (D : Nat) (A : Option Addr) (m c : Nat) (bs : List Nat) (hm : m = bs.length) (hmc : m ≤ c) (hD : D < top) (w : World) (hI : I w) (hS : Bs w A bs) (hF : Rv17 w X r) (hn9 : r.bs.length ≤ 9223372036854775807) :
  Calls Tryz.prog 6 #[.agg X,nv D,.slice A m c] w fun e w' => e = .returned (.bool true) ∧ Ext w w':=by
 have HS:=veil (And.intro hm (And.intro hmc (And.intro hI (And.intro hS (And.intro hD hF)))))
 have HC:=veil C
 have HR:=veil R
 have HXi:=veil hF.info
 unfold nv
 have h2:=zer w (.cells X 26) (.cells (nc D) 29)
 have hE0:=zfm w (.cells X 26) (.cells (nc D) 29)
 obtain ⟨_,A0,c0,hX,hc0,_⟩:=hF
 have HX0:=veil hX
 clear hX hm hmc hI hS C R hD
 go_enter Tryz.func6,Tryz.ntmps6
 go_upto_region 1 with (fail)
 obtain ⟨g3,hg3⟩ : ∃ g,g = w.heap.size:=⟨_,rfl⟩
 obtain ⟨g4,hg4⟩ : ∃ g,g = w.heap.size + 1:=⟨_,rfl⟩
 rw [← hg4,← hg3] at h2 ⊢
 generalize (w.alloc (.cells X 26)).alloc (.cells (nc D) 29) = w0 at *
 have KU:=veil (up17_calls HC.out w0 (HC.out.keep _ _ HS.out.2.2.1 hE0))
 have H0:=veil (And.intro hE0 h2)
 clear hE0 h2 hg3 hg4
 go_upto_region 2 with (go_at_call 7; refine KU.out.mono ?_; rintro e w1 ⟨rfl,hE1⟩)
 have H1:=veil (And.intro (H0.out.1.trans hE1) (And.intro (hE1.block H0.out.2.1) (hE1.block H0.out.2.2)))
 have hAt : RcAt w1 g3 (rcC r (.slice A0 r.bs.length c0)):=by rw [← HX0.out]; exact H1.out.2.1
 have c8:=hAt.cells.2.2.2.2.2.2.2.2
 obtain ⟨n,hn⟩ : ∃ n,n = r.bs.length:=⟨_,rfl⟩
 rw [← hn] at c8 hn9
 have HN:=veil hn
 clear hE1 H0 KU hAt hc0 hn
 by_cases p0 : (3000 : Int) < (n : Int)
 ·
  have hd : decide ((3000 : Int) < (n : Int)) = true:=decide_eq_true p0
  go_wp2
  go_ret
  exact ⟨rfl,H1.out.1⟩
 have hd : decide ((3000 : Int) < (n : Int)) = false:=decide_eq_false p0
 by_cases p1 : (5000 : Int) < (m : Int)
 ·
  have hd1 : decide ((5000 : Int) < (m : Int)) = true:=decide_eq_true p1
  go_wp2
  go_ret
  exact ⟨rfl,H1.out.1⟩
 have hd1 : decide ((5000 : Int) < (m : Int)) = false:=decide_eq_false p1
 have hle : m ≤ 5000:=by omega
 have HL:=veil (And.intro hle (show r.bs.length ≤ 3000 by have:=HN.out; omega))
 have KI : Hid (Calls Tryz.prog 10 #[.agg X,.agg (nc D)] w1 fun e w' => ∃ x ev,e = .returned (.tuple #[x,ev]) ∧ Ext w1 w' ∧ IssueA17 L w' r D x ev):=veil (HC.out.issue X r D w1 (HC.out.keep _ _ HS.out.2.2.1 H1.out.1) (HS.out.2.2.2.2.2.ext H1.out.1) HL.out.2 HS.out.2.2.2.2.1)
 clear hle
 go_upto_region 5 with (first
  | ((with_reducible refine zab 32 ?_); refine wpList_load_row rfl 26 _ rfl g3 rfl 26 X (0,0) _ H1.out.2.1 Tryz.underlying26 rfl HXi.out ?_)
  | ((with_reducible refine zab 33 ?_); refine wpList_load_row rfl 29 _ rfl g4 rfl 29 (nc D) (0,0) _ H1.out.2.2 Tryz.underlying29 rfl (iN D) ?_)
  | (go_at_call 10; refine KI.out.mono ?_; rintro e w2 ⟨x,ev,rfl,hE2,hA⟩))
 have H2:=veil (And.intro (H1.out.1.trans hE2) (And.intro (hE2.block H1.out.2.1) (hE2.block H1.out.2.2)))
 have e1:=eqCodeNil
 have e2:=eqNilNil
 clear hE2 H1 KI c8 hd hd1
 rcases issue17_ways hA with ⟨A2,c2,k,rfl,rfl⟩ | ⟨hmt,hmd,y,s,hsg,⟨A2,c2,rfl,hc2,hB2⟩,rfl⟩
 ·
  go_upto_region 10 with (fail)
  have H9:=veil H2.out.1
  clear H2 e1 e2 hA
  have KO:=veil (HC.out.open_ A m c bs w2 (HC.out.keep _ _ HS.out.2.2.1 H9.out) HS.out.1 HS.out.2.1 HL.out.1 (HS.out.2.2.2.1.ext H9.out))
  go_upto_region 11 with (first
   | (go_at_call 15; refine KO.out.mono ?_; rintro e wa ⟨T,D1,G,ev,rfl,hEa,hA⟩)
   | ((with_reducible refine zae ?_); refine wpList_store_row rfl 26 _ _ rfl wa.heap.size T rfl rfl 26 _ (zay wa _ _ _).1 (zaj hA).1.1 (zaj hA).1.2.1 (zaj hA).1.2.2 ?_)
   | ((with_reducible refine zae ?_); refine wpList_store_row rfl 23 _ _ rfl (wa.heap.size + 1) D1 rfl rfl 23 _ (zar _ (zay wa _ _ _).2.1 (Nat.lt_succ_self _)) (zaj hA).2.1.1 (zaj hA).2.1.2.1 (zaj hA).2.1.2.2 ?_)
   | ((with_reducible refine zae ?_); refine wpList_store_row rfl 46 _ _ rfl (wa.heap.size + 1 + 1) G rfl rfl 46 _ (zar _ (zar _ (zay wa _ _ _).2.2 (by omega)) (by omega)) (zaj hA).2.2.1 (zaj hA).2.2.2.1 (zaj hA).2.2.2.2 ?_))
  change Code.wp _ _ _ _ (stored3 wa T D1 G)
  have hF:=zda wa T D1 G
  generalize stored3 wa T D1 G = wb at *
  obtain ⟨g14,hg14⟩ : ∃ g,g = wa.heap.size:=⟨_,rfl⟩
  obtain ⟨g15,hg15⟩ : ∃ g,g = wa.heap.size + 1:=⟨_,rfl⟩
  obtain ⟨g16,hg16⟩ : ∃ g,g = wa.heap.size + 1 + 1:=⟨_,rfl⟩
  rw [← hg16,← hg15,← hg14] at hF ⊢
  have HB:=veil (And.intro (H9.out.trans (hEa.trans hF.1)) (And.intro hF.2.1 hF.2.2.2))
  have HF:=veil hF.1
  have e3:=neCodeNil
  have e4:=neNilNil
  clear hF hg14 hg15 hg16 hEa KO H9
  rcases hA with ⟨_,rfl,rfl,rfl,rfl⟩ | ⟨u,body,y,z,hop,hRu,rfl,rfl,rfl⟩
  ·
   go_wp2
   go_ret
   exact ⟨rfl,HB.out.1⟩
  ·
   have HO:=veil (zfw HS.out.2.2.2.1.1 hop)
   have hRu':=hRu.ext HF.out
   have hTi:=hRu.info
   have hul : u.bs.length ≤ 500:=(zbt HO.out.2.1).2
   have KB : Hid (Calls Tryz.prog 9 #[.agg T] wb fun e w' => ∃ v ev,e = .returned (.tuple #[v,ev]) ∧ Ext wb w' ∧ BodyA17 w' u v ev):=veil (HC.out.body T u wb hRu' (by omega))
   clear hop hRu hRu'
   go_upto_region 14 with (first
    | ((with_reducible refine zab 73 ?_); refine wpList_load_row rfl 26 _ rfl g14 rfl 26 T (0,0) _ HB.out.2.1 Tryz.underlying26 rfl hTi ?_)
    | (go_at_call 9; refine KB.out.mono ?_; rintro e wc ⟨v,ev,rfl,hEc,hA⟩))
   obtain ⟨⟨A3,c3,rfl,hc3,hB3⟩,rfl⟩:=body17_may hA HO.out.2.1
   have HD:=veil (And.intro (HB.out.1.trans hEc) (And.intro (hEc.block HB.out.2.2) hB3))
   have HU:=veil (And.intro (zcu HO.out.2.2.1.1) hul)
   obtain ⟨l3,hl3⟩ : ∃ l,l = (rcB u).length:=⟨_,rfl⟩
   rw [← hl3]
   have HL3:=veil hl3
   have e5:=eqNilNil
   clear hA hEc HB HF KB hB3 e3 e4 hTi hul hc3 hl3
   refine zfa 15 [(true,List.range 15)] (by kernel_rfl) (by kernel_rfl) fun Q' hQ' => ?_
   refine' zcj (A:=_) _ rfl (by kernel_rfl) ?j3 ?j4
   case j3 =>
    intro D' hD hN
    have k1 : ∀ v : Gw D',(convert 24 9 (.slice A3 l3 c3)).run Tryz.prog v.val = .ok (.string (strL (rcB u))) v.val:=fun v => zge (HD.out.2.2.ext (hD.grown _ v.property)) HL3.out
    have k2 : ∀ v : Gw D',(convert 24 9 (.slice A m c)).run Tryz.prog v.val = .ok (.string (strL bs)) v.val:=fun v => zge (HS.out.2.2.2.1.ext (HD.out.1.trans (hD.grown _ v.property))) HS.out.1
    have KS:=veil (fun v : Gw D' => hD.calls (f:=23) (args:=#[.string (strL (rcB u)),.agg (gc y z)]) (v:=.string (strL bs)) (fun W _ => by
     have h:=zgh HR.out (rcB u) (rcB_byt HO.out.2.2.1) (by have:=HU.out; omega) y z W
     rw [HO.out.1] at h
     exact h) v)
    simp only [List.range,List.range.loop,pickI,consO,List.getElem?_cons_zero,List.getElem?_cons_succ]
    iterate 8 (go_big_quiet_step (fail))
    go_big_quiet_want
    refine zhe (.agg (gc y z)) (fun v => zht rfl rfl (hD.block HD.out.2.1 v) Tryz.underlying46 rfl (iSg y z)) ?_
    simp only [aP,lA,lZ,lS]
    go_big_quiet_on
    repeat (go_big_quiet_step (exact KS.out _))
    exact zdj
   refine zea hQ' fun wd hEd => ?_
   have hEz:=HD.out.1.trans hEd
   clear hQ' hEd HD e5
   go_wp2
   go_ret
   exact ⟨rfl,hEz⟩
 ·
  have HM:=veil (And.intro hmt (And.intro hmd (And.intro hsg (And.intro hc2 hB2))))
  obtain ⟨l,hl⟩ : ∃ l,l = (signedB (rcB r) y s).length:=⟨_,rfl⟩
  rw [← hl]
  have HLL:=veil hl
  obtain ⟨q,hq⟩ : ∃ q,q = qc (L.pub D).1 (L.pub D).2 false:=⟨_,rfl⟩
  have HQ:=veil (And.intro hq (And.intro (show (Tryz.prog.info? 44).map (·.size) = some q.size by rw [hq]; exact iT _ _ _) (And.intro (show q.all (·.oneCell') = true by rw [hq]; exact qc_one _ _ _) (show 9 = q.size by rw [hq]; rfl))))
  have K1 : Hid (∀ W,Calls Tryz.prog 22 #[.agg (nc D)] W fun e w' => e = .returned (.tuple #[.agg q,.nilIface]) ∧ Ext W w'):=veil (fun W => by
   have h:=HC.out.pub D W HM.out.2.1
   unfold qv nv at h
   rw [← HQ.out.1] at h
   exact h)
  have h32 : r.pv.length = 32:=HS.out.2.2.2.2.2.1.1
  have htop:=L.sgt D _ y s hsg
  have hop:=open_issue (x:=y) (y:=s) hmt h32 htop.1 htop.2
  have hvf:=L.vfs D (L.dg (rcB r)) y s hmd (L.dgb _) hsg
  have K2 : Hid (∀ W,Ext w2 W → Calls Tryz.prog 17 #[.slice A2 l c2,.agg q] W fun e w' => ∃ T,e = .returned (.tuple #[.agg T,.nilIface]) ∧ Ext W w' ∧ Rv17 w' T r):=veil (fun W hW => by
   have hp:=L.pubt D HM.out.2.1
   have h:=HC.out.check (L.pub D).1 (L.pub D).2 false A2 l c2 (signedB (rcB r) y s) W (HC.out.keep _ _ HS.out.2.2.1 (H2.out.1.trans hW)) hp.1 hp.2 HLL.out (by rw [HLL.out]; exact HM.out.2.2.2.1) (by rw [HLL.out]; exact signed17_short hmt h32 y s) (HM.out.2.2.2.2.ext hW)
   unfold qv at h
   rw [← HQ.out.1] at h
   refine h.mono ?_
   rintro e w' ⟨T,ev,rfl,hE,hT⟩
   obtain ⟨h1,rfl⟩:=check17_yes hT hop hvf
   exact ⟨T,rfl,hE,h1⟩)
  clear hmt hmd hsg hc2 hB2 hl hq hop hvf htop h32
  go_upto_region 7 with (first
   | ((with_reducible refine zab 40 ?_); refine wpList_load_row rfl 29 _ rfl g4 rfl 29 (nc D) (0,0) _ H2.out.2.2 Tryz.underlying29 rfl (iN D) ?_)
   | (go_at_call 22; refine (K1.out _).mono ?_; rintro e w3 ⟨rfl,hE3⟩)
   | ((with_reducible refine zae ?_); refine wpList_store_row rfl 44 _ _ rfl w3.heap.size q rfl rfl 44 _ (zad w3 _) HQ.out.2.1 HQ.out.2.2.2 HQ.out.2.2.1 ?_; rw [World.setRow_alloc_new]))
  have h10:=zad w3 (.cells q 44)
  have hE4:=hE3.trans (Ext.alloc w3 (.cells q 44))
  obtain ⟨g10,hg10⟩ : ∃ g,g = w3.heap.size:=⟨_,rfl⟩
  rw [← hg10] at h10 ⊢
  generalize w3.alloc (.cells q 44) = w4 at *
  have H4:=veil (And.intro hE4 (And.intro (hE4.block H2.out.2.1) h10))
  clear hE3 hE4 h10 hg10 K1
  go_upto_region 8 with (first
   | ((with_reducible refine zab 46 ?_); refine wpList_load_row rfl 44 _ rfl g10 rfl 44 q (0,0) _ H4.out.2.2 Tryz.underlying44 rfl HQ.out.2.1 ?_)
   | (go_at_call 17; refine (K2.out _ H4.out.1).mono ?_; rintro e w5 ⟨T,rfl,hE5,hRT⟩)
   | ((with_reducible refine zae ?_); refine wpList_store_row rfl 26 _ _ rfl w5.heap.size T rfl rfl 26 _ (zad w5 _) hRT.info hRT.size.symm hRT.one ?_; rw [World.setRow_alloc_new]))
  have h12:=zad w5 (.cells T 26)
  have hE6:=hE5.trans (Ext.alloc w5 (.cells T 26))
  have hRT6:=hRT.ext (Ext.alloc w5 (.cells T 26))
  obtain ⟨g12,hg12⟩ : ∃ g,g = w5.heap.size:=⟨_,rfl⟩
  rw [← hg12] at h12 ⊢
  generalize w5.alloc (.cells T 26) = w6 at *
  have H6:=veil (And.intro (H4.out.1.trans hE6) (And.intro (hE6.block H4.out.2.1) h12))
  have KS:=veil (rsame17_calls T X r w6 hRT6 (HS.out.2.2.2.2.2.ext (H2.out.1.trans H6.out.1)))
  have hTi:=hRT6.info
  have n6:=neNilNil
  clear hE5 hE6 h12 hg12 H4 K2 hRT hRT6
  go_upto_region 10 with (first
   | ((with_reducible refine zab 57 ?_); refine zdq rfl 26 _ rfl g12 rfl 26 T (0,0) _ H6.out.2.2 Tryz.underlying26 rfl hTi ?_)
   | ((with_reducible refine zab 58 ?_); refine zdq rfl 26 _ rfl g3 rfl 26 X (0,0) _ H6.out.2.1 Tryz.underlying26 rfl HXi.out ?_)
   | (go_at_call 18; refine KS.out.mono ?_; rintro e w7 ⟨rfl,hE7⟩))
  have H9:=veil (H2.out.1.trans (H6.out.1.trans hE7))
  clear hA H2 H6 hE7 n6 KS HM HLL HQ e1 e2 hTi
  have KO:=veil (HC.out.open_ A m c bs w7 (HC.out.keep _ _ HS.out.2.2.1 H9.out) HS.out.1 HS.out.2.1 HL.out.1 (HS.out.2.2.2.1.ext H9.out))
  go_upto_region 11 with (first
   | (go_at_call 15; refine KO.out.mono ?_; rintro e wa ⟨U,D1,G,ev,rfl,hEa,hA⟩)
   | ((with_reducible refine zae ?_); refine wpList_store_row rfl 26 _ _ rfl wa.heap.size U rfl rfl 26 _ (zay wa _ _ _).1 (zaj hA).1.1 (zaj hA).1.2.1 (zaj hA).1.2.2 ?_)
   | ((with_reducible refine zae ?_); refine wpList_store_row rfl 23 _ _ rfl (wa.heap.size + 1) D1 rfl rfl 23 _ (zar _ (zay wa _ _ _).2.1 (Nat.lt_succ_self _)) (zaj hA).2.1.1 (zaj hA).2.1.2.1 (zaj hA).2.1.2.2 ?_)
   | ((with_reducible refine zae ?_); refine wpList_store_row rfl 46 _ _ rfl (wa.heap.size + 1 + 1) G rfl rfl 46 _ (zar _ (zar _ (zay wa _ _ _).2.2 (by omega)) (by omega)) (zaj hA).2.2.1 (zaj hA).2.2.2.1 (zaj hA).2.2.2.2 ?_))
  change Code.wp _ _ _ _ (stored3 wa U D1 G)
  have hF:=zda wa U D1 G
  generalize stored3 wa U D1 G = wb at *
  obtain ⟨g14,hg14⟩ : ∃ g,g = wa.heap.size:=⟨_,rfl⟩
  obtain ⟨g15,hg15⟩ : ∃ g,g = wa.heap.size + 1:=⟨_,rfl⟩
  obtain ⟨g16,hg16⟩ : ∃ g,g = wa.heap.size + 1 + 1:=⟨_,rfl⟩
  rw [← hg16,← hg15,← hg14] at hF ⊢
  have HB:=veil (And.intro (H9.out.trans (hEa.trans hF.1)) (And.intro hF.2.1 hF.2.2.2))
  have HF:=veil hF.1
  have e3:=neCodeNil
  have e4:=neNilNil
  clear hF hg14 hg15 hg16 hEa KO H9
  rcases hA with ⟨_,rfl,rfl,rfl,rfl⟩ | ⟨u,body,y,z,hop,hRu,rfl,rfl,rfl⟩
  ·
   go_wp2
   go_ret
   exact ⟨rfl,HB.out.1⟩
  ·
   have HO:=veil (zfw HS.out.2.2.2.1.1 hop)
   have hRu':=hRu.ext HF.out
   have hTi:=hRu.info
   have hul : u.bs.length ≤ 500:=(zbt HO.out.2.1).2
   have KB : Hid (Calls Tryz.prog 9 #[.agg U] wb fun e w' => ∃ v ev,e = .returned (.tuple #[v,ev]) ∧ Ext wb w' ∧ BodyA17 w' u v ev):=veil (HC.out.body U u wb hRu' (by omega))
   clear hop hRu hRu'
   go_upto_region 14 with (first
    | ((with_reducible refine zab 73 ?_); refine wpList_load_row rfl 26 _ rfl g14 rfl 26 U (0,0) _ HB.out.2.1 Tryz.underlying26 rfl hTi ?_)
    | (go_at_call 9; refine KB.out.mono ?_; rintro e wc ⟨v,ev,rfl,hEc,hA⟩))
   obtain ⟨⟨A3,c3,rfl,hc3,hB3⟩,rfl⟩:=body17_may hA HO.out.2.1
   have HD:=veil (And.intro (HB.out.1.trans hEc) (And.intro (hEc.block HB.out.2.2) hB3))
   have HU:=veil (And.intro (zcu HO.out.2.2.1.1) hul)
   obtain ⟨l3,hl3⟩ : ∃ l,l = (rcB u).length:=⟨_,rfl⟩
   rw [← hl3]
   have HL3:=veil hl3
   have e5:=eqNilNil
   clear hA hEc HB HF KB hB3 e3 e4 hTi hul hc3 hl3
   refine zfa 15 [(true,List.range 15)] (by kernel_rfl) (by kernel_rfl) fun Q' hQ' => ?_
   refine' zcj (A:=_) _ rfl (by kernel_rfl) ?j1 ?j2
   case j1 =>
    intro D' hD hN
    have k1 : ∀ v : Gw D',(convert 24 9 (.slice A3 l3 c3)).run Tryz.prog v.val = .ok (.string (strL (rcB u))) v.val:=fun v => zge (HD.out.2.2.ext (hD.grown _ v.property)) HL3.out
    have k2 : ∀ v : Gw D',(convert 24 9 (.slice A m c)).run Tryz.prog v.val = .ok (.string (strL bs)) v.val:=fun v => zge (HS.out.2.2.2.1.ext (HD.out.1.trans (hD.grown _ v.property))) HS.out.1
    have KS:=veil (fun v : Gw D' => hD.calls (f:=23) (args:=#[.string (strL (rcB u)),.agg (gc y z)]) (v:=.string (strL bs)) (fun W _ => by
     have h:=zgh HR.out (rcB u) (rcB_byt HO.out.2.2.1) (by have:=HU.out; omega) y z W
     rw [HO.out.1] at h
     exact h) v)
    simp only [List.range,List.range.loop,pickI,consO,List.getElem?_cons_zero,List.getElem?_cons_succ]
    iterate 8 (go_big_quiet_step (fail))
    go_big_quiet_want
    refine zhe (.agg (gc y z)) (fun v => zht rfl rfl (hD.block HD.out.2.1 v) Tryz.underlying46 rfl (iSg y z)) ?_
    simp only [aP,lA,lZ,lS]
    go_big_quiet_on
    repeat (go_big_quiet_step (exact KS.out _))
    exact zdj
   refine zea hQ' fun wd hEd => ?_
   have hEz:=HD.out.1.trans hEd
   clear hQ' hEd HD e5
   go_wp2
   go_ret
   exact ⟨rfl,hEz⟩
section
variable {P : Program} {Q : Exit → Act → World → Prop} {l : List Oper} {m : Nat} {a : Act} {w : World} {ty t : TypeId} {zs cells : Array Value} {d de : Tmp} {y : Operand}
theorem run_ext {o : Oper} {x : Operand} {i : Nat} {vs : Array Value} {v : Value} (ho : o.op = .extract x i) (hx : a.eval x = .tuple vs) (hv : vs[i]? = some v) (W : World) : (execOp a.eval o).run P W = .ok (.value v) W:=by
 unfold execOp
 simp only [ho]
 generalize a.eval = ρ at *
 rw [hx]
 simp [Instr.extract,go_sem,hv]
theorem zig {i : Nat} {o : Oper} {ops : Array Oper} {v : Value} {K : Act → World → Prop} {a : Act} {w : World} (ho : ops[i]? = some o) (hg : o.guard = none) (he : (execOp a.eval o).run P w = .ok (.value v) w) (h : K (a.put o.dst v) w) : wpOp P ops Q i K a w:=by
 refine zaw ho hg ?_
 unfold Oper.wp
 rw [he,Oper.upon_value]
 exact h
theorem rest_var2 {v vx : Value} {z : Operand} {dx : Tmp} (ox oa os oe : Oper) (hlen : l.length = m + 4) (hox : l.toArray[m]? = some ox) (hoa : l.toArray[m + 1]? = some oa) (hos : l.toArray[m + 2]? = some os) (hoe : l.toArray[m + 3]? = some oe) (hoa2 : oa.op = .alloc ty) (ho : os.op = .store ty (.tmp d) y) (hoe2 : oe.op = .assign z)
  (hdx : ox.dst = some dx) (hda : oa.dst = some d) (hd : os.dst = none) (hde : oe.dst = some de) (hgx : ox.guard = none) (hga : oa.guard = none) (hg : os.guard = none) (hge : oe.guard = none) (hne : dx ≠ d)
  (hr : Region.ready .any l.toArray (marked m 0 (Array.replicate l.length false)) = [m,m + 1]) (hr1 : Region.ready .any l.toArray (marked (m + 1) 0 (Array.replicate l.length false)) = [m + 1]) (hr2 : Region.ready .any l.toArray (marked (m + 2) 0 (Array.replicate l.length false)) = [m + 2]) (hr3 : Region.ready .any l.toArray (marked (m + 3) 0 (Array.replicate l.length false)) = [m + 3]) (hr4 : Region.ready .any l.toArray (marked (m + 4) 0 (Array.replicate l.length false)) = [])
  (hrb : Region.ready .any l.toArray ((marked m 0 (Array.replicate l.length false)).setIfInBounds (m + 1) true) = [m,m + 2])
  (hrc : Region.ready .any l.toArray (((marked m 0 (Array.replicate l.length false)).setIfInBounds (m + 1) true).setIfInBounds (m + 2) true) = [m])
  (hmk : (marked m 0 (Array.replicate l.length false)).setIfInBounds m true = marked (m + 1) 0 (Array.replicate l.length false))
  (hmk1 : (marked (m + 1) 0 (Array.replicate l.length false)).setIfInBounds (m + 1) true = marked (m + 2) 0 (Array.replicate l.length false))
  (hmkb : ((marked m 0 (Array.replicate l.length false)).setIfInBounds (m + 1) true).setIfInBounds m true = marked (m + 2) 0 (Array.replicate l.length false))
  (hmk2 : (marked (m + 2) 0 (Array.replicate l.length false)).setIfInBounds (m + 2) true = marked (m + 3) 0 (Array.replicate l.length false))
  (hmkc : (((marked m 0 (Array.replicate l.length false)).setIfInBounds (m + 1) true).setIfInBounds (m + 2) true).setIfInBounds m true = marked (m + 3) 0 (Array.replicate l.length false))
  (hmk3 : (marked (m + 3) 0 (Array.replicate l.length false)).setIfInBounds (m + 3) true = marked (m + 4) 0 (Array.replicate l.length false))
  (hz : ∀ W,(Instr.alloc ty true (.tuple #[])).run P W = .ok (ptrTo W.heap.size) (W.alloc (.cells zs t)))
  (hxv : ∀ W,(execOp a.eval ox).run P W = .ok (.value vx) W) (hxv2 : ∀ g W,(execOp (a.put (some d) (ptrTo g)).eval ox).run P W = .ok (.value vx) W)
  (hx : ∀ g,(a.put (some d) (ptrTo g)).eval (.tmp d) = ptrTo g) (hx2 : ∀ g,((a.put (some dx) vx).put (some d) (ptrTo g)).eval (.tmp d) = ptrTo g)
  (hy : ∀ g,(a.put (some d) (ptrTo g)).eval y = .agg cells) (hy2 : ∀ g,((a.put (some dx) vx).put (some d) (ptrTo g)).eval y = .agg cells) (hze : ∀ g,((a.put (some dx) vx).put (some d) (ptrTo g)).eval z = v)
  (hi : (P.info? ty).map (·.size) = some cells.size) (hold : zs.size = cells.size) (h1 : cells.all (·.oneCell') = true)
  (h : ∀ g W,w.heap.size ≤ g → W.heap[g]? = some (.cells cells t (0,0)) → Ext w W → Q .normal (((a.put (some dx) vx).put (some d) (ptrTo g)).put (some de) v) W) : Rest P l Q m (m + 2) a w:=by
 have comm : ∀ g,(a.put (some d) (ptrTo g)).put (some dx) vx = (a.put (some dx) vx).put (some d) (ptrTo g):=fun g => (Act.put_comm a vx (ptrTo g) (by simpa using hne.symm)).symm
 -- the assign,at last
 have fin : ∀ (f : Nat) (g : Nat) (W : World),w.heap.size ≤ g → W.heap[g]? = some (.cells cells t (0,0)) → Ext w W → wpG P .any l.toArray Q (m + 2) (f + 1) (marked (m + 3) 0 (Array.replicate l.length false)) ((a.put (some dx) vx).put (some d) (ptrTo g)) W:=fun f g W hg' hb hE => by
  refine ⟨fun h0 => (by rw [hr3] at h0; cases h0),fun j hj W3 hW3 => ?_⟩
  rw [hr3] at hj
  obtain rfl : j = m + 3:=by simpa using hj
  refine zig (v:=v) hoe hge (by unfold execOp; simp only [hoe2,hze,Sem.run_pure]) ⟨fun h0 => by omega,?_⟩
  rw [hmk3,hde]
  cases f with
  | zero => exact ⟨hr4,fun W4 hW4 => h g W4 hg' ((hW3.trans hW4).block hb) (hE.trans (hW3.trans hW4))⟩
  | succ f => exact ⟨fun _ W4 hW4 => h g W4 hg' ((hW3.trans hW4).block hb) (hE.trans (hW3.trans hW4)),fun j hj => by rw [hr4] at hj; cases hj⟩
 unfold Rest
 rw [show l.length - m = 0 + 1 + 1 + 1 + 1 by omega]
 refine ⟨fun h0 => (by rw [hr] at h0; cases h0),fun i hi' W hW => ?_⟩
 rw [hr] at hi'
 obtain rfl | rfl : i = m ∨ i = m + 1:=by simpa using hi'
 ·
  -- the result first
  refine zig hox hgx (hxv W) ⟨fun _ => Ext.refl _,?_⟩
  rw [hmk,hdx]
  refine ⟨fun h0 => (by rw [hr1] at h0; cases h0),fun j hj W1 hW1 => ?_⟩
  rw [hr1] at hj
  obtain rfl : j = i + 1:=by simpa using hj
  refine zaw hoa hga (zbz hoa2 hz ⟨fun _ => Ext.alloc _ _,?_⟩)
  rw [hmk1,hda]
  refine ⟨fun h0 => (by rw [hr2] at h0; cases h0),fun j hj W2 hW2 => ?_⟩
  rw [hr2] at hj
  obtain rfl : j = i + 2:=by simpa using hj
  refine zaw hos hg (wp_store_row ty _ y ho W1.heap.size cells (hx2 _) (hy2 _) t zs (hW2.block (zad _ _)) hi hold h1 ⟨fun h0 => absurd h0 (Nat.lt_irrefl _),?_⟩)
  rw [hmk2,hd]
  exact fin _ _ _ (Nat.le_trans (Below.size hW) (Below.size hW1)) (setRow_heap W2 _ zs cells t (0,0) (hW2.block (zad _ _))) (zam ((hW.trans hW1).trans ((Ext.alloc _ _).trans hW2)) (Nat.le_trans (Below.size hW) (Below.size hW1)) cells)
 ·
  -- the variable first
  refine zaw hoa hga (zbz hoa2 hz ⟨fun _ => Ext.alloc _ _,?_⟩)
  rw [hda]
  refine ⟨fun h0 => (by rw [hrb] at h0; cases h0),fun j hj W1 hW1 => ?_⟩
  rw [hrb] at hj
  obtain rfl | rfl : j = m ∨ j = m + 2:=by simpa using hj
  ·
   refine zig hox hgx (hxv2 _ W1) ⟨fun _ => Ext.refl _,?_⟩
   rw [hmkb,hdx,comm]
   refine ⟨fun h0 => (by rw [hr2] at h0; cases h0),fun k hk W2 hW2 => ?_⟩
   rw [hr2] at hk
   obtain rfl : k = j + 2:=by simpa using hk
   refine zaw hos hg (wp_store_row ty _ y ho W.heap.size cells (hx2 _) (hy2 _) t zs ((hW1.trans hW2).block (zad _ _)) hi hold h1 ⟨fun h0 => absurd h0 (Nat.lt_irrefl _),?_⟩)
   rw [hmk2,hd]
   exact fin _ _ _ (Below.size hW) (setRow_heap W2 _ zs cells t (0,0) ((hW1.trans hW2).block (zad _ _))) (zam (hW.trans ((Ext.alloc _ _).trans (hW1.trans hW2))) (Below.size hW) cells)
  ·
   refine zaw hos hg (wp_store_row ty _ y ho W.heap.size cells (hx _) (hy _) t zs (hW1.block (zad _ _)) hi hold h1 ⟨fun h0 => absurd h0 (Nat.lt_irrefl _),?_⟩)
   rw [hd]
   have hb2:=setRow_heap W1 W.heap.size zs cells t (0,0) (hW1.block (zad _ _))
   have hE2 : Ext w (W1.setRow W.heap.size cells):=zam (hW.trans ((Ext.alloc _ _).trans hW1)) (Below.size hW) cells
   refine ⟨fun h0 => (by rw [hrc] at h0; cases h0),fun k hk W2 hW2 => ?_⟩
   rw [hrc] at hk
   obtain rfl : k = m:=by simpa using hk
   refine zig hox hgx (hxv2 _ W2) ⟨fun _ => Ext.refl _,?_⟩
   rw [hmkc,hdx]
   show wpG P .any l.toArray Q (k + 2) (0 + 1) _ ((a.put (some d) (ptrTo W.heap.size)).put (some dx) vx) W2
   rw [comm]
   exact fin _ _ _ (Below.size hW) (hW2.block hb2) (hE2.trans hW2)
theorem made_index {o : Oper} {ty e : TypeId} {x k : Operand} {g n cap i sz : Nat} (ho : o.op = .indexAddr ty x k) (hx : a.eval x = .slice (some ⟨g,0,none⟩) n cap) (hk : a.eval k = .int .i64 (i : Int)) (hi : i < n) (hu : P.underlying ty = some (.slice e)) (hs : (P.info? e).map (·.size) = some sz) : Made P o (.pointer (some ⟨g,i * sz,none⟩)) a w:=zba fun W _ => by
 obtain ⟨inf,h1,h2⟩ : ∃ inf,P.info? e = some inf ∧ inf.size = sz:=by
  cases h : P.info? e with
  | none => simp [h] at hs
  | some inf => exact ⟨inf,rfl,by simpa [h] using hs⟩
 unfold execOp
 simp only [ho,hx,hk]
 simp [Instr.indexAt,asIntOf,run_underlying hu,sizeOf,typeInfo,h1,h2,hi,Result.andThen_ok,Addr.add_mid]
end
end Go.Proofs.YtihophdbkjhopaaGreatDoor
namespace Go.Proofs.YtihophdbkjhopaaGreatDoor
def rot (x n : Nat) : Nat:=x / 2 ^ n + 2 ^ (32 - n) * (x % 2 ^ n)
theorem zcd {x n : Nat} (hn : n ≤ 32) (hx : x < 2 ^ 32) : rot x n < 2 ^ 32:=by
 have hp : 0 < 2 ^ n:=Nat.pow_pos (by omega)
 have e : 2 ^ 32 = 2 ^ (32 - n) * 2 ^ n:=by rw [← Nat.pow_add]; congr 1; omega
 have hq : x / 2 ^ n < 2 ^ (32 - n):=by rw [Nat.div_lt_iff_lt_mul hp,← e]; exact hx
 have hr:=Nat.mod_lt x hp
 unfold rot
 rw [e]
 have : 2 ^ (32 - n) * (x % 2 ^ n + 1) ≤ 2 ^ (32 - n) * 2 ^ n:=Nat.mul_le_mul_left _ hr
 rw [Nat.mul_add] at this
 omega
end Go.Proofs.YtihophdbkjhopaaGreatDoor
namespace Go.Proofs.YtihophdbkjhopaaGreatDoor
def kList : List Nat:=[1116352408,1899447441,3049323471,3921009573,961987163,1508970993,2453635748,2870763221,3624381080,310598401,607225278,1426881987,1925078388,2162078206,2614888103,3248222580,3835390401,4022224774,264347078,604807628,770255983,1249150122,1555081692,1996064986,2554220882,2821834349,2952996808,3210313671,3336571891,3584528711,113926993,338241895,666307205,773529912,1294757372,1396182291,1695183700,1986661051,2177026350,2456956037,2730485921,2820302411,3259730800,3345764771,3516065817,3600352804,4094571909,275423344,430227734,506948616,659060556,883997877,958139571,1322822218,1537002063,1747873779,1955562222,2024104815,2227730452,2361852424,2428436474,2756734187,3204031479,3329325298]
def kc (t : Nat) : Nat:=kList.getD t 0
def ad (x y : Nat) : Nat:=(x + y) % 4294967296
def sg0 (x : Nat) : Nat:=rot x 7 ^^^ rot x 18 ^^^ (x / 2 ^ 3)
def sg1 (x : Nat) : Nat:=rot x 17 ^^^ rot x 19 ^^^ (x / 2 ^ 10)
def bs0 (x : Nat) : Nat:=rot x 2 ^^^ rot x 13 ^^^ rot x 22
def bs1 (x : Nat) : Nat:=rot x 6 ^^^ rot x 11 ^^^ rot x 25
def chN (x y z : Nat) : Nat:=(x &&& y) ^^^ ((4294967295 - x) &&& z)
def majN (x y z : Nat) : Nat:=(x &&& y) ^^^ (x &&& z) ^^^ (y &&& z)
theorem getD_lo (l r : List Nat) {t : Nat} (h : t < l.length) : (l ++ r).getD t 0 = l.getD t 0:=by simp [List.getD,List.getElem?_append_left h]
theorem getD_at (l : List Nat) (x : Nat) {t : Nat} (h : l.length = t) : (l ++ [x]).getD t 0 = x:=by subst h; simp [List.getD]
def sched (m : Nat → Nat) : Nat → List Nat
 | 0 => []
 | t + 1 => let l:=sched m t
  l ++ [if t < 16 then m t else ad (ad (ad (sg1 (l.getD (t - 2) 0)) (l.getD (t - 7) 0)) (sg0 (l.getD (t - 15) 0))) (l.getD (t - 16) 0)]
theorem zhc (m : Nat → Nat) : ∀ t,(sched m t).length = t
 | 0 => rfl
 | t + 1 => by simp [sched,zhc m t]
def wt (m : Nat → Nat) (t : Nat) : Nat:=(sched m (t + 1)).getD t 0
theorem zef (m : Nat → Nat) (t : Nat) : ∀ n,t < n → (sched m n).getD t 0 = wt m t
 | 0,h => by omega
 | n + 1,h => by
  by_cases e : t = n
  ·
   subst e; rfl
  ·
   have ih:=zef m t n (by omega)
   rw [← ih]
   show (sched m n ++ _).getD t 0 = _
   rw [getD_lo _ _ (by rw [zhc]; omega)]
theorem wt_lo (m : Nat → Nat) {t : Nat} (h : t < 16) : wt m t = m t:=by
 unfold wt
 show (sched m t ++ _).getD t 0 = _
 rw [getD_at _ _ (zhc m t),if_pos h]
theorem wt_hi (m : Nat → Nat) {t : Nat} (h : ¬ t < 16) : wt m t = ad (ad (ad (sg1 (wt m (t - 2))) (wt m (t - 7))) (sg0 (wt m (t - 15)))) (wt m (t - 16)):=by
 conv => lhs; unfold wt
 show (sched m t ++ _).getD t 0 = _
 rw [getD_at _ _ (zhc m t),if_neg h,zef m _ t (by omega),zef m _ t (by omega),zef m _ t (by omega),zef m _ t (by omega)]
structure St where
 a : Nat
 b : Nat
 c : Nat
 d : Nat
 e : Nat
 f : Nat
 g : Nat
 h : Nat
def t1N (s : St) (k w : Nat) : Nat:=ad (ad (ad (ad s.h (bs1 s.e)) (chN s.e s.f s.g)) k) w
def t2N (s : St) : Nat:=ad (bs0 s.a) (majN s.a s.b s.c)
def stepN (s : St) (k w : Nat) : St:=⟨ad (t1N s k w) (t2N s),s.a,s.b,s.c,ad s.d (t1N s k w),s.e,s.f,s.g⟩
def roundsN (m : Nat → Nat) (s : St) : Nat → St
 | 0 => s
 | t + 1 => stepN (roundsN m s t) (kc t) (wt m t)
def addSt (x y : St) : St:=⟨ad x.a y.a,ad x.b y.b,ad x.c y.c,ad x.d y.d,ad x.e y.e,ad x.f y.f,ad x.g y.g,ad x.h y.h⟩
def blockN (m : Nat → Nat) (s : St) : St:=addSt s (roundsN m s 64)
def word (text : Nat → Nat) (i : Nat) : Nat:=text i * 16777216 + text (i + 1) * 65536 + text (i + 2) * 256 + text (i + 3)
def blocksN (text : Nat → Nat) : Nat → St
 | 0 => ⟨1779033703,3144134277,1013904242,2773480762,1359893119,2600822924,528734635,1541459225⟩
 | n + 1 => blockN (fun t => word text (64 * n + 4 * t)) (blocksN text n)
def nBlocks (len : Nat) : Nat:=(len + 9 + 63) / 64
def padded (b : Nat → Nat) (len : Nat) : Nat → Nat:=fun i =>
 if i < len then b i else if i = len then 128 else if i < 64 * nBlocks len - 8 then 0 else 8 * len / 256 ^ (64 * nBlocks len - 1 - i) % 256
def shaSt (b : Nat → Nat) (len : Nat) : St:=blocksN (padded b len) (nBlocks len)
end Go.Proofs.YtihophdbkjhopaaGreatDoor
namespace Go.Proofs.YtihophdbkjhopaaGreatDoor
theorem wrap32 (n : Int) : IntKind.u32.wrap n = n % 4294967296:=by simp [IntKind.wrap,IntKind.signed,IntKind.bits]
section
variable (a b : Nat) (ha : a < 4294967296) (hb : b < 4294967296)
include ha hb
theorem ofInt32 : (BitVec.ofInt 32 (a : Int)).toNat = a ∧ (BitVec.ofInt 32 (b : Int)).toNat = b:=by
 constructor <;> (rw [BitVec.ofInt_natCast,BitVec.toNat_ofNat]; exact Nat.mod_eq_of_lt (by omega))
theorem and32 : bits .and .u32 (a : Int) (b : Int) = ((a &&& b : Nat) : Int):=by
 have hx : a &&& b < 2 ^ 32:=Nat.and_lt_two_pow _ (by omega)
 show IntKind.u32.wrap ((BitVec.ofInt 32 (a : Int) &&& BitVec.ofInt 32 (b : Int)).toNat : Int) = _
 rw [BitVec.toNat_and,(ofInt32 a b ha hb).1,(ofInt32 a b ha hb).2,wrap32]
 omega
theorem or32 : bits .or .u32 (a : Int) (b : Int) = ((a ||| b : Nat) : Int):=by
 have hx : a ||| b < 2 ^ 32:=Nat.or_lt_two_pow (by omega) (by omega)
 show IntKind.u32.wrap ((BitVec.ofInt 32 (a : Int) ||| BitVec.ofInt 32 (b : Int)).toNat : Int) = _
 rw [BitVec.toNat_or,(ofInt32 a b ha hb).1,(ofInt32 a b ha hb).2,wrap32]
 omega
theorem xor32 : bits .xor .u32 (a : Int) (b : Int) = ((a ^^^ b : Nat) : Int):=by
 have hx : a ^^^ b < 2 ^ 32:=Nat.xor_lt_two_pow (by omega) (by omega)
 show IntKind.u32.wrap ((BitVec.ofInt 32 (a : Int) ^^^ BitVec.ofInt 32 (b : Int)).toNat : Int) = _
 rw [BitVec.toNat_xor,(ofInt32 a b ha hb).1,(ofInt32 a b ha hb).2,wrap32]
 omega
end
theorem not_bit {x : Nat} (hx : x < 2 ^ 32) (i : Nat) : (4294967295 - x).testBit i = (decide (i < 32) && !x.testBit i):=by
 have h:=Nat.testBit_two_pow_sub_succ hx i
 rwa [show 2 ^ 32 - (x + 1) = 4294967295 - x by omega] at h
theorem rot_or {x n : Nat} (hn : n ≤ 32) (hx : x < 2 ^ 32) : rot x n = (x / 2 ^ n) ||| (x * 2 ^ (32 - n) % 2 ^ 32):=by
 have hp : 0 < 2 ^ n:=Nat.pow_pos (by omega)
 have e : 2 ^ 32 = 2 ^ (32 - n) * 2 ^ n:=by rw [← Nat.pow_add]; congr 1; omega
 have hq : x / 2 ^ n < 2 ^ (32 - n):=by rw [Nat.div_lt_iff_lt_mul hp,← e]; exact hx
 have h1 : x * 2 ^ (32 - n) % 2 ^ 32 = 2 ^ (32 - n) * (x % 2 ^ n):=by rw [e,Nat.mul_comm x,Nat.mul_mod_mul_left]
 rw [h1,Nat.or_comm,← Nat.two_pow_add_eq_or_of_lt hq]
 unfold rot
 omega
/-! ### all is below 2^32 -/
theorem ad_lt (x y : Nat) : ad x y < 2 ^ 32:=Nat.mod_lt _ (by decide)
theorem shr_lt {x : Nat} (n : Nat) (hx : x < 2 ^ 32) : x / 2 ^ n < 2 ^ 32:=Nat.lt_of_le_of_lt (Nat.div_le_self _ _) hx
theorem wt_lt {m : Nat → Nat} (hm : ∀ t,t < 16 → m t < 2 ^ 32) (t : Nat) : wt m t < 2 ^ 32:=by
 by_cases h : t < 16
 ·
  rw [wt_lo m h]; exact hm t h
 ·
  rw [wt_hi m h]; exact ad_lt _ _
structure St.Ok (s : St) : Prop where
 a : s.a < 2 ^ 32
 b : s.b < 2 ^ 32
 c : s.c < 2 ^ 32
 d : s.d < 2 ^ 32
 e : s.e < 2 ^ 32
 f : s.f < 2 ^ 32
 g : s.g < 2 ^ 32
 h : s.h < 2 ^ 32
theorem stepN_ok {s : St} (h : s.Ok) (k w : Nat) : (stepN s k w).Ok:=⟨ad_lt _ _,h.a,h.b,h.c,ad_lt _ _,h.e,h.f,h.g⟩
theorem roundsN_ok {m : Nat → Nat} {s : St} (h : s.Ok) : ∀ t,(roundsN m s t).Ok
 | 0 => h
 | t + 1 => stepN_ok (roundsN_ok h t) _ _
theorem blockN_ok (m : Nat → Nat) (s : St) : (blockN m s).Ok:=⟨ad_lt _ _,ad_lt _ _,ad_lt _ _,ad_lt _ _,ad_lt _ _,ad_lt _ _,ad_lt _ _,ad_lt _ _⟩
theorem blocksN_ok (text : Nat → Nat) : ∀ n,(blocksN text n).Ok
 | 0 => by constructor <;> (show _ < _; simp [blocksN])
 | n + 1 => blockN_ok _ _
theorem zhq {f g : Nat → Nat} : ∀ n,(∀ i,i < 64 * n → f i = g i) → blocksN f n = blocksN g n
 | 0,_ => rfl
 | n + 1,h => by
  have ih:=zhq n fun i hi => h i (by omega)
  have hw : ∀ t,t < 16 → word f (64 * n + 4 * t) = word g (64 * n + 4 * t):=by
   intro t ht
   unfold word
   rw [h _ (by omega),h _ (by omega),h _ (by omega),h _ (by omega)]
  have hs : ∀ k,sched (fun t => word f (64 * n + 4 * t)) k = sched (fun t => word g (64 * n + 4 * t)) k:=by
   intro k
   induction k with
   | zero => simp only [sched]
   | succ k ihk =>
    simp only [sched]
    rw [ihk]
    by_cases hk : k < 16
    ·
     simp only [if_pos hk]; rw [hw k hk]
    ·
     simp only [if_neg hk]
  have hr : ∀ s k,roundsN (fun t => word f (64 * n + 4 * t)) s k = roundsN (fun t => word g (64 * n + 4 * t)) s k:=by
   intro s k
   induction k with
   | zero => simp only [roundsN]
   | succ k ihk =>
    simp only [roundsN]
    rw [ihk]; unfold wt; rw [hs]
  simp only [blocksN]
  rw [ih]; unfold blockN; rw [hr]
end Go.Proofs.YtihophdbkjhopaaGreatDoor
namespace Go.Proofs.YtihophdbkjhopaaGreatDoor
open Go.RowKit
open Go.Value renaming int → vI
open Go.IntKind renaming u64 → vU
open Go.Act renaming put → aP
open List renaming setIfInBounds_toArray → lA, set_cons_zero → lZ, set_cons_succ → lS
def St.at (s : St) (j : Nat) : Nat:=match j with | 0 => s.a | 1 => s.b | 2 => s.c | 3 => s.d | 4 => s.e | 5 => s.f | 6 => s.g | _ => s.h
def hcells (s : St) (blk : Nat → Nat) (len : Nat) : Nat → Value:=fun j => if j < 8 then .int .u32 (s.at j : Nat) else if j < 72 then .int .u8 (blk (j - 8) : Nat) else .int .i64 (len : Int)
def HRow (w : World) (g : Nat) (s : St) (blk : Nat → Nat) (len : Nat) : Prop:=w.rowIs g 160 73 (hcells s blk len)
section
variable {w w' : World} {g B len : Nat} {s : St} {blk : Nat → Nat}
theorem HRow.lt (h : HRow w g s blk len) : g < w.heap.size:=World.rowIs.lt h
theorem HRow.below (h : HRow w g s blk len) (hb : Below B w w') (hlt : g < B) : HRow w' g s blk len:=zac h hb hlt
theorem HRow.call (h : HRow w g s blk len) (hb : Below w.heap.size w w') : HRow w' g s blk len:=zac h hb h.lt
theorem HRow.alloc (h : HRow w g s blk len) (o : Obj) : HRow (w.alloc o) g s blk len:=World.rowIs.alloc h o
theorem HRow.drew (h : HRow w g s blk len) : HRow w.drew g s blk len:=h
theorem HRow.drewN (h : HRow w g s blk len) (k : Nat) : HRow (w.drewN k) g s blk len:=h
theorem HRow.of_block (h : HRow w g s blk len) (e : w'.heap[g]? = w.heap[g]?) : HRow w' g s blk len:=World.rowIs.of_block h e
theorem HRow.state (h : HRow w g s blk len) {j : Nat} (hj : j < 8) : w.cell? ⟨g,j,none⟩ = some (.int .u32 (s.at j : Nat)):=by
 rw [World.rowIs.cell h (show j < 73 by omega),hcells,if_pos hj]
theorem HRow.byte (h : HRow w g s blk len) {j : Nat} (hj : j < 64) : w.cell? ⟨g,8 + j,none⟩ = some (.int .u8 (blk j : Nat)):=by
 rw [World.rowIs.cell h (show 8 + j < 73 by omega),hcells,if_neg (by omega),if_pos (by omega),show 8 + j - 8 = j by omega]
theorem HRow.length (h : HRow w g s blk len) : w.cell? ⟨g,72,none⟩ = some (.int .i64 (len : Int)):=by
 rw [World.rowIs.cell h (show 72 < 73 by omega),hcells,if_neg (by omega),if_neg (by omega)]
theorem HRow.block (h : HRow w g s blk len) : w.rangeAt g 8 ((List.range 64).map fun j => Value.int .u8 (blk j : Nat)):=by
 intro j v hv
 have hj : j < 64:=by simpa using (List.getElem?_eq_some_iff.1 hv).1
 rw [h.byte hj,← hv]
 simp [hj]
theorem HRow.words (h : HRow w g s blk len) : w.rangeAt g 0 ((List.range 8).map fun j => Value.int .u32 (s.at j : Nat)):=by
 intro j v hv
 have hj : j < 8:=by simpa using (List.getElem?_eq_some_iff.1 hv).1
 rw [Nat.zero_add,h.state hj,← hv]
 simp [hj]
end
structure KT (w : World) : Prop where
 lt : 0 < w.heap.size
 cell : ∀ j,j < 64 → w.cell? ⟨0,j,none⟩ = some (.int .u32 (kc j : Nat))
section
variable {w w' : World} {B : Nat}
theorem KT.of_block (h : KT w) (e : w'.heap[0]? = w.heap[0]?) (hs : w.heap.size ≤ w'.heap.size) : KT w' :=
 ⟨Nat.lt_of_lt_of_le h.lt hs,fun j hj => (World.cell?_of_block (w:=w) (a:=⟨0,j,none⟩) e).trans (h.cell j hj)⟩
theorem KT.below (h : KT w) (hb : Below B w w') (hB : 0 < B) : KT w':=h.of_block (hb.block 0 hB) hb.size
theorem KT.call (h : KT w) (hb : Below w.heap.size w w') : KT w':=h.below hb h.lt
theorem KT.alloc (h : KT w) (o : Obj) : KT (w.alloc o):=h.of_block (Below.heap_alloc _ _ _ h.lt) (by simp)
theorem KT.drew (h : KT w) : KT w.drew:=⟨h.lt,h.cell⟩
theorem KT.drewN (h : KT w) (k : Nat) : KT (w.drewN k):=⟨h.lt,h.cell⟩
theorem KT.far {b i : Nat} (h : KT w) (hne : 0 ≠ b) (v : Value) : KT (w.setCell ⟨b,i,none⟩ v):=h.of_block (Below.heap_setCell _ _ _ _ hne) (by simp [World.setCell])
theorem KT.grown {r : Nat} (h : KT w) (hg : w.grownBy w' (some r)) (hne : 0 ≠ r) : KT w':=h.of_block (hg.block 0 h.lt (by simpa using hne)) hg.size
end
theorem veil32 {p : Prop} (h : p) : Hid p:=h
theorem neg_and : ∀ n : Fin 32,n.1 ≠ 0 → bits .and .u64 (IntKind.u64.wrap (-(n.1 : Int))) 31 = 32 - (n.1 : Int):=by decide
theorem rot_bits {x n : Nat} (hx : x < 2 ^ 32) (hn : n < 32) : bits .or .u32 ((x : Int) * 2 ^ (32 - n) % 4294967296) ((x : Int) / 2 ^ (32 - (32 - n))) = ((rot x n : Nat) : Int):=by
 have e : 32 - (32 - n) = n:=by omega
 have e1 : (x : Int) * 2 ^ (32 - n) % 4294967296 = ((x * 2 ^ (32 - n) % 2 ^ 32 : Nat) : Int):=by
  rw [Int.natCast_emod,Int.natCast_mul,Int.natCast_pow]; rfl
 have e2 : (x : Int) / 2 ^ n = ((x / 2 ^ n : Nat) : Int):=by
  rw [Int.natCast_ediv,Int.natCast_pow]; rfl
 rw [e,e1,e2,or32 _ _ (Nat.mod_lt _ (by decide)) (shr_lt n hx),rot_or (by omega) hx,Nat.or_comm]
theorem ret_u32 {a : Int} {b : Nat} (h : a = (b : Int)) : Ending.returned (.int .u32 a) = .returned (.int .u32 (b : Nat)):=by rw [h]
theorem rotl_calls (x n : Nat) (hx : x < 2 ^ 32) (h0 : n ≠ 0) (hn : n < 32) (w : World) :
  Calls Tryz.prog 171 #[.int .u32 (x : Int),.int .i64 (-(n : Int))] w fun e w' => e = .returned (.int .u32 (rot x n : Nat)) ∧ w' = w:=by
 have k1:=neg_and ⟨n,hn⟩ h0
 simp only at k1
 go_enter Tryz.func171,Tryz.ntmps171
 go_wp2
 go_ret
 exact ⟨ret_u32 (rot_bits hx hn),rfl⟩
theorem zbd (x n : Nat) (hx : x < 2 ^ 32) (h0 : n ≠ 0) (hn : n < 32) (w : World) :
  Calls Tryz.prog 164 #[.int .u32 (x : Int),.int .i64 (n : Int)] w fun e w' => e = .returned (.int .u32 (rot x n : Nat)) ∧ w' = w:=by
 go_enter Tryz.func164,Tryz.ntmps164
 go_wp2_with (go_at_call 171; refine (rotl_calls x n hx h0 hn _).mono ?_; rintro e w' ⟨rfl,rfl⟩)
 go_ret
 exact ⟨rfl,rfl⟩
theorem bigOne_calls (x : Nat) (hx : x < 2 ^ 32) (w : World) :
  Calls Tryz.prog 146 #[.int .u32 (x : Int)] w fun e w' => e = .returned (.int .u32 (bs1 x : Nat)) ∧ w' = w:=by
 have k1:=xor32 (rot x 6) (rot x 11) (zcd (by omega) hx) (zcd (by omega) hx)
 have k2:=xor32 (rot x 6 ^^^ rot x 11) (rot x 25) (Nat.xor_lt_two_pow (n:=32) (zcd (by omega) hx) (zcd (by omega) hx)) (zcd (by omega) hx)
 have H1 : Hid (∀ W,Calls Tryz.prog 164 #[.int .u32 (x : Int),.int .i64 6] W fun e w' => e = .returned (.int .u32 (rot x 6 : Nat)) ∧ w' = W):=veil32 (fun W => zbd x 6 hx (by decide) (by decide) W)
 have H2 : Hid (∀ W,Calls Tryz.prog 164 #[.int .u32 (x : Int),.int .i64 11] W fun e w' => e = .returned (.int .u32 (rot x 11 : Nat)) ∧ w' = W):=veil32 (fun W => zbd x 11 hx (by decide) (by decide) W)
 have H3 : Hid (∀ W,Calls Tryz.prog 164 #[.int .u32 (x : Int),.int .i64 25] W fun e w' => e = .returned (.int .u32 (rot x 25 : Nat)) ∧ w' = W):=veil32 (fun W => zbd x 25 hx (by decide) (by decide) W)
 go_enter Tryz.func146,Tryz.ntmps146
 go_wp2_with (go_at_call 164; (first | ((with_reducible refine (H1.out _).mono ?_); rintro e w' ⟨rfl,rfl⟩) | ((with_reducible refine (H2.out _).mono ?_); rintro e w' ⟨rfl,rfl⟩) | ((with_reducible refine (H3.out _).mono ?_); rintro e w' ⟨rfl,rfl⟩)))
 go_ret
 exact ⟨rfl,rfl⟩
theorem bigZero_calls (x : Nat) (hx : x < 2 ^ 32) (w : World) :
  Calls Tryz.prog 148 #[.int .u32 (x : Int)] w fun e w' => e = .returned (.int .u32 (bs0 x : Nat)) ∧ w' = w:=by
 have k1:=xor32 (rot x 2) (rot x 13) (zcd (by omega) hx) (zcd (by omega) hx)
 have k2:=xor32 (rot x 2 ^^^ rot x 13) (rot x 22) (Nat.xor_lt_two_pow (n:=32) (zcd (by omega) hx) (zcd (by omega) hx)) (zcd (by omega) hx)
 have H1 : Hid (∀ W,Calls Tryz.prog 164 #[.int .u32 (x : Int),.int .i64 2] W fun e w' => e = .returned (.int .u32 (rot x 2 : Nat)) ∧ w' = W):=veil32 (fun W => zbd x 2 hx (by decide) (by decide) W)
 have H2 : Hid (∀ W,Calls Tryz.prog 164 #[.int .u32 (x : Int),.int .i64 13] W fun e w' => e = .returned (.int .u32 (rot x 13 : Nat)) ∧ w' = W):=veil32 (fun W => zbd x 13 hx (by decide) (by decide) W)
 have H3 : Hid (∀ W,Calls Tryz.prog 164 #[.int .u32 (x : Int),.int .i64 22] W fun e w' => e = .returned (.int .u32 (rot x 22 : Nat)) ∧ w' = W):=veil32 (fun W => zbd x 22 hx (by decide) (by decide) W)
 go_enter Tryz.func148,Tryz.ntmps148
 go_wp2_with (go_at_call 164; (first | ((with_reducible refine (H1.out _).mono ?_); rintro e w' ⟨rfl,rfl⟩) | ((with_reducible refine (H2.out _).mono ?_); rintro e w' ⟨rfl,rfl⟩) | ((with_reducible refine (H3.out _).mono ?_); rintro e w' ⟨rfl,rfl⟩)))
 go_ret
 exact ⟨rfl,rfl⟩
theorem smallOne_calls (x : Nat) (hx : x < 2 ^ 32) (w : World) :
  Calls Tryz.prog 162 #[.int .u32 (x : Int)] w fun e w' => e = .returned (.int .u32 (sg1 x : Nat)) ∧ w' = w:=by
 obtain ⟨q,hq⟩ : ∃ q,q = x / 2 ^ 10:=⟨_,rfl⟩
 have hql : q < 2 ^ 32:=by rw [hq]; exact shr_lt 10 hx
 have k3 : (x : Int) / 1024 = (q : Int):=by rw [hq,Int.natCast_ediv]; rfl
 have HQ:=veil32 hq
 clear hq
 have k1:=xor32 (rot x 17) (rot x 19) (zcd (by omega) hx) (zcd (by omega) hx)
 have k2:=xor32 (rot x 17 ^^^ rot x 19) (q) (Nat.xor_lt_two_pow (n:=32) (zcd (by omega) hx) (zcd (by omega) hx)) (hql)
 have H1 : Hid (∀ W,Calls Tryz.prog 164 #[.int .u32 (x : Int),.int .i64 17] W fun e w' => e = .returned (.int .u32 (rot x 17 : Nat)) ∧ w' = W):=veil32 (fun W => zbd x 17 hx (by decide) (by decide) W)
 have H2 : Hid (∀ W,Calls Tryz.prog 164 #[.int .u32 (x : Int),.int .i64 19] W fun e w' => e = .returned (.int .u32 (rot x 19 : Nat)) ∧ w' = W):=veil32 (fun W => zbd x 19 hx (by decide) (by decide) W)
 go_enter Tryz.func162,Tryz.ntmps162
 go_wp2_with (go_at_call 164; (first | ((with_reducible refine (H1.out _).mono ?_); rintro e w' ⟨rfl,rfl⟩) | ((with_reducible refine (H2.out _).mono ?_); rintro e w' ⟨rfl,rfl⟩)))
 go_ret
 exact ⟨by unfold sg1; rw [← HQ.out]; rfl,rfl⟩
theorem smallZero_calls (x : Nat) (hx : x < 2 ^ 32) (w : World) :
  Calls Tryz.prog 163 #[.int .u32 (x : Int)] w fun e w' => e = .returned (.int .u32 (sg0 x : Nat)) ∧ w' = w:=by
 obtain ⟨q,hq⟩ : ∃ q,q = x / 2 ^ 3:=⟨_,rfl⟩
 have hql : q < 2 ^ 32:=by rw [hq]; exact shr_lt 3 hx
 have k3 : (x : Int) / 8 = (q : Int):=by rw [hq,Int.natCast_ediv]; rfl
 have HQ:=veil32 hq
 clear hq
 have k1:=xor32 (rot x 7) (rot x 18) (zcd (by omega) hx) (zcd (by omega) hx)
 have k2:=xor32 (rot x 7 ^^^ rot x 18) (q) (Nat.xor_lt_two_pow (n:=32) (zcd (by omega) hx) (zcd (by omega) hx)) (hql)
 have H1 : Hid (∀ W,Calls Tryz.prog 164 #[.int .u32 (x : Int),.int .i64 7] W fun e w' => e = .returned (.int .u32 (rot x 7 : Nat)) ∧ w' = W):=veil32 (fun W => zbd x 7 hx (by decide) (by decide) W)
 have H2 : Hid (∀ W,Calls Tryz.prog 164 #[.int .u32 (x : Int),.int .i64 18] W fun e w' => e = .returned (.int .u32 (rot x 18 : Nat)) ∧ w' = W):=veil32 (fun W => zbd x 18 hx (by decide) (by decide) W)
 go_enter Tryz.func163,Tryz.ntmps163
 go_wp2_with (go_at_call 164; (first | ((with_reducible refine (H1.out _).mono ?_); rintro e w' ⟨rfl,rfl⟩) | ((with_reducible refine (H2.out _).mono ?_); rintro e w' ⟨rfl,rfl⟩)))
 go_ret
 exact ⟨by unfold sg0; rw [← HQ.out]; rfl,rfl⟩
theorem xor_all {x : Nat} (hx : x < 2 ^ 32) : bits .xor .u32 IntKind.u32.max (x : Int) = ((4294967295 - x : Nat) : Int):=by
 have h:=xor32 4294967295 x (by decide) hx
 have e : 4294967295 ^^^ x = 4294967295 - x:=by
  apply Nat.eq_of_testBit_eq
  intro i
  rw [Nat.testBit_xor,not_bit hx,show (4294967295 : Nat) = 2 ^ 32 - 1 from rfl,Nat.testBit_two_pow_sub_one]
  by_cases h : i < 32
  ·
   simp [h]
  ·
   have h32 : 2 ^ 32 ≤ 2 ^ i:=Nat.pow_le_pow_right (by omega) (by omega)
   rw [Nat.testBit_lt_two_pow (Nat.lt_of_lt_of_le hx h32)]
   simp [h]
 rw [e] at h
 exact h
theorem choice_calls (x y z : Nat) (hx : x < 2 ^ 32) (hy : y < 2 ^ 32) (hz : z < 2 ^ 32) (w : World) :
  Calls Tryz.prog 147 #[.int .u32 (x : Int),.int .u32 (y : Int),.int .u32 (z : Int)] w fun e w' => e = .returned (.int .u32 (chN x y z : Nat)) ∧ w' = w:=by
 have k1:=and32 x y hx hy
 have k2:=xor_all hx
 have k3:=and32 (4294967295 - x) z (by omega) hz
 have k4:=xor32 (x &&& y) ((4294967295 - x) &&& z) (Nat.lt_of_le_of_lt Nat.and_le_left hx) (Nat.lt_of_le_of_lt Nat.and_le_left (by omega))
 go_enter Tryz.func147,Tryz.ntmps147
 go_wp2
 go_ret
 exact ⟨rfl,rfl⟩
theorem majority_calls (x y z : Nat) (hx : x < 2 ^ 32) (hy : y < 2 ^ 32) (hz : z < 2 ^ 32) (w : World) :
  Calls Tryz.prog 149 #[.int .u32 (x : Int),.int .u32 (y : Int),.int .u32 (z : Int)] w fun e w' => e = .returned (.int .u32 (majN x y z : Nat)) ∧ w' = w:=by
 have k1:=and32 x y hx hy
 have k2:=and32 x z hx hz
 have k3:=and32 y z hy hz
 have l1 : x &&& y < 2 ^ 32:=Nat.lt_of_le_of_lt Nat.and_le_left hx
 have l2 : x &&& z < 2 ^ 32:=Nat.lt_of_le_of_lt Nat.and_le_left hx
 have l3 : y &&& z < 2 ^ 32:=Nat.lt_of_le_of_lt Nat.and_le_left hy
 have k4:=xor32 (x &&& y) (x &&& z) l1 l2
 have k5:=xor32 ((x &&& y) ^^^ (x &&& z)) (y &&& z) (Nat.xor_lt_two_pow (n:=32) l1 l2) l3
 clear l1 l2 l3 hx hy hz
 go_enter Tryz.func149,Tryz.ntmps149
 go_wp2
 go_ret
 exact ⟨rfl,rfl⟩
theorem info8 : (Tryz.prog.info? 158).map (·.size) = some 64:=by kernel_rfl
theorem info32 : (Tryz.prog.info? 178).map (·.size) = some 64:=by kernel_rfl
theorem zeros64 : (#[.int .u32 0,.int .u32 0,.int .u32 0,.int .u32 0,.int .u32 0,.int .u32 0,.int .u32 0,.int .u32 0,.int .u32 0,.int .u32 0,.int .u32 0,.int .u32 0,.int .u32 0,.int .u32 0,.int .u32 0,.int .u32 0,.int .u32 0,.int .u32 0,.int .u32 0,.int .u32 0,.int .u32 0,.int .u32 0,.int .u32 0,.int .u32 0,.int .u32 0,.int .u32 0,.int .u32 0,.int .u32 0,.int .u32 0,.int .u32 0,.int .u32 0,.int .u32 0,.int .u32 0,.int .u32 0,.int .u32 0,.int .u32 0,.int .u32 0,.int .u32 0,.int .u32 0,.int .u32 0,.int .u32 0,.int .u32 0,.int .u32 0,.int .u32 0,.int .u32 0,.int .u32 0,.int .u32 0,.int .u32 0,.int .u32 0,.int .u32 0,.int .u32 0,.int .u32 0,.int .u32 0,.int .u32 0,.int .u32 0,.int .u32 0,.int .u32 0,.int .u32 0,.int .u32 0,.int .u32 0,.int .u32 0,.int .u32 0,.int .u32 0,.int .u32 0] : Array Value) = arrOf 64 (fun _ => .int .u32 0):=rfl
def pwb (blk : Nat → Nat) (j : Nat) : Nat → Nat
 | 0 => 0
 | m + 1 => pwb blk j m * 256 + blk (4 * j + m)
theorem pwb_lt {blk : Nat → Nat} (h : ∀ j,blk j < 256) (j : Nat) : ∀ m,pwb blk j m < 256 ^ m
 | 0 => by simp [pwb]
 | m + 1 => by
  have ih:=pwb_lt h j m
  have hb:=h (4 * j + m)
  show pwb blk j m * 256 + blk (4 * j + m) < 256 ^ (m + 1)
  rw [Nat.pow_succ]; omega
def pw (blk : Nat → Nat) (k j : Nat) : Nat:=pwb blk j (min (k - 4 * j) 4)
theorem pw_zero (blk : Nat → Nat) (j : Nat) : pw blk 0 j = 0:=by unfold pw; rw [Nat.zero_sub,Nat.zero_min]; rfl
theorem pw_step {blk : Nat → Nat} {k : Nat} (j : Nat) : pw blk (k + 1) j = if j = k / 4 then pw blk k j * 256 + blk k else pw blk k j:=by
 unfold pw
 by_cases h : j = k / 4
 ·
  rw [if_pos h,show min (k + 1 - 4 * j) 4 = min (k - 4 * j) 4 + 1 by omega]
  show pwb blk j _ * 256 + blk (4 * j + _) = _
  rw [show 4 * j + min (k - 4 * j) 4 = k by omega]
 ·
  rw [if_neg h,show min (k + 1 - 4 * j) 4 = min (k - 4 * j) 4 by omega]
theorem pw_lt {blk : Nat → Nat} (h : ∀ j,blk j < 256) (k : Nat) : pw blk k (k / 4) < 16777216:=by
 unfold pw
 have:=pwb_lt h (k / 4) (min (k - 4 * (k / 4)) 4)
 have h2 : 256 ^ min (k - 4 * (k / 4)) 4 ≤ 256 ^ 3:=Nat.pow_le_pow_right (by omega) (by omega)
 have h3 : (256 : Nat) ^ 3 = 16777216:=by decide
 omega
theorem pw_all {blk : Nat → Nat} {j : Nat} (hj : j < 16) : pw blk 64 j = word blk (4 * j):=by
 unfold pw
 rw [show min (64 - 4 * j) 4 = 4 by omega]
 show (((0 * 256 + blk (4 * j + 0)) * 256 + blk (4 * j + 1)) * 256 + blk (4 * j + 2)) * 256 + blk (4 * j + 3) = _
 unfold word
 rw [Nat.add_zero]
 omega
theorem pw_none {blk : Nat → Nat} {j : Nat} (hj : 16 ≤ j) : pw blk 64 j = 0:=by
 unfold pw
 rw [show min (64 - 4 * j) 4 = 0 by omega]; rfl
theorem or_byte {x y : Nat} (hx : x < 16777216) (hy : y < 256) : bits .or .u32 ((x : Int) * 256) (y : Int) = ((x * 256 + y : Nat) : Int):=by
 have h:=or32 (x * 256) y (by omega) (by omega)
 rw [show x * 256 = 2 ^ 8 * x by omega,← Nat.two_pow_add_eq_or_of_lt (show y < 2 ^ 8 by omega)] at h
 rw [show x * 256 = 2 ^ 8 * x by omega,← h]
 rw [Int.natCast_mul,Int.mul_comm]; rfl
theorem words_calls (g : Nat) (s : St) (blk : Nat → Nat) (len : Nat) (hblk : ∀ j,blk j < 256) (w : World) (hH : HRow w g s blk len) :
  Calls Tryz.prog 145 #[.pointer (some ⟨g,0,none⟩)] w fun e w' => e = .returned (.agg (arrOf 64 fun t => .int .u32 (wt (fun t => word blk (4 * t)) t : Nat))) ∧ Below w.heap.size w w':=by
 go_enter Tryz.func145,Tryz.ntmps145
 go_upto_region 2 with (fail)
 rw [zeros64]
 have hN0 : ((w.alloc (.cells (arrOf 64 (fun _ => .int .u32 0)) 178)).alloc (.cells (arrOf 64 (fun _ => .int .u32 0)) 178)).rowIs w.heap.size 178 64 (fun _ => .int .u32 0):=(zbe w 64 178 (fun _ => .int .u32 0) rfl).alloc _
 have hR : ((w.alloc (.cells (arrOf 64 (fun _ => .int .u32 0)) 178)).alloc (.cells (arrOf 64 (fun _ => .int .u32 0)) 178)).rowIs (w.heap.size + 1) 178 64 (fun _ => .int .u32 0):=zbe _ 64 178 (fun _ => .int .u32 0) (by simp)
 have hb : Below w.heap.size w ((w.alloc (.cells (arrOf 64 (fun _ => .int .u32 0)) 178)).alloc (.cells (arrOf 64 (fun _ => .int .u32 0)) 178)):=((Below.refl _ _).alloc (by simp) _).alloc (by simp) _
 have hH1:=(hH.alloc (.cells (arrOf 64 (fun _ => .int .u32 0)) 178)).alloc (.cells (arrOf 64 (fun _ => .int .u32 0)) 178)
 generalize ((w.alloc (.cells (arrOf 64 (fun _ => .int .u32 0)) 178)).alloc (.cells (arrOf 64 (fun _ => .int .u32 0)) 178)) = w1 at *
 have HB:=veil hH1.block
 obtain ⟨B,hB⟩ : ∃ B,B = ((List.range 64).map fun j => Value.int .u8 (blk j : Nat)).toArray:=⟨_,rfl⟩
 have HBB:=veil hB
 clear hB
 go_wp2_with ((with_reducible refine zab 10 ?_); refine wpList_load_mid rfl 158 _ rfl g 8 rfl ((List.range 64).map fun j => Value.int .u8 (blk j : Nat)) _ HB.out Tryz.underlying158 rfl info8 ?_; rw [← HBB.out])
 go_loopw [11] (fun c wr => ∃ k : Nat,k ≤ 64 ∧ c = .int .i64 k ∧ wr.rowIs (w.heap.size + 1) 178 64 (fun j => .int .u32 (pw blk k j : Nat)) ∧ wr.rowIs w.heap.size 178 64 (fun _ => .int .u32 0) ∧ Below w.heap.size w wr)
  (fun c _ => 64 - (intOf c).toNat)
 case atStart => exact ⟨0,by omega,rfl,hR.congr fun j _ => by rw [pw_zero]; rfl,hN0,hb⟩
 case round =>
  obtain ⟨k,hk,rfl,hR,hN0,hb⟩:=hrel
  by_cases hlt : k < 64
  ·
   have hBk : B[k]? = some (.int .u8 (blk k : Nat)):=by rw [HBB.out]; simp [hlt]
   have hst:=fun j => pw_step (blk:=blk) (k:=k) j
   have hx:=pw_lt hblk k
   have hy:=hblk k
   obtain ⟨q,hq⟩ : ∃ q,q = k / 4:=⟨_,rfl⟩
   rw [← hq] at hst hx
   have hq16 : q < 16:=by omega
   have hqi : (k : Int) / 4 = (q : Int):=by omega
   obtain ⟨x,hxx⟩ : ∃ x,x = pw blk k q:=⟨_,rfl⟩
   obtain ⟨y,hyy⟩ : ∃ y,y = blk k:=⟨_,rfl⟩
   have c1:=hR.cell (show q < 64 by omega)
   have f1:=hR.frozen q
   rw [← hxx] at hx c1
   rw [← hyy] at hy hBk
   have ko:=or_byte hx hy
   have HS:=veil hst
   have HX:=veil hxx
   have HY:=veil hyy
   have HQ:=veil hq
   have kx:=fun W => zcq (P:=Tryz.prog) (t:=158) (cs:=B) (v:=.int .u8 (y : Int)) Tryz.underlying158 (by kernel_rfl) (fun W => run_part_plain (P:=Tryz.prog) W (e:=5) (by kernel_rfl) (xs:=B) (off:=k) hBk) hlt .i64 W
   clear hst hxx hyy hq hBk
   go_wp2
   go_roundw
   case rel =>
    refine ⟨k + 1,by omega,by go_num,(hR.set q _).congr fun j hj => ?_,zat hN0 (by omega) _,zag hb (by omega) _⟩
    by_cases h : j = q
    ·
     subst h
     rw [if_pos rfl,HS.out,if_pos rfl,← HX.out,← HY.out]
     rfl
    ·
     rw [if_neg h,HS.out,if_neg h]
   case measure => simp [intOf]; omega
  ·
   have e64 : k = 64:=by omega
   have hR:=e64 ▸ hR
   have HK:=veil e64
   have hkf : decide ((k : Int) < 64) = false:=by simp; omega
   clear e64 hlt hk
   have hm : ∀ t,t < 16 → word blk (4 * t) < 2 ^ 32:=fun t _ => by
    unfold word
    have h0:=hblk (4 * t); have h1:=hblk (4 * t + 1); have h2:=hblk (4 * t + 2); have h3:=hblk (4 * t + 3)
    omega
   have hR : wr.rowIs (w.heap.size + 1) 178 64 (fun j => .int .u32 ((if j < 16 then wt (fun t => word blk (4 * t)) j else 0 : Nat) : Int)):=hR.congr fun j _ => by
    by_cases h : j < 16
    ·
     rw [if_pos h,wt_lo _ h,pw_all h]
    ·
     rw [if_neg h,pw_none (by omega)]
   have hW:=fun t => wt_lt (m:=fun t => word blk (4 * t)) hm t
   obtain ⟨m,hm0⟩ : ∃ m,m = fun t => word blk (4 * t):=⟨_,rfl⟩
   rw [← hm0] at hR hW
   have HM0:=veil hm0
   clear hm0
   have HM:=veil hm
   have HW:=veil hW
   have HBL:=veil hblk
   clear hm hW hblk
   go_wp2
   go_loopw [6] (fun c wr => ∃ t : Nat,16 ≤ t ∧ t ≤ 64 ∧ c = .int .i64 t ∧ wr.rowIs (w.heap.size + 1) 178 64 (fun j => .int .u32 ((if j < t then wt m j else 0 : Nat) : Int)) ∧ wr.rowIs w.heap.size 178 64 (fun _ => .int .u32 0) ∧ Below w.heap.size w wr)
    (fun c _ => 64 - (intOf c).toNat)
   case atStart => exact ⟨16,by omega,by omega,rfl,hR,hN0,hb⟩
   case round =>
    obtain ⟨t,ht16,ht,rfl,hR,hN0,hb⟩:=hrel
    by_cases hlt : t < 64
    ·
     obtain ⟨t16,e16⟩ : ∃ t16,t = t16 + 16:=⟨t - 16,by omega⟩
     have cell : ∀ d,0 < d → d ≤ 16 → wr.cell? ⟨w.heap.size + 1,t - d,none⟩ = some (.int .u32 (wt m (t - d) : Nat)):=fun d h0 h1 => by
      rw [hR.cell (show t - d < 64 by omega),if_pos (by omega)]
     have c2:=cell 2 (by omega) (by omega)
     have c7:=cell 7 (by omega) (by omega)
     have c15:=cell 15 (by omega) (by omega)
     have c16:=cell 16 (by omega) (by omega)
     have cT : wr.cell? ⟨w.heap.size + 1,t,none⟩ = some (.int .u32 0):=by
      rw [hR.cell hlt,if_neg (by omega)]; rfl
     have fT:=hR.frozen t
     have hwt:=wt_hi m (show ¬ t < 16 by omega)
     have l2:=HW.out (t - 2)
     have l7:=HW.out (t - 7)
     have l15:=HW.out (t - 15)
     have l16:=HW.out (t - 16)
     obtain ⟨x2,hx2⟩ : ∃ x,x = wt m (t - 2):=⟨_,rfl⟩
     obtain ⟨x7,hx7⟩ : ∃ x,x = wt m (t - 7):=⟨_,rfl⟩
     obtain ⟨x15,hx15⟩ : ∃ x,x = wt m (t - 15):=⟨_,rfl⟩
     obtain ⟨x16,hx16⟩ : ∃ x,x = wt m (t - 16):=⟨_,rfl⟩
     rw [← hx2] at c2 hwt l2
     rw [← hx7] at c7 hwt l7
     rw [← hx15] at c15 hwt l15
     rw [← hx16] at c16 hwt l16
     have i2 : (t : Int) - 2 = ((t - 2 : Nat) : Int):=by omega
     have i7 : (t : Int) - 7 = ((t - 7 : Nat) : Int):=by omega
     have i15 : (t : Int) - 15 = ((t - 15 : Nat) : Int):=by omega
     have i16 : (t : Int) - 16 = ((t - 16 : Nat) : Int):=by omega
     have b2 : t - 2 < 64:=by omega
     have b7 : t - 7 < 64:=by omega
     have b15 : t - 15 < 64:=by omega
     have b16 : t - 16 < 64:=by omega
     generalize t - 2 = t2 at *
     generalize t - 7 = t7 at *
     generalize t - 15 = t15 at *
     generalize t - 16 = t16' at *
     have a1 : ∀ x y : Nat,((x : Int) + (y : Int)) % 4294967296 = ((ad x y : Nat) : Int):=fun x y => by unfold ad; rw [Int.natCast_emod,Int.natCast_add]; rfl
     have a2 : ∀ x y : Nat,IntKind.u32.wrap ((x : Int) + (y : Int)) = ((ad x y : Nat) : Int):=fun x y => by rw [wrap32]; exact a1 x y
     have w2 : IntKind.i64.wrap (t2 : Int) = (t2 : Int):=IntWalk.i64_in _ (by omega)
     have w7 : IntKind.i64.wrap (t7 : Int) = (t7 : Int):=IntWalk.i64_in _ (by omega)
     have w15 : IntKind.i64.wrap (t15 : Int) = (t15 : Int):=IntWalk.i64_in _ (by omega)
     have w16 : IntKind.i64.wrap (t16' : Int) = (t16' : Int):=IntWalk.i64_in _ (by omega)
     have j2 : (t2 : Int) < 64:=by omega
     have j7 : (t7 : Int) < 64:=by omega
     have j15 : (t15 : Int) < 64:=by omega
     have j16 : (t16' : Int) < 64:=by omega
     have jT : (t : Int) < 64:=by omega
     have K1:=veil (fun W => smallOne_calls x2 l2 W)
     have K2:=veil (fun W => smallZero_calls x15 l15 W)
     have HT:=veil hwt
     have HH:=veil (And.intro hx2 (And.intro hx7 (And.intro hx15 hx16)))
     have E16:=veil e16
     clear cell hwt hx2 hx7 hx15 hx16 e16 l2 l15 l7 l16
     go_wp2
     go_still_tail 23,(by kernel_rfl)
     still_call (by first | ((with_reducible refine (K1.out _).mono ?_); rintro e w' ⟨rfl,rfl⟩; exact ⟨rfl,rfl⟩))
     repeat still_step
     still_call (by first | ((with_reducible refine (K2.out _).mono ?_); rintro e w' ⟨rfl,rfl⟩; exact ⟨rfl,rfl⟩))
     repeat still_step
     refine wpStill_nil ?_
     have hR2:=hR.drew
     have hN2:=hN0.drew
     have hb2:=hb.drew
     have cT2 : wr.drew.cell? ⟨w.heap.size + 1,t,none⟩ = some (.int .u32 0):=cT
     have fT2 : wr.drew.frozen? ⟨w.heap.size + 1,t,none⟩ = false:=fT
     change wpList _ _ _ _ _ wr.drew
     generalize wr.drew = w2 at *
     clear c2 c7 c15 c16 cT fT hR hN0 hb
     go_wp2
     go_roundw
     case rel =>
      refine ⟨t + 1,by omega,by omega,by go_num,(hR2.set t _).congr fun j hj => ?_,zat hN2 (by omega) _,zag hb2 (by omega) _⟩
      by_cases h : j = t
      ·
       subst h
       rw [if_pos rfl,if_pos (by omega),HT.out]
      ·
       rw [if_neg h]
       by_cases h2 : j < t
       ·
        rw [if_pos h2,if_pos (by omega)]
       ·
        rw [if_neg h2,if_neg (by omega)]
     case measure => simp [intOf]; omega
    ·
     have e64 : t = 64:=by omega
     have hR:=e64 ▸ hR
     have hR : wr.rowIs (w.heap.size + 1) 178 64 (fun j => .int .u32 (wt m j : Nat)):=hR.congr fun j hj => by rw [if_pos hj]
     have htf : decide ((t : Int) < 64) = false:=by simp; omega
     clear HM HB HBB e64 hlt ht ht16
     have hA:=veil (blkOf hR)
     have hN:=veil (blkOf hN0)
     obtain ⟨A,hA2⟩ : ∃ A,A = arrOf 64 (fun j => .int .u32 (wt m j : Nat)):=⟨_,rfl⟩
     rw [← hA2] at hA
     have HE:=veil hA2
     have hs : A.size = 64:=by rw [hA2,zah]
     have h1 : A.all (·.oneCell') = true:=by rw [hA2]; exact zas fun _ _ => rfl
     have h2 : (Tryz.prog.info? 178).map (·.size) = some A.size:=by rw [hs]; exact info32
     have HZ:=veil (And.intro hs (And.intro h1 h2))
     clear hs h1 h2 hA2
     go_wp2_with (first
      | ((with_reducible refine zab 54 ?_); refine wpList_load_row rfl 178 _ rfl (w.heap.size + 1) rfl 178 A (0,0) _ hA.out Tryz.underlying178 rfl HZ.out.2.2 ?_)
      | ((with_reducible refine zae ?_); refine wpList_store_row rfl 178 _ _ rfl w.heap.size A rfl rfl 178 _ hN.out HZ.out.2.2 (by rw [HZ.out.1,zah]) HZ.out.2.1 ?_))
     exact bodyPost_ret (results_cell_row rfl _ _ w.heap.size 178 A (0,0) _ rfl (setRow_heap wr w.heap.size _ A 178 (0,0) hN.out) Tryz.underlying178 rfl HZ.out.2.2) rfl ⟨by rw [HE.out,HM0.out],zbx hb (Nat.le_refl _) _⟩
theorem infoS : (Tryz.prog.info? 157).map (·.size) = some 8:=by kernel_rfl
theorem ad_mod (x y : Nat) : ((x : Int) + (y : Int)) % 4294967296 = ((ad x y : Nat) : Int):=by unfold ad; rw [Int.natCast_emod,Int.natCast_add]; rfl
theorem ad_wrap (x y : Nat) : IntKind.u32.wrap ((x : Int) + (y : Int)) = ((ad x y : Nat) : Int):=by rw [wrap32]; exact ad_mod x y
def stArr (s : St) : Array Value:=arrOf 8 fun j => .int .u32 (s.at j : Nat)
theorem stList (s : St) : ((List.range 8).map fun j => Value.int .u32 (s.at j : Nat)).toArray = stArr s:=rfl
theorem addSt_at (s r : St) (j : Nat) : (addSt s r).at j = ad (s.at j) (r.at j):=by
 unfold St.at addSt
 split <;> rfl
theorem mix_calls (g : Nat) (s : St) (blk : Nat → Nat) (len : Nat) (hs : s.Ok) (hblk : ∀ j,blk j < 256) (w : World) (hK : KT w) (hH : HRow w g s blk len) :
  Calls Tryz.prog 116 #[.pointer (some ⟨g,0,none⟩)] w fun e w' => e = .returned (.tuple #[]) ∧ HRow w' g (blockN (fun t => word blk (4 * t)) s) blk len ∧ But g w w':=by
 go_enter Tryz.func116,Tryz.ntmps116
 go_wp2_with fail
 refine (words_calls g s blk len hblk w hH).mono ?_
 rintro e w1 ⟨rfl,hb1⟩
 have hm : ∀ t,t < 16 → word blk (4 * t) < 2 ^ 32:=fun t _ => by
  unfold word
  have h0:=hblk (4 * t); have h1:=hblk (4 * t + 1); have h2:=hblk (4 * t + 2); have h3:=hblk (4 * t + 3)
  omega
 obtain ⟨m,hm0⟩ : ∃ m,m = fun t => word blk (4 * t):=⟨_,rfl⟩
 have hW:=fun t => wt_lt (m:=fun t => word blk (4 * t)) hm t
 rw [← hm0] at hW ⊢
 obtain ⟨A,hA⟩ : ∃ A,A = arrOf 64 (fun j => .int .u32 (wt m j : Nat)):=⟨_,rfl⟩
 rw [← hA]
 have hAs : A.size = 64:=by rw [hA,zah]
 have hA1 : A.all (·.oneCell') = true:=by rw [hA]; exact zas fun _ _ => rfl
 have HZ:=veil (And.intro hAs (And.intro hA1 (show (Tryz.prog.info? 178).map (·.size) = some A.size by rw [hAs]; exact info32)))
 have HA:=veil (show ∀ j,j < 64 → A[j]? = some (.int .u32 (wt m j : Nat)) from fun j hj => by rw [hA,zbk _ hj])
 have HM:=veil (show (fun t => word blk (4 * t)) = m from hm0.symm)
 have HS:=veil hs
 have HW:=veil hW
 have hK1:=hK.call hb1
 have hH1:=hH.call hb1
 clear hm hm0 hW hA hAs hA1 hs hblk hK hH
 go_upto_region 1 with (first
  | ((with_reducible refine zae ?_); refine wpList_store_row rfl 178 _ _ rfl w1.heap.size A rfl rfl 178 _ (heap_alloc_last w1 _) HZ.out.2.2 (by rw [HZ.out.1]; rfl) HZ.out.2.1 ?_; rw [World.setRow_alloc_new]))
 have hA2 : (w1.alloc (.cells A 178)).heap[w1.heap.size]? = some (.cells A 178 (0,0)):=heap_alloc_last w1 _
 have hK2:=hK1.alloc (.cells A 178)
 have hH2:=hH1.alloc (.cells A 178)
 have hb2:=hb1.alloc hb1.size (.cells A 178)
 generalize w1.alloc (.cells A 178) = w2 at *
 generalize w1.heap.size = bA at *
 have HA2:=veil hA2
 clear hA2
 have HB:=veil hH2.words
 have HS1:=veil (show (stArr s).all (·.oneCell') = true from zas fun _ _ => rfl)
 have HSL:=veil (stList s)
 clear hK1 hH1 hb1
 go_upto_region 2 with (first
  | ((with_reducible refine zab 23 ?_); refine wpList_load_mid rfl 157 _ rfl g 0 rfl _ _ HB.out Tryz.underlying157 rfl (by simpa using infoS) ?_; rw [HSL.out]; generalize hSA : stArr s = SA; have HSA:=veil hSA; clear hSA)
  | ((with_reducible refine zae ?_); refine wpList_store_row rfl 157 _ _ rfl w2.heap.size (stArr s) rfl (congrArg Value.agg HSA.out.symm) 157 _ (heap_alloc_last w2 _) infoS rfl HS1.out ?_; rw [World.setRow_alloc_new]))
 have hR3 : (w2.alloc (.cells (stArr s) 157)).rowIs w2.heap.size 157 8 (fun j => .int .u32 (s.at j : Nat)):=zbe w2 8 _ _ rfl
 have hK3:=hK2.alloc (.cells (stArr s) 157)
 have hH3:=hH2.alloc (.cells (stArr s) 157)
 have hb3:=hb2.alloc hb2.size (.cells (stArr s) 157)
 have hA3 : (w2.alloc (.cells (stArr s) 157)).heap[bA]? = some (.cells A 178 (0,0)):=(Below.heap_alloc _ _ _ (Array.getElem?_eq_some_iff.1 HA2.out).1).trans HA2.out
 generalize w2.alloc (.cells (stArr s) 157) = w3 at *
 generalize w2.heap.size = bS at *
 have HA3:=veil hA3
 have d0 : w3.cell? ⟨bS,0,none⟩ = some (.int .u32 (s.a : Nat)):=hR3.cell (by decide)
 have d1 : w3.cell? ⟨bS,1,none⟩ = some (.int .u32 (s.b : Nat)):=hR3.cell (by decide)
 have d2 : w3.cell? ⟨bS,2,none⟩ = some (.int .u32 (s.c : Nat)):=hR3.cell (by decide)
 have d3 : w3.cell? ⟨bS,3,none⟩ = some (.int .u32 (s.d : Nat)):=hR3.cell (by decide)
 have d4 : w3.cell? ⟨bS,4,none⟩ = some (.int .u32 (s.e : Nat)):=hR3.cell (by decide)
 have d5 : w3.cell? ⟨bS,5,none⟩ = some (.int .u32 (s.f : Nat)):=hR3.cell (by decide)
 have d6 : w3.cell? ⟨bS,6,none⟩ = some (.int .u32 (s.g : Nat)):=hR3.cell (by decide)
 have d7 : w3.cell? ⟨bS,7,none⟩ = some (.int .u32 (s.h : Nat)):=hR3.cell (by decide)
 clear hK2 hH2 hb2 HA2 hA3 hR3 HB HS1 HSL HSA
 go_quiet (fail)
 have hK4:=hK3.drewN nq
 have hH4:=hH3.drewN nq
 have hb4:=zbv hb3 nq
 have hA4 : (w3.drewN nq).heap[bA]? = some (.cells A 178 (0,0)):=HA3.out
 generalize w3.drewN nq = w4 at *
 have HA4:=veil hA4
 clear hK3 hH3 hb3 HA3 hA4 d0 d1 d2 d3 d4 d5 d6 d7
 have sI:=ad_mod
 have sW:=ad_wrap
 go_wp2_with ((with_reducible refine zab 40 ?_); refine wpList_load_row rfl 178 _ rfl bA rfl 178 A (0,0) _ HA4.out Tryz.underlying178 rfl HZ.out.2.2 ?_)
 clear HA4
 go_loopw [4,5,6,7,8,9,10,11,41] (fun v4 v5 v6 v7 v8 v9 v10 v11 v41 wr => ∃ t a b c d e f q h : Nat,t ≤ 64 ∧ Hid (roundsN m s t = ⟨a,b,c,d,e,f,q,h⟩) ∧
   v41 = .int .i64 (t : Int) ∧ v4 = .int .u32 (a : Int) ∧ v5 = .int .u32 (b : Int) ∧ v6 = .int .u32 (c : Int) ∧ v7 = .int .u32 (d : Int) ∧ v8 = .int .u32 (e : Int) ∧ v9 = .int .u32 (f : Int) ∧ v10 = .int .u32 (q : Int) ∧ v11 = .int .u32 (h : Int) ∧
   KT wr ∧ HRow wr g s blk len ∧ Below w.heap.size w wr)
  (fun _ _ _ _ _ _ _ _ v41 _ => 64 - (intOf v41).toNat)
 case atStart => exact ⟨0,s.a,s.b,s.c,s.d,s.e,s.f,s.g,s.h,by omega,rfl,rfl,rfl,rfl,rfl,rfl,rfl,rfl,rfl,rfl,hK4,hH4,hb4⟩
 case round =>
  obtain ⟨t,a,b,c,d,e,f,q,h,ht,hr,rfl,rfl,rfl,rfl,rfl,rfl,rfl,rfl,rfl,hK,hH,hb⟩:=hrel
  have hok : (⟨a,b,c,d,e,f,q,h⟩ : St).Ok:=hr.out ▸ roundsN_ok HS.out t
  by_cases hlt : t < 64
  ·
   have ck:=hK.cell t hlt
   have kx:=fun W => zcq (P:=Tryz.prog) (t:=178) (cs:=A) (v:=.int .u32 (wt m t : Nat)) Tryz.underlying178 (by kernel_rfl) (fun W => run_part_plain (P:=Tryz.prog) W (e:=120) (by kernel_rfl) (xs:=A) (off:=t) (HA.out t hlt)) hlt .i64 W
   obtain ⟨x,hx⟩ : ∃ x,x = wt m t:=⟨_,rfl⟩
   obtain ⟨k,hk⟩ : ∃ k,k = kc t:=⟨_,rfl⟩
   rw [← hk] at ck
   rw [← hx] at kx
   have K1:=veil (fun W => bigOne_calls e hok.e W)
   have K2:=veil (fun W => choice_calls e f q hok.e hok.f hok.g W)
   have K3:=veil (fun W => bigZero_calls a hok.a W)
   have K4:=veil (fun W => majority_calls a b c hok.a hok.b hok.c W)
   have jt : (t : Int) < 64:=by omega
   have wt64 : IntKind.i64.wrap (t : Int) = (t : Int):=IntWalk.i64_in _ (by omega)
   have HX:=veil (And.intro hx hk)
   clear hx hk hok
   go_wp2
   refine wp_region_still_lit (by kernel_rfl) (by kernel_rfl) ?_
   repeat still_step
   still_call (by first | ((with_reducible refine (K1.out _).mono ?_); rintro e w' ⟨rfl,rfl⟩; exact ⟨rfl,rfl⟩))
   repeat still_step
   still_call (by first | ((with_reducible refine (K2.out _).mono ?_); rintro e w' ⟨rfl,rfl⟩; exact ⟨rfl,rfl⟩))
   repeat still_step
   refine wpStill_nil ?_
   change Exit.then _ _ _ _ wr.drew
   have hK':=hK.drew
   have hH':=hH.drew
   have hb':=hb.drew
   generalize wr.drew = w5 at *
   clear hK hH hb ck kx
   obtain ⟨y1,hy1⟩ : ∃ y,y = ad (ad (ad (ad h (bs1 e)) (chN e f q)) k) x:=⟨_,rfl⟩
   rw [← hy1]
   have HY1:=veil hy1
   clear hy1
   go_wp2_with (first
    | (go_at_call 148; ((with_reducible refine (K3.out _).mono ?_); rintro e w' ⟨rfl,rfl⟩))
    | (go_at_call 149; ((with_reducible refine (K4.out _).mono ?_); rintro e w' ⟨rfl,rfl⟩)))
   go_roundw
   case rel =>
    refine ⟨t + 1,_,_,_,_,_,_,_,_,by omega,?_,by go_num,rfl,rfl,rfl,rfl,rfl,rfl,rfl,rfl,hK',hH',hb'⟩
    show roundsN m s (t + 1) = _
    show stepN (roundsN m s t) (kc t) (wt m t) = _
    rw [hr.out,← HX.out.1,← HX.out.2,HY1.out]
    rfl
   case measure => simp [intOf]; omega
  ·
   have e64 : t = 64:=by omega
   have htf : decide ((t : Int) < 64) = false:=by simp; omega
   have hr:=e64 ▸ hr
   obtain ⟨r,hrr⟩ : ∃ r : St,r = ⟨a,b,c,d,e,f,q,h⟩:=⟨_,rfl⟩
   have hB : blockN m s = addSt s r:=by unfold blockN; rw [hr.out,hrr]
   have kx : ∀ j : Nat,j < 8 → ∀ W,(Instr.index 157 (.agg #[.int .u32 (a : Int),.int .u32 (b : Int),.int .u32 (c : Int),.int .u32 (d : Int),.int .u32 (e : Int),.int .u32 (f : Int),.int .u32 (q : Int),.int .u32 (h : Int)]) (.int .i64 (j : Int))).run Tryz.prog W = .ok (.int .u32 (r.at j : Nat)) W:=fun j hj W =>
    zcq (P:=Tryz.prog) (t:=157) (v:=.int .u32 (r.at j : Nat)) Tryz.underlying157 (by kernel_rfl) (fun W => run_part_plain (P:=Tryz.prog) W (e:=120) (by kernel_rfl) (off:=j) (by rw [hrr]; exact zbk (n:=8) (fun i => .int .u32 (St.at ⟨a,b,c,d,e,f,q,h⟩ i : Nat)) hj)) hj .i64 W
   have KX:=veil kx
   have HB:=veil hB
   have HR:=veil hrr
   have hH8 : wr.rowIs g 160 73 (fun i => hcells s blk len i):=hH
   have hbt : But g w wr:=But.of_below hb
   clear kx hB hrr e64 hlt ht hr hok hH hb
   go_wp2
   go_loopw [89] (fun v89 wr => ∃ j : Nat,j ≤ 8 ∧ v89 = .int .i64 (j : Int) ∧ wr.rowIs g 160 73 (fun i => if i < j then .int .u32 ((addSt s r).at i : Nat) else hcells s blk len i) ∧ But g w wr)
    (fun v89 _ => 8 - (intOf v89).toNat)
   case atStart => exact ⟨0,by omega,rfl,hH8.congr fun i _ => by rw [if_neg (by omega)],hbt⟩
   case round =>
    obtain ⟨j,hj,rfl,hH,hb⟩:=hrel
    by_cases hlt : j < 8
    ·
     have kj:=KX.out j hlt
     have cj : wr.cell? ⟨g,j,none⟩ = some (.int .u32 (s.at j : Nat)):=by
      rw [hH.cell (show j < 73 by omega),if_neg (by omega),hcells,if_pos hlt]
     have fj:=hH.frozen j
     have jj : (j : Int) < 8:=by omega
     have wj : IntKind.i64.wrap (j : Int) = (j : Int):=IntWalk.i64_in _ (by omega)
     obtain ⟨x,hx⟩ : ∃ x,x = s.at j:=⟨_,rfl⟩
     obtain ⟨y,hy⟩ : ∃ y,y = r.at j:=⟨_,rfl⟩
     rw [← hx] at cj
     rw [← hy] at kj
     have HX:=veil (And.intro hx hy)
     clear hx hy
     go_wp2
     go_still_tail 11,(by kernel_rfl)
     have hH':=hH.drew
     have hb':=But.drew hb
     have cj' : wr.drew.cell? ⟨g,j,none⟩ = some (.int .u32 (x : Nat)):=cj
     have fj' : wr.drew.frozen? ⟨g,j,none⟩ = false:=fj
     change wpList _ _ _ _ _ wr.drew
     generalize wr.drew = w5 at *
     clear cj fj hH hb
     go_wp2
     go_roundw
     case rel =>
      refine ⟨j + 1,by omega,by go_num,(hH'.set j _).congr fun i hi => ?_,But.set hb' _ _⟩
      by_cases h : i = j
      ·
       subst h
       rw [if_pos rfl,if_pos (by omega),addSt_at,← HX.out.1,← HX.out.2]
      ·
       rw [if_neg h]
       by_cases h2 : i < j
       ·
        rw [if_pos h2,if_pos (by omega)]
       ·
        rw [if_neg h2,if_neg (by omega)]
     case measure => simp [intOf]; omega
    ·
     have e8 : j = 8:=by omega
     have hjf : decide ((j : Int) < 8) = false:=by simp; omega
     have hH : HRow wr g (blockN m s) blk len:=hH.congr fun i hi => by
      rw [e8,HB.out]
      unfold hcells
      by_cases h : i < 8
      ·
       rw [if_pos h,if_pos h]
      ·
       rw [if_neg h,if_neg h,if_neg h]
     clear e8 hlt hj
     go_wp2
     go_end0
     exact ⟨rfl,by rw [HM.out]; exact hH,hb⟩
end Go.Proofs.YtihophdbkjhopaaGreatDoor
