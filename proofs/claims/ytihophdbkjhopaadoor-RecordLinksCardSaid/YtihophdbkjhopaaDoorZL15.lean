/-
  Of Rdg KU Rdh FSub2 FMul2 C1 C2 C4 C3 C5 C6 C7 C8 CM CR CD D2 D3 D4 Y0 Y1.
-/
import Derived.Laws.IdiomStrings
import Derived.Great.BuildSlice
import Derived.Deep.LoopGhost
import Derived.Deep.RegionWith
import Derived.Deep.Cut
import Derived.Deep.CutRange
import Derived.Deep.MidRow
import Derived.Laws.OwnMore
import Derived.Test.YtihophdbkjhopaaDoorZL14
import Derived.Test.YtihophdbkjhopaaDoorZL11
import Derived.Test.YtihophdbkjhopaaDoorZL6
import Derived.Test.YtihophdbkjhopaaDoorZL10
import Derived.Test.YtihophdbkjhopaaDoorZL2
import Derived.Test.YtihophdbkjhopaaDoorZL1
import Derived.Test.YtihophdbkjhopaaDoorZL12
import Derived.Test.YtihophdbkjhopaaDoorZL8
import Derived.Test.YtihophdbkjhopaaDoorZL3
import Derived.Test.YtihophdbkjhopaaDoorZL4
import Derived.Test.YtihophdbkjhopaaDoorZL5
set_option maxRecDepth 1000000
set_option maxHeartbeats 20000000
namespace Go.Proofs.YtihophdbkjhopaaDoor
open Go.RowKit
open Go.Value renaming int → vI
open Go.IntKind renaming u64 → vU
open Go.Act renaming put → aP
open List renaming setIfInBounds_toArray → lA, set_cons_zero → lZ, set_cons_succ → lS
theorem zbi {L : Low} {w : World} {bs : List Nat} {X D G : Array Value} {ev : Value} (h : OpenC17 L w bs X D G ev) : ((Tryd.prog.info? 35).map (·.size) = some X.size ∧ RZ.size = X.size ∧ X.all (·.oneCell') = true) ∧ ((Tryd.prog.info? 33).map (·.size) = some D.size ∧ DZ.size = D.size ∧ D.all (·.oneCell') = true) ∧
  ((Tryd.prog.info? 37).map (·.size) = some G.size ∧ Z8.size = G.size ∧ G.all (·.oneCell') = true):=by
 rcases h with ⟨_,rfl,rfl,rfl,_⟩ | ⟨r,body,x,s,_,hR,rfl,rfl,_⟩
 ·
  exact ⟨⟨iRZ,rfl,zcx⟩,⟨iDZ,rfl,dz_one⟩,⟨iSg _ _,rfl,gc_one _ _⟩⟩
 ·
  exact ⟨⟨hR.info,hR.size.symm,hR.one⟩,⟨iDg _,(zah 32 _).symm,zbm fun _ _ => rfl⟩,⟨iSg _ _,rfl,gc_one _ _⟩⟩
structure ChainL (L : Low) : Prop where
 opens : ∀ A m c bs W,m = bs.length → m ≤ c → m ≤ 100000000 → KT W → Bs W A bs → Calls Tryd.prog 6 #[.slice A m c] W fun e w' => ∃ X D G ev,e = .returned (.tuple #[.agg X,.agg D,.agg G,ev]) ∧ Ext W w' ∧ OpenC17 L w' bs X D G ev
 holds : ∀ X Y f y R S W,X < top → Y < top → R < top → S < top → (∀ j,y j < 256) → Calls Tryd.prog 8 #[qv X Y f,dgv y,gv R S] W fun e w' => e = .returned (.bool (L.vf X Y f y R S)) ∧ Ext W w'
theorem chain17_of {L : Low} (C : ChainL L) (v : Value) (l : List Tv) (dev : Int) (X Y : Nat) (f : Bool) (hX : X < top) (hY : Y < top) (hl : l.length ≤ 1000000) (hle : ∀ x ∈ l,x.2.length ≤ 100000000) (w : World) (hK : KT w) (hT : Tx w v l) :
  Calls Tryd.prog 5 #[v,.int .i64 dev,qv X Y f] w fun e w' => e = .returned (.int .i64 (chainR L.dg (fun y r s => L.vf X Y f y r s) dev 0 nilD (txs l) : Nat)) ∧ Ext w w':=by
 have HKT:=veil hK
 have k2:=neNil2
 have k3:=neNilN
 obtain ⟨q,hq⟩ : ∃ q,q = qc X Y f:=⟨_,rfl⟩
 have HQ:=veil (And.intro hq (show (Tryd.prog.info? 27).map (·.size) = some q.size by rw [hq]; exact iT X Y f))
 have KV:=veil (fun y r s W h1 h2 h3 => C.holds X Y f y r s W hX hY h1 h2 h3)
 unfold qv at KV ⊢
 rw [← hq] at KV ⊢
 obtain ⟨hLs,hAt⟩:=hT
 obtain ⟨A,c,rfl,hc,hx⟩:=hLs
 have HT:=veil (And.intro hx (And.intro hAt (And.intro hle hl)))
 have HN:=veil (txs_len l)
 obtain ⟨n,hn⟩ : ∃ n,n = l.length:=⟨_,rfl⟩
 rw [← hn] at hc ⊢
 have HL:=veil hn
 have hnb : n ≤ 1000000:=by omega
 clear hx hAt hle hl hq hn hX hY hK
 have h2:=two_new w (.cells q 27) (.cells DZ 33)
 have hE0:=two_ext w (.cells q 27) (.cells DZ 33)
 go_enter Tryd.func5,Tryd.ntmps5
 go_upto_region 2 with (fail)
 obtain ⟨g5,hg5⟩ : ∃ g,g = w.heap.size:=⟨_,rfl⟩
 obtain ⟨g7,hg7⟩ : ∃ g,g = w.heap.size + 1:=⟨_,rfl⟩
 obtain ⟨w0,hw0⟩ : ∃ W,W = (w.alloc (.cells q 27)).alloc (.cells DZ 33):=⟨_,rfl⟩
 rw [← hw0,← hg7,← hg5] at h2
 rw [← hw0] at hE0
 unfold DZ at hw0
 rw [← hw0,← hg7,← hg5]
 have hlo : w.heap.size ≤ g7:=by omega
 have n57 : g5 < g7:=by omega
 have H0:=veil (And.intro hE0 h2)
 clear hE0 h2 hg5 hg7 hw0
 go_upto_region 3 with (fail)
 go_loopw [8,9,10,11,12,13,16] (fun _ _ _ _ _ _ u wr => ∃ (k : Nat) (last : List Nat),k ≤ n ∧ u = .int .i64 (k : Int) ∧ OnR L.dg (fun y r s => L.vf X Y f y r s) dev (txs l) k last ∧ last.length = 32 ∧ wr.heap[g7]? = some (.cells (dgP last) 33 (0,0)) ∧ wr.heap[g5]? = some (.cells q 27 (0,0)) ∧ Ext w wr)
  (fun _ _ _ _ _ _ u _ => n - (intOf u).toNat)
 case atStart => exact ⟨0,nilD,by omega,rfl,.start,rfl,H0.out.2.2,H0.out.2.1,H0.out.1⟩
 case round =>
  obtain ⟨k,last,hk,rfl,hOn,h32,h7,h5,hE⟩:=hrel
  by_cases hlt : k < n
  ·
   have hd1 : decide ((k : Int) < (n : Int)) = true:=by simp; omega
   have hkk : (k : Int) < (n : Int):=by omega
   have hkl : k < l.length:=by have:=HL.out; omega
   obtain ⟨b,o,hA,hb,hcl⟩:=HT.out.1.resolve_left (by omega)
   subst hA
   have hget:=txs_get hkl
   have hmem : l.getD k noTv ∈ l:=List.mem_of_getElem? (tv_get hkl)
   obtain ⟨A1,c1,hx1,hc1,hB1⟩:=HT.out.2.1 _ hmem
   have hlen:=HT.out.2.2.1 _ hmem
   have cc:=txt_cell hE hb hcl hkl
   rw [hx1] at cc
   obtain ⟨bs,hbs⟩ : ∃ bs,bs = (l.getD k noTv).2:=⟨_,rfl⟩
   rw [← hbs] at cc hget hB1 hc1 hlen
   obtain ⟨m,hm⟩ : ∃ m,m = bs.length:=⟨_,rfl⟩
   rw [← hm] at cc hc1 hlen
   have KO:=veil (C.opens A1 m c1 bs wr hm hc1 hlen (HKT.out.more hE) (hB1.ext hE))
   have HS:=veil (And.intro hOn (And.intro h32 (And.intro hget hB1.1)))
   have H1:=veil (And.intro hE (And.intro h7 h5))
   clear hOn h32 hget hmem hx1 hbs hB1 hm hc1 hlen h7 h5 hE hcl
   go_upto_region 6 with (first
    | (go_at_call 6; refine KO.out.mono ?_; rintro e w2 ⟨X1,D,G,ev,rfl,hE2,hA⟩)
    | ((with_reducible refine zag ?_); refine wpList_store_row rfl 35 _ _ rfl w2.heap.size X1 rfl rfl 35 _ (zbs w2 _ _ _).1 (zbi hA).1.1 (zbi hA).1.2.1 (zbi hA).1.2.2 ?_)
    | ((with_reducible refine zag ?_); refine wpList_store_row rfl 33 _ _ rfl (w2.heap.size + 1) D rfl rfl 33 _ (zar _ (zbs w2 _ _ _).2.1 (Nat.lt_succ_self _)) (zbi hA).2.1.1 (zbi hA).2.1.2.1 (zbi hA).2.1.2.2 ?_)
    | ((with_reducible refine zag ?_); refine wpList_store_row rfl 37 _ _ rfl (w2.heap.size + 1 + 1) G rfl rfl 37 _ (zar _ (zar _ (zbs w2 _ _ _).2.2 (by omega)) (by omega)) (zbi hA).2.2.1 (zbi hA).2.2.2.1 (zbi hA).2.2.2.2 ?_))
   change Code.wp _ _ _ _ (stored3 w2 X1 D G)
   have hF:=zfv w2 X1 D G
   generalize stored3 w2 X1 D G = w3 at *
   obtain ⟨g9,hg9⟩ : ∃ g,g = w2.heap.size:=⟨_,rfl⟩
   obtain ⟨g10,hg10⟩ : ∃ g,g = w2.heap.size + 1:=⟨_,rfl⟩
   obtain ⟨g11,hg11⟩ : ∃ g,g = w2.heap.size + 1 + 1:=⟨_,rfl⟩
   rw [← hg11,← hg10,← hg9] at hF ⊢
   have hE3:=hE2.trans hF.1
   have H3:=veil (And.intro (H1.out.1.trans hE3) (And.intro (hE3.block H1.out.2.1) (And.intro (hE3.block H1.out.2.2) hF.2)))
   have HA:=veil (And.intro hA hF.1)
   clear hF hg9 hg10 hg11 hE2 hE3 H1 KO hA cc
   rcases HA.out.1 with ⟨hop,rfl,rfl,rfl,rfl⟩ | ⟨r,body,x,s,hop,hRv,rfl,rfl,rfl⟩
   ·
    clear HA
    have HZ:=veil (zei HS.out.1 HS.out.2.2.1 (link_off hop))
    go_wp2
    go_ret
    exact ⟨by rw [HZ.out]; rfl,H3.out.1⟩
   ·
    obtain ⟨hWf,A9,c9,hX1,_,_⟩:=hRv
    have h9:=H3.out.2.2.2.1
    have hAt : RcAt w3 g9 (rcC r (.slice A9 r.bs.length c9)):=by rw [← hX1]; exact h9
    obtain ⟨d0,d1,_⟩:=hAt.cells
    obtain ⟨dv,hdv⟩ : ∃ n,n = r.dv:=⟨_,rfl⟩
    obtain ⟨sq,hsq⟩ : ∃ n,n = r.sq:=⟨_,rfl⟩
    rw [← hdv] at d0
    rw [← hsq] at d1
    obtain ⟨P1,hP1⟩ : ∃ P,P = dgP r.pv:=⟨_,rfl⟩
    obtain ⟨P2,hP2⟩ : ∃ P,P = dgP last:=⟨_,rfl⟩
    have hmid : ∀ (j : Nat) (v : Value),P1[j]? = some v → w3.cell? ⟨g9,8 + j,none⟩ = some v:=fun j v hv => by
     rw [hP1] at hv
     have hj : j < 32:=by
      have:=(Array.getElem?_eq_some_iff.1 hv).1
      unfold dgP dgc at this
      rw [zah] at this
      exact this
     rw [dgP_get _ hj] at hv
     rw [← hv]
     exact hAt.cell (rcC_pv r _ hj)
    have kq : ∀ W,(binOp .neq 33 (.agg P1) (.agg P2)).run Tryd.prog W = .ok (.bool (!decide (r.pv = last))) W:=fun W => by
     rw [hP1,hP2]
     exact neq_of (eql_dgP hWf.1 HS.out.2.1 W) rfl
    have kg : ∀ op x y W,(eqGuard op 33 x y (.agg P1) (.agg P2)).run Tryd.prog W = .ok () W:=fun op x y W => gDg P1 P2 op x y W
    have i1 : (Tryd.prog.info? 33).map (·.size) = some P1.size:=by rw [hP1]; exact iDg _
    have i2 : (Tryd.prog.info? 33).map (·.size) = some P2.size:=by rw [hP2]; exact iDg _
    have HP:=veil (And.intro i1 (And.intro i2 (And.intro hmid (And.intro hdv (And.intro hsq hP2)))))
    have h7:=H3.out.2.1
    rw [← hP2] at h7
    have H4:=veil (And.intro H3.out.1 (And.intro h7 H3.out.2.2))
    have HO:=veil hop
    clear hWf hX1 h9 hAt hdv hsq hP1 hmid i1 i2 h7 H3 hop hP2 HA
    by_cases p1 : dv = dev
    rotate_left
    ·
     have f1 : (dv != dev) = true:=by simp [p1]
     clear kq kg
     have HZ:=veil (zei HS.out.1 HS.out.2.2.1 (link_no HO.out fun h => p1 (HP.out.2.2.2.1.trans h.1)))
     go_wp2
     go_ret
     exact ⟨by rw [HZ.out]; rfl,H4.out.1⟩
    have f1 : (dv != dev) = false:=by simp [p1]
    by_cases p2 : sq = (k : Int)
    rotate_left
    ·
     have f2 : (sq != (k : Int)) = true:=by simp [p2]
     have HD:=veil p1
     clear kq kg
     subst p1
     have HZ:=veil (zei HS.out.1 HS.out.2.2.1 (link_no HO.out fun h => p2 (HP.out.2.2.2.2.1.trans h.2.1)))
     go_wp2
     go_ret
     exact ⟨by rw [HZ.out]; rfl,H4.out.1⟩
    have f2 : (sq != (k : Int)) = false:=by simp [p2]
    have HD:=veil (And.intro (HP.out.2.2.2.1.symm.trans p1) (HP.out.2.2.2.2.1.symm.trans p2))
    subst p1
    by_cases p3 : r.pv = last
    rotate_left
    ·
     have f3 : (!decide (r.pv = last)) = true:=by rw [decide_eq_false p3]; rfl
     rw [f3] at kq
     have HZ:=veil (zei HS.out.1 HS.out.2.2.1 (link_no HO.out fun h => p3 h.2.2.1))
     go_wp2_with (first
      | ((with_reducible refine zac 44 ?_); refine wpl_midG rfl 33 _ rfl g9 8 rfl P1 _ HP.out.2.2.1 Tryd.underlying33 rfl HP.out.1 ?_)
      | ((with_reducible refine zac 45 ?_); refine zdh rfl 33 _ rfl g7 rfl 33 P2 (0,0) _ H4.out.2.1 Tryd.underlying33 rfl HP.out.2.1 ?_))
     go_ret
     exact ⟨by rw [HZ.out]; rfl,H4.out.1⟩
    have f3 : (!decide (r.pv = last)) = false:=by rw [decide_eq_true p3]; rfl
    rw [f3] at kq
    obtain ⟨hx1,hx2⟩ : x < top ∧ s < top:=by
     have:=issue_open HS.out.2.2.2 HO.out
     exact ⟨this.2.2.2.2.1,this.2.2.2.2.2.1⟩
    have KW:=veil (fun W => KV.out (L.dg body) x s W hx1 hx2 (L.dgb body))
    unfold dgv gv at KW
    have HQ2:=veil p3
    clear f3 p3 hx1 hx2
    cases hv : L.vf X Y f (L.dg body) x s with
    | false =>
     rw [hv] at KW
     go_upto_region 9 with (first
      | ((with_reducible refine zac 44 ?_); refine wpl_midG rfl 33 _ rfl g9 8 rfl P1 _ HP.out.2.2.1 Tryd.underlying33 rfl HP.out.1 ?_)
      | ((with_reducible refine zac 45 ?_); refine zdh rfl 33 _ rfl g7 rfl 33 P2 (0,0) _ H4.out.2.1 Tryd.underlying33 rfl HP.out.2.1 ?_)
      | ((with_reducible refine zac 49 ?_); refine wpList_load_row rfl 27 _ rfl g5 rfl 27 q (0,0) _ H4.out.2.2.1 Tryd.underlying27 rfl HQ.out.2 ?_)
      | ((with_reducible refine zac 50 ?_); refine wpList_load_row rfl 33 _ rfl g10 rfl 33 (dgc (L.dg body)) (0,0) _ H4.out.2.2.2.2.1 Tryd.underlying33 rfl (iDg _) ?_)
      | ((with_reducible refine zac 51 ?_); refine wpList_load_row rfl 37 _ rfl g11 rfl 37 (gc x s) (0,0) _ H4.out.2.2.2.2.2 Tryd.underlying37 rfl (iSg x s) ?_)
      | (go_at_call 8; refine (KW.out w3).mono ?_; rintro e w4 ⟨rfl,hE4⟩))
     have H5:=veil (And.intro (H4.out.1.trans hE4) (And.intro (hE4.block H4.out.2.1) (And.intro (hE4.block H4.out.2.2.1) (hE4.block H4.out.2.2.2.2.1))))
     clear hE4 H4 kq kg d0 d1 KW
     have HZ:=veil (zei HS.out.1 HS.out.2.2.1 (link_no HO.out fun h => by rw [hv] at h; cases h.2.2.2))
     clear hv
     go_wp2
     go_ret
     exact ⟨by rw [HZ.out]; rfl,H5.out.1⟩
    | true =>
     rw [hv] at KW
     go_upto_region 10 with (first
      | ((with_reducible refine zac 44 ?_); refine wpl_midG rfl 33 _ rfl g9 8 rfl P1 _ HP.out.2.2.1 Tryd.underlying33 rfl HP.out.1 ?_)
      | ((with_reducible refine zac 45 ?_); refine zdh rfl 33 _ rfl g7 rfl 33 P2 (0,0) _ H4.out.2.1 Tryd.underlying33 rfl HP.out.2.1 ?_)
      | ((with_reducible refine zac 49 ?_); refine wpList_load_row rfl 27 _ rfl g5 rfl 27 q (0,0) _ H4.out.2.2.1 Tryd.underlying27 rfl HQ.out.2 ?_)
      | ((with_reducible refine zac 50 ?_); refine wpList_load_row rfl 33 _ rfl g10 rfl 33 (dgc (L.dg body)) (0,0) _ H4.out.2.2.2.2.1 Tryd.underlying33 rfl (iDg _) ?_)
      | ((with_reducible refine zac 51 ?_); refine wpList_load_row rfl 37 _ rfl g11 rfl 37 (gc x s) (0,0) _ H4.out.2.2.2.2.2 Tryd.underlying37 rfl (iSg x s) ?_)
      | (go_at_call 8; refine (KW.out w3).mono ?_; rintro e w4 ⟨rfl,hE4⟩))
     have H5:=veil (And.intro (H4.out.1.trans hE4) (And.intro (hE4.block H4.out.2.1) (And.intro (hE4.block H4.out.2.2.1) (hE4.block H4.out.2.2.2.2.1))))
     clear hE4 H4 kq kg d0 d1 KW
     have hlink:=link_yes (dg:=L.dg) (vf:=fun y r s => L.vf X Y f y r s) (dev:=dv) (i:=k) (last:=last) HO.out ⟨HD.out.1,HD.out.2,HQ2.out,hv⟩
     have HK:=veil (OnR.more HS.out.1 HS.out.2.2.1 hlink)
     clear hv hlink
     go_wp2_with (first
      | ((with_reducible refine zac 55 ?_); refine wpList_load_row rfl 33 _ rfl g10 rfl 33 (dgc (L.dg body)) (0,0) _ H5.out.2.2.2 Tryd.underlying33 rfl (iDg _) ?_)
      | ((with_reducible refine zag ?_); refine wpList_store_row rfl 33 _ _ rfl g7 (dgc (L.dg body)) rfl rfl 33 _ H5.out.2.1 (iDg _) (by rw [HP.out.2.2.2.2.2]; rfl) (zbm fun _ _ => rfl) ?_))
     go_roundw
     case rel =>
      refine ⟨k + 1,_,by omega,by go_num,HK.out,by simp,?_,?_,?_⟩
      ·
       rw [dgP_map]; exact setRow_heap _ _ _ _ _ _ H5.out.2.1
      ·
       exact (zaj _ _ (by omega)).trans H5.out.2.2.1
      ·
       exact zas H5.out.1 hlo _
     case measure => simp [intOf]; omega
  ·
   obtain rfl : k = n:=by omega
   have hd1 : decide ((k : Int) < (k : Int)) = false:=by simp
   have hr:=onR_end hOn (by rw [HN.out]; exact HL.out)
   have HE:=veil (And.intro hr hE)
   clear hr hOn hE
   go_wp2
   go_ret
   exact ⟨by rw [HE.out.1]; rfl,HE.out.2⟩
theorem chainL_low (C : CodeL) : ChainL lowL where
 opens:=fun A m c bs W hm hc hle hK hS => (zfc C A m c bs hm hc hle W hK hS).mono fun _ _ ⟨X,D,G,ev,he,hE,hA⟩ => ⟨X,D,G,ev,he,hE,hA.all⟩
 holds:=C.ver
theorem kt_ext (w w' : World) (h : KT w) (k : Ext w w') : KT w':=kt_now h k
theorem code17 (C : CodeL) : Code17 lowL KT where
 keep:=kt_ext
 body:=fun X r w hF hL => body17_calls X r w hF (Nat.le_trans hL (by decide))
 open_:=fun A m c bs w hK hm hmc hle hS => (zfc C A m c bs hm hmc (Nat.le_trans hle (by decide)) w hK hS).mono fun _ _ ⟨X,D,G,ev,he,hE,hA⟩ => ⟨X,D,G,ev,he,hE,hA.all⟩
 chain:=fun v l dev X Y f w hK hX hY hl hle hT => chain17_of (chainL_low C) v l dev X Y f hX hY (Nat.le_trans hl (by decide)) (fun x hx => Nat.le_trans (hle x hx) (by decide)) w hK hT
theorem fsub2_calls (b X Y M : Nat) (N : Int) (Q Z : Nat) (hX : X < top) (hY : Y < top) (hK : Fok M N Q) (hZ : (X % M + M - Y % M) % M = Z) (w : World) (hF : Fb w b M N Q) :
  Calls Tryd.prog 58 #[.pointer (some ⟨b,0,none⟩),.agg #[vI vU (wd X 0),vI vU (wd X 1),vI vU (wd X 2),vI vU (wd X 3)],.agg #[vI vU (wd Y 0),vI vU (wd Y 1),vI vU (wd Y 2),vI vU (wd Y 3)]] w fun e w' => e = .returned (.agg #[vI vU (wd Z 0),vI vU (wd Z 1),vI vU (wd Z 2),vI vU (wd Z 3)]) ∧ Below w.heap.size w w':=by
 have hM0 : 0 < M:=by have:=hK.m2; omega
 have hX2:=Nat.mod_lt X hM0
 have hY2:=Nat.mod_lt Y hM0
 have K3:=veil (fun W (h : Fb W b M N Q) => zfm b (X % M) (Y % M) M N Q Z hX2 hY2 hK.mt hZ W h)
 have HK:=veil hK
 clear hK hZ hM0 hX2 hY2
 have hA : (((w.alloc (.cells #[vI vU (wd X 0),vI vU (wd X 1),vI vU (wd X 2),vI vU (wd X 3)] 25)).alloc (.cells #[vI vU (wd Y 0),vI vU (wd Y 1),vI vU (wd Y 2),vI vU (wd Y 3)] 25)).alloc (.cells #[vI vU 0,vI vU 0,vI vU 0,vI vU 0] 25)).rowIs w.heap.size 25 4 (fun j => .int .u64 (wd X j)):=((zad (n:=4) (by simp) rfl (arr4 fun j => .int .u64 (wd X j))).alloc _).alloc _
 have hB : (((w.alloc (.cells #[vI vU (wd X 0),vI vU (wd X 1),vI vU (wd X 2),vI vU (wd X 3)] 25)).alloc (.cells #[vI vU (wd Y 0),vI vU (wd Y 1),vI vU (wd Y 2),vI vU (wd Y 3)] 25)).alloc (.cells #[vI vU 0,vI vU 0,vI vU 0,vI vU 0] 25)).rowIs (w.heap.size + 1) 25 4 (fun j => .int .u64 (wd Y j)):=(zad (n:=4) (by simp) rfl (arr4 fun j => .int .u64 (wd Y j))).alloc _
 have hR : (((w.alloc (.cells #[vI vU (wd X 0),vI vU (wd X 1),vI vU (wd X 2),vI vU (wd X 3)] 25)).alloc (.cells #[vI vU (wd Y 0),vI vU (wd Y 1),vI vU (wd Y 2),vI vU (wd Y 3)] 25)).alloc (.cells #[vI vU 0,vI vU 0,vI vU 0,vI vU 0] 25)).rowIs (w.heap.size + 1 + 1) 25 4 (fun _ => .int .u64 0):=zad (n:=4) (by simp) rfl (arr4 fun _ => .int .u64 0)
 have hbel : Below w.heap.size w (((w.alloc (.cells #[vI vU (wd X 0),vI vU (wd X 1),vI vU (wd X 2),vI vU (wd X 3)] 25)).alloc (.cells #[vI vU (wd Y 0),vI vU (wd Y 1),vI vU (wd Y 2),vI vU (wd Y 3)] 25)).alloc (.cells #[vI vU 0,vI vU 0,vI vU 0,vI vU 0] 25)):=(((Below.refl _ _).alloc (by simp) _).alloc (by simp) _).alloc (by simp; omega) _
 have hFr : Fb (((w.alloc (.cells #[vI vU (wd X 0),vI vU (wd X 1),vI vU (wd X 2),vI vU (wd X 3)] 25)).alloc (.cells #[vI vU (wd Y 0),vI vU (wd Y 1),vI vU (wd Y 2),vI vU (wd Y 3)] 25)).alloc (.cells #[vI vU 0,vI vU 0,vI vU 0,vI vU 0] 25)) b M N Q:=(((hF).alloc _).alloc _).alloc _
 have hbs:=hF.lt
 clear hF
 go_enter Tryd.func58,Tryd.ntmps58
 go_wp2_with fail
 generalize (((w.alloc (.cells #[vI vU (wd X 0),vI vU (wd X 1),vI vU (wd X 2),vI vU (wd X 3)] 25)).alloc (.cells #[vI vU (wd Y 0),vI vU (wd Y 1),vI vU (wd Y 2),vI vU (wd Y 3)] 25)).alloc (.cells #[vI vU 0,vI vU 0,vI vU 0,vI vU 0] 25)) = w0 at *
 obtain ⟨a0,a1,a2,a3⟩:=zaf hA
 obtain ⟨b0,b1,b2,b3⟩:=zaf hB
 obtain ⟨f0,f1,f2,f3⟩:=zaw hR
 obtain ⟨d0,d1,d2,d3⟩:=zaf hR
 go_region_with (first
  | (go_at_call 74; refine (fcut_calls b _ M N Q _ (by assumption) HK.out rfl _ (by exact hFr)).mono ?_; rintro e w1 ⟨rfl,hb1⟩; replace hB:=zaa (by exact hB) hb1 (by exact hB.lt); replace hA:=zaa (by exact hA) hb1 (by exact hA.lt); replace hR:=zaa (by exact hR) hb1 (by exact hR.lt); replace hFr:=Fb.below (by exact hFr) hb1 (by exact hFr.lt); replace hbel:=Below.trans (by first | exact hbel | exact hbel.drew) (hb1.mono (by exact hbel.size)); obtain ⟨b0,b1,b2,b3⟩:=zaf hB; obtain ⟨a0,a1,a2,a3⟩:=zaf hA)
  | (go_at_call 43; refine (K3.out _ (by exact hFr)).mono ?_; rintro e w3 ⟨rfl,hb3⟩; replace hR:=zaa (by exact hR) hb3 (by exact hR.lt); replace hFr:=Fb.below (by exact hFr) hb3 (by exact hFr.lt); replace hbel:=Below.trans (by first | exact hbel | exact hbel.drew) (hb3.mono (by exact hbel.size)); obtain ⟨f0,f1,f2,f3⟩:=zaw hR; obtain ⟨d0,d1,d2,d3⟩:=zaf hR))
 all_goals
  clear a0 a1 a2 a3 b0 b1 b2 b3 f0 f1 f2 f3 d0 d1 d2 d3
  go_wp2
  refine bodyPost_ret (results_cell_row rfl _ _ (w.heap.size + 1 + 1) 25 #[vI vU (wd Z 0),vI vU (wd Z 1),vI vU (wd Z 2),vI vU (wd Z 3)] (0,0) _ rfl (blk4 (put4 hR fun j => .int .u64 (wd (Z) j))) Tryd.underlying25 rfl (by kernel_rfl)) rfl ⟨rfl,zap hbel (by omega) _ _ _ _⟩
theorem fmul2_calls (b X Y M : Nat) (N : Int) (Q Z : Nat) (hX : X < top) (hY : Y < top) (hK : Fok M N Q) (hZ : X * Y % M = Z) (w : World) (hF : Fb w b M N Q) :
  Calls Tryd.prog 21 #[.pointer (some ⟨b,0,none⟩),.agg #[vI vU (wd X 0),vI vU (wd X 1),vI vU (wd X 2),vI vU (wd X 3)],.agg #[vI vU (wd Y 0),vI vU (wd Y 1),vI vU (wd Y 2),vI vU (wd Y 3)]] w fun e w' => e = .returned (.agg #[vI vU (wd Z 0),vI vU (wd Z 1),vI vU (wd Z 2),vI vU (wd Z 3)]) ∧ Below w.heap.size w w':=by
 have K1:=veil (fun W => kmul X Y _ rfl hX hY W)
 have K2:=veil (fun W (h : Fb W b M N Q) => cutw_calls b (X * Y) M N Q Z (mul_lt8 hX hY) hK hZ W h)
 clear hX hY hK hZ
 generalize X * Y = P at *
 have hA : (((w.alloc (.cells #[vI vU (wd X 0),vI vU (wd X 1),vI vU (wd X 2),vI vU (wd X 3)] 25)).alloc (.cells #[vI vU (wd Y 0),vI vU (wd Y 1),vI vU (wd Y 2),vI vU (wd Y 3)] 25)).alloc (.cells #[vI vU 0,vI vU 0,vI vU 0,vI vU 0] 25)).rowIs w.heap.size 25 4 (fun j => .int .u64 (wd X j)):=((zad (n:=4) (by simp) rfl (arr4 fun j => .int .u64 (wd X j))).alloc _).alloc _
 have hB : (((w.alloc (.cells #[vI vU (wd X 0),vI vU (wd X 1),vI vU (wd X 2),vI vU (wd X 3)] 25)).alloc (.cells #[vI vU (wd Y 0),vI vU (wd Y 1),vI vU (wd Y 2),vI vU (wd Y 3)] 25)).alloc (.cells #[vI vU 0,vI vU 0,vI vU 0,vI vU 0] 25)).rowIs (w.heap.size + 1) 25 4 (fun j => .int .u64 (wd Y j)):=(zad (n:=4) (by simp) rfl (arr4 fun j => .int .u64 (wd Y j))).alloc _
 have hR : (((w.alloc (.cells #[vI vU (wd X 0),vI vU (wd X 1),vI vU (wd X 2),vI vU (wd X 3)] 25)).alloc (.cells #[vI vU (wd Y 0),vI vU (wd Y 1),vI vU (wd Y 2),vI vU (wd Y 3)] 25)).alloc (.cells #[vI vU 0,vI vU 0,vI vU 0,vI vU 0] 25)).rowIs (w.heap.size + 1 + 1) 25 4 (fun _ => .int .u64 0):=zad (n:=4) (by simp) rfl (arr4 fun _ => .int .u64 0)
 have hbel : Below w.heap.size w (((w.alloc (.cells #[vI vU (wd X 0),vI vU (wd X 1),vI vU (wd X 2),vI vU (wd X 3)] 25)).alloc (.cells #[vI vU (wd Y 0),vI vU (wd Y 1),vI vU (wd Y 2),vI vU (wd Y 3)] 25)).alloc (.cells #[vI vU 0,vI vU 0,vI vU 0,vI vU 0] 25)):=(((Below.refl _ _).alloc (by simp) _).alloc (by simp) _).alloc (by simp; omega) _
 have hFr : Fb (((w.alloc (.cells #[vI vU (wd X 0),vI vU (wd X 1),vI vU (wd X 2),vI vU (wd X 3)] 25)).alloc (.cells #[vI vU (wd Y 0),vI vU (wd Y 1),vI vU (wd Y 2),vI vU (wd Y 3)] 25)).alloc (.cells #[vI vU 0,vI vU 0,vI vU 0,vI vU 0] 25)) b M N Q:=(((hF).alloc _).alloc _).alloc _
 have hbs:=hF.lt
 clear hF
 go_enter Tryd.func21,Tryd.ntmps21
 obtain ⟨a0,a1,a2,a3⟩:=zaf hA
 obtain ⟨b0,b1,b2,b3⟩:=zaf hB
 go_wp2_with fail
 refine (K1.out _).mono ?_
 rintro e w1 ⟨rfl,hb1⟩
 replace hR:=zaa (by exact hR) hb1 (by exact hR.lt)
 replace hFr:=Fb.below (by exact hFr) hb1 (by exact hFr.lt)
 replace hbel:=Below.trans (by first | exact hbel | exact hbel.drew) (hb1.mono (by exact hbel.size))
 clear a0 a1 a2 a3 b0 b1 b2 b3 hA hB hb1
 go_wp2_with fail
 refine (K2.out _ hFr).mono ?_
 rintro e w2 ⟨rfl,hb2⟩
 replace hR:=zaa (by exact hR) hb2 (by exact hR.lt)
 replace hFr:=Fb.below (by exact hFr) hb2 (by exact hFr.lt)
 replace hbel:=Below.trans (by first | exact hbel | exact hbel.drew) (hb2.mono (by exact hbel.size))
 clear hb2 hFr
 obtain ⟨f0,f1,f2,f3⟩:=zaw hR
 obtain ⟨d0,d1,d2,d3⟩:=zaf hR
 go_wp2
 refine bodyPost_ret (results_cell_row rfl _ _ (w.heap.size + 1 + 1) 25 #[vI vU (wd Z 0),vI vU (wd Z 1),vI vU (wd Z 2),vI vU (wd Z 3)] (0,0) _ rfl (blk4 (put4 hR fun j => .int .u64 (wd (Z) j))) Tryd.underlying25 rfl (by kernel_rfl)) rfl ⟨rfl,zap hbel (by omega) _ _ _ _⟩
def Fp (w : World) (b : Nat) : Prop:=∃ N Q,Fok Pt.pp N Q ∧ Fb w b Pt.pp N Q
theorem Fp.ext {w w' : World} {b : Nat} (h : Fp w b) (k : Ext w w') : Fp w' b:=by
 obtain ⟨N,Q,h1,h2⟩:=h
 exact ⟨N,Q,h1,h2.call k⟩
theorem Fp.lt {w : World} {b : Nat} (h : Fp w b) : b < w.heap.size:=by
 obtain ⟨N,Q,h1,h2⟩:=h
 exact h2.lt
abbrev Fe:=Fin Pt.pp
def sc (x y z : Nat) : Array Value:=#[vI vU (wd x 0),vI vU (wd x 1),vI vU (wd x 2),vI vU (wd x 3),vI vU (wd y 0),vI vU (wd y 1),vI vU (wd y 2),vI vU (wd y 3),vI vU (wd z 0),vI vU (wd z 1),vI vU (wd z 2),vI vU (wd z 3)]
def sv (x y z : Nat) : Value:=.agg (sc x y z)
def fv (k b : Nat) : Value:=.func (.func k) #[ptrTo b] #[]
def cc (b : Nat) : Array Value:=#[fv 49 b,fv 58 b,fv 21 b,fv 19 b]
def cv (b : Nat) : Value:=.agg (cc b)
theorem zbw (x : Fe) : x.val < top:=Nat.lt_trans x.isLt zfh
theorem fe_mod (x : Fe) : x.val % Pt.pp = x.val:=Nat.mod_eq_of_lt x.isLt
theorem kadd_p {b : Nat} {x y t : Fe} (ht : t = x + y) {w : World} (hF : Fp w b) : Calls Tryd.prog 49 #[ptrTo b,nv x.val,nv y.val] w fun e w' => e = .returned (nv t.val) ∧ Ext w w':=by
 obtain ⟨N,Q,h1,h2⟩:=hF
 exact fadd2_calls b x.val y.val Pt.pp N Q t.val (zbw x) (zbw y) h1 (by rw [fe_mod,fe_mod,Pt.v_add,ht]) w h2
theorem zbq {b : Nat} {x y t : Fe} (ht : t = x - y) {w : World} (hF : Fp w b) : Calls Tryd.prog 58 #[ptrTo b,nv x.val,nv y.val] w fun e w' => e = .returned (nv t.val) ∧ Ext w w':=by
 obtain ⟨N,Q,h1,h2⟩:=hF
 exact fsub2_calls b x.val y.val Pt.pp N Q t.val (zbw x) (zbw y) h1 (by rw [fe_mod,fe_mod,Pt.v_sub,ht]) w h2
theorem zak {b : Nat} {x y t : Fe} (ht : t = x * y) {w : World} (hF : Fp w b) : Calls Tryd.prog 21 #[ptrTo b,nv x.val,nv y.val] w fun e w' => e = .returned (nv t.val) ∧ Ext w w':=by
 obtain ⟨N,Q,h1,h2⟩:=hF
 exact fmul2_calls b x.val y.val Pt.pp N Q t.val (zbw x) (zbw y) h1 (by rw [Pt.v_mul,ht]) w h2
theorem kinv_p {b : Nat} {x t : Fe} (hx : x ≠ 0) (ht : t = Pt.E256.inv x) {w : World} (hF : Fp w b) : Calls Tryd.prog 19 #[ptrTo b,nv x.val] w fun e w' => e = .returned (.tuple #[nv t.val,.nilIface]) ∧ Ext w w':=by
 obtain ⟨N,Q,h1,h2⟩:=hF
 refine (zfn b x.val Pt.pp N Q (zbw x) h1 w h2).mono ?_
 rintro e w' ⟨⟨y,hy,hi,rfl⟩,hb⟩
 have hg:=Pt.v_gcd hx
 rw [zfk hg,Pt.v_inv hy (hi hg),ht]
 exact ⟨rfl,hb⟩
theorem kinv_z {b : Nat} {w : World} (hF : Fp w b) : Calls Tryd.prog 19 #[ptrTo b,nv 0] w fun e w' => e = .returned (.tuple #[nv 0,.iface 44 (.int .i64 4)]) ∧ Ext w w':=by
 obtain ⟨N,Q,h1,h2⟩:=hF
 refine (zfn b 0 Pt.pp N Q (Nat.two_pow_pos 256) h1 w h2).mono ?_
 rintro e w' ⟨⟨y,hy,hi,rfl⟩,hb⟩
 have hg : ¬ Nat.gcd 0 Pt.pp = 1:=by rw [Nat.gcd_zero_left]; decide +kernel
 rw [invRet_no hg]
 exact ⟨rfl,hb⟩
/-! ### operations -/
section
variable {P : Program} {o : Oper} {a : Act} {w : World}
end
section
variable (g : Nat) (W : World)
end
theorem zbk {b : Nat} {x t : Fe} (ht : t = x + x) {w : World} (hF : Fp w b) :
  Calls Tryd.prog 80 #[cv b,nv x.val] w fun e w' => e = .returned (nv t.val) ∧ Ext w w':=by
 have kt:=veil ht
 clear ht
 exact way1 Tryd.func80 [cv b,nv x.val] (.call _ _ _ (fun W hW => kadd_p kt.out (hF.ext hW)) <|
  .ret _ fun _ h => ⟨rfl,h⟩) (by kernel_rfl)
theorem trp_calls {b : Nat} {x t : Fe} (ht : t = x + x + x) {w : World} (hF : Fp w b) :
  Calls Tryd.prog 60 #[cv b,nv x.val] w fun e w' => e = .returned (nv t.val) ∧ Ext w w':=by
 obtain ⟨y,hy⟩ : ∃ t : Fe,t = x + x:=⟨_,rfl⟩
 rw [← hy] at ht
 have ky:=veil hy
 clear hy
 have kt:=veil ht
 clear ht
 exact way1 Tryd.func60 [cv b,nv x.val] (.call _ _ _ (fun W hW => zbk ky.out (hF.ext hW)) <|
  .call _ _ _ (fun W hW => kadd_p kt.out (hF.ext hW)) <|
  .ret _ fun _ h => ⟨rfl,h⟩) (by kernel_rfl)
def twice3 (x y z : Fe) : Fe × Fe × Fe :=
 let zz : Fe:=z * z
 let yy : Fe:=y * y
 let s : Fe:=x - zz
 let u : Fe:=x + zz
 let su : Fe:=s * u
 let m : Fe:=su + su + su
 let q : Fe:=x * yy
 let q2 : Fe:=q + q
 let cr : Fe:=q2 + q2
 let mm : Fe:=m * m
 let c2 : Fe:=cr + cr
 let X : Fe:=mm - c2
 let e : Fe:=yy * yy
 let e2 : Fe:=e + e
 let e4 : Fe:=e2 + e2
 let tl : Fe:=e4 + e4
 let d : Fe:=cr - X
 let md : Fe:=m * d
 let Y : Fe:=md - tl
 let yz : Fe:=y * z
 let Z : Fe:=yz + yz
 (X,Y,Z)
theorem twice_calls {b : Nat} (x y z : Fe) {w : World} (hF : Fp w b) :
  Calls Tryd.prog 69 #[cv b,sv x.val y.val z.val] w fun e w' => e = .returned (sv (twice3 x y z).1.val (twice3 x y z).2.1.val (twice3 x y z).2.2.val) ∧ Ext w w':=by
 obtain ⟨zz,hzz⟩ : ∃ t : Fe,t = z * z:=⟨_,rfl⟩
 obtain ⟨yy,hyy⟩ : ∃ t : Fe,t = y * y:=⟨_,rfl⟩
 obtain ⟨s,hs⟩ : ∃ t : Fe,t = x - zz:=⟨_,rfl⟩
 obtain ⟨u,hu⟩ : ∃ t : Fe,t = x + zz:=⟨_,rfl⟩
 obtain ⟨su,hsu⟩ : ∃ t : Fe,t = s * u:=⟨_,rfl⟩
 obtain ⟨m,hm⟩ : ∃ t : Fe,t = su + su + su:=⟨_,rfl⟩
 obtain ⟨q,hq⟩ : ∃ t : Fe,t = x * yy:=⟨_,rfl⟩
 obtain ⟨q2,hq2⟩ : ∃ t : Fe,t = q + q:=⟨_,rfl⟩
 obtain ⟨cr,hcr⟩ : ∃ t : Fe,t = q2 + q2:=⟨_,rfl⟩
 obtain ⟨mm,hmm⟩ : ∃ t : Fe,t = m * m:=⟨_,rfl⟩
 obtain ⟨c2,hc2⟩ : ∃ t : Fe,t = cr + cr:=⟨_,rfl⟩
 obtain ⟨X,hX⟩ : ∃ t : Fe,t = mm - c2:=⟨_,rfl⟩
 obtain ⟨e,he⟩ : ∃ t : Fe,t = yy * yy:=⟨_,rfl⟩
 obtain ⟨e2,he2⟩ : ∃ t : Fe,t = e + e:=⟨_,rfl⟩
 obtain ⟨e4,he4⟩ : ∃ t : Fe,t = e2 + e2:=⟨_,rfl⟩
 obtain ⟨tl,htl⟩ : ∃ t : Fe,t = e4 + e4:=⟨_,rfl⟩
 obtain ⟨d,hd⟩ : ∃ t : Fe,t = cr - X:=⟨_,rfl⟩
 obtain ⟨md,hmd⟩ : ∃ t : Fe,t = m * d:=⟨_,rfl⟩
 obtain ⟨Y,hY⟩ : ∃ t : Fe,t = md - tl:=⟨_,rfl⟩
 obtain ⟨yz,hyz⟩ : ∃ t : Fe,t = y * z:=⟨_,rfl⟩
 obtain ⟨Z,hZ⟩ : ∃ t : Fe,t = yz + yz:=⟨_,rfl⟩
 have hfin : twice3 x y z = (X,Y,Z):=by
  subst hZ hyz hY hmd hd htl he4 he2 he hX hc2 hmm hcr hq2 hq hm hsu hu hs hyy hzz
  rfl
 rw [hfin]
 clear hfin
 have kzz:=veil hzz
 have kyy:=veil hyy
 have ks:=veil hs
 have ku:=veil hu
 have ksu:=veil hsu
 have km:=veil hm
 have kq:=veil hq
 have kq2:=veil hq2
 have kcr:=veil hcr
 have kmm:=veil hmm
 have kc2:=veil hc2
 have kX:=veil hX
 have ke:=veil he
 have ke2:=veil he2
 have ke4:=veil he4
 have ktl:=veil htl
 have kd:=veil hd
 have kmd:=veil hmd
 have kY:=veil hY
 have kyz:=veil hyz
 have kZ:=veil hZ
 clear hZ hyz hY hmd hd htl he4 he2 he hX hc2 hmm hcr hq2 hq hm hsu hu hs hyy hzz
 show Calls Tryd.prog 69 #[cv b,sv x.val y.val z.val] w fun e w' => e = .returned (sv X.val Y.val Z.val) ∧ Ext w w'
 exact way1 Tryd.func69 [cv b,sv x.val y.val z.val] (.call _ _ _ (fun W hW => zak kzz.out (hF.ext hW)) <|
  .call _ _ _ (fun W hW => zak kyy.out (hF.ext hW)) <|
  .call _ _ _ (fun W hW => zbq ks.out (hF.ext hW)) <|
  .call _ _ _ (fun W hW => kadd_p ku.out (hF.ext hW)) <|
  .call _ _ _ (fun W hW => zak ksu.out (hF.ext hW)) <|
  .call _ _ _ (fun W hW => trp_calls km.out (hF.ext hW)) <|
  .call _ _ _ (fun W hW => zak kq.out (hF.ext hW)) <|
  .call _ _ _ (fun W hW => zbk kq2.out (hF.ext hW)) <|
  .call _ _ _ (fun W hW => zbk kcr.out (hF.ext hW)) <|
  .call _ _ _ (fun W hW => zak kmm.out (hF.ext hW)) <|
  .call _ _ _ (fun W hW => zbk kc2.out (hF.ext hW)) <|
  .call _ _ _ (fun W hW => zbq kX.out (hF.ext hW)) <|
  .call _ _ _ (fun W hW => zak ke.out (hF.ext hW)) <|
  .call _ _ _ (fun W hW => zbk ke2.out (hF.ext hW)) <|
  .call _ _ _ (fun W hW => zbk ke4.out (hF.ext hW)) <|
  .call _ _ _ (fun W hW => zbk ktl.out (hF.ext hW)) <|
  .call _ _ _ (fun W hW => zbq kd.out (hF.ext hW)) <|
  .call _ _ _ (fun W hW => zak kmd.out (hF.ext hW)) <|
  .call _ _ _ (fun W hW => zbq kY.out (hF.ext hW)) <|
  .call _ _ _ (fun W hW => zak kyz.out (hF.ext hW)) <|
  .call _ _ _ (fun W hW => zbk kZ.out (hF.ext hW)) <|
  .ret _ fun _ h => ⟨rfl,h⟩) (by kernel_rfl)
theorem pP_calls (w : World) : Calls Tryd.prog 57 #[] w fun e w' => e = .returned (.agg #[vI vU (wd (Pt.pp) 0),vI vU (wd (Pt.pp) 1),vI vU (wd (Pt.pp) 2),vI vU (wd (Pt.pp) 3)]) ∧ Below w.heap.size w w' :=
 way1 Tryd.func57 [] (.ret _ fun _ h => ⟨rfl,h⟩) (by kernel_rfl)
theorem bb_calls (w : World) : Calls Tryd.prog 61 #[] w fun e w' => e = .returned (.agg #[vI vU (wd (Pt.bb) 0),vI vU (wd (Pt.bb) 1),vI vU (wd (Pt.bb) 2),vI vU (wd (Pt.bb) 3)]) ∧ Below w.heap.size w w' :=
 way1 Tryd.func61 [] (.ret _ fun _ h => ⟨rfl,h⟩) (by kernel_rfl)
theorem isz_calls (X : Nat) (hX : X < top) (w : World) :
  Calls Tryd.prog 59 #[nv X] w fun e w' => e = .returned (.bool (decide (X = 0))) ∧ Ext w w':=by
 have k:=veil fun W => eql_zero hX W
 clear hX
 exact way1 Tryd.func59 [nv X] (.ins 5 (binK .eql 25 (.tmp 3) (.tmp 4) (nv X) (nv 0)) (.bool (decide (X = 0))) (fun W _ => zcj (gN _ _ _ _ _ W) (k.out W)) <| .ret _ fun _ h => ⟨rfl,h⟩) (by kernel_rfl)
theorem isz_no {X : Nat} (h : X ≠ 0) (hX : X < top) (w : World) : Calls Tryd.prog 59 #[nv X] w fun e w' => e = .returned (.bool false) ∧ Ext w w':=by
 have k:=isz_calls X hX w
 rwa [decide_eq_false h] at k
theorem zgc {X : Nat} (h : X = 0) (w : World) : Calls Tryd.prog 59 #[nv X] w fun e w' => e = .returned (.bool true) ∧ Ext w w':=by
 have k:=isz_calls X (by rw [h]; exact Nat.two_pow_pos 256) w
 rwa [decide_eq_true h] at k
section
variable {P : Program} {o : Oper} {a : Act} {w : World}
end
theorem cmp_in {X : Nat} (h : X < Pt.pp) (w : World) : Calls Tryd.prog 36 #[nv X,nv Pt.pp] w fun e w' => e = .returned (.int .i64 (-1)) ∧ Ext w w' :=
 kcmp X Pt.pp (-1) (by unfold cmpN; rw [if_pos h]) (Nat.lt_trans h zfh) zfh w
theorem cmp_no {X : Nat} (hX : X < top) (w : World) : Calls Tryd.prog 36 #[nv X,nv Pt.pp] w fun e w' => e = .returned (.int .i64 (cmpN X Pt.pp)) ∧ Ext w w' :=
 kcmp X Pt.pp _ rfl hX zfh w
theorem cmp_no_ge {X : Nat} (h : ¬ X < Pt.pp) : decide (0 ≤ cmpN X Pt.pp) = true:=by
 have:=cmp_ge X Pt.pp
 simp only [this,h,not_false_eq_true,decide_true]
theorem pP_is (w : World) : Calls Tryd.prog 57 #[] w fun e w' => e = .returned (nv Pt.pp) ∧ Ext w w':=pP_calls w
theorem bb_is (w : World) : Calls Tryd.prog 61 #[] w fun e w' => e = .returned (nv (Pt.F Pt.bb : Fe).val) ∧ Ext w w':=by
 have h : (Pt.F Pt.bb : Fe).val = Pt.bb:=Nat.mod_eq_of_lt bb_lt
 rw [h]
 exact bb_calls w
theorem Fp.cells {W : World} {b g o : Nat} {vs : List Value} (h : Fp W b) (hne : ¬ g = b) : Fp (W.setCells g o vs) b:=by
 obtain ⟨N,Q,h1,h2⟩:=h
 exact ⟨N,Q,h1,h2.of_block (zey (fun e => hne e.symm) vs o W)⟩
theorem curve_new (w : World) : Calls Tryd.prog 33 #[] w fun e w' => ∃ b,e = .returned (cv b) ∧ Ext w w' ∧ Fp w' b ∧ w.heap.size ≤ b:=by
 have hp : Pt.pp % 2 = 1:=by decide +kernel
 have hp2 : 2 < Pt.pp:=by decide +kernel
 refine (way0 (Post:=fun v W => ∃ b,v = cv b ∧ Ext w W ∧ Fp W b ∧ w.heap.size ≤ b) Tryd.func33 [] (.call _ _ _ (fun W _ => pP_calls W) <|
  .hang 38 #[nv Pt.pp] (α:=Nat) (fun b => .tuple #[ptrTo b,.nilIface]) (fun b W => Fp W b ∧ w.heap.size ≤ b) (fun b g => g = b) (fun _ _ _ h k => ⟨h.1.ext k,h.2⟩) (fun _ _ _ _ _ h hn => ⟨h.1.cells hn,h.2⟩)
   (fun W hW => (new_good Pt.pp hp hp2 zfh W).mono fun e w' ⟨⟨b,N,Q,h1,h2,h3,h4⟩,h5⟩ => ⟨b,h4,h5,⟨⟨N,Q,h1,h2⟩,Nat.le_trans (Below.size hW) h3⟩,fun g hg => by subst hg; exact ⟨.inl h3,h2.lt⟩⟩)
   fun b => .ret (cv b) fun _ h => ⟨b,rfl,h.1,h.2⟩) (by kernel_rfl)).mono fun e w' ⟨v,he,b,hv,h⟩ => ⟨b,by rw [he,hv],h⟩
theorem curve_calls (w : World) : Calls Tryd.prog 33 #[] w fun e w' => ∃ b,e = .returned (cv b) ∧ Fp w' b ∧ Ext w w' :=
 (curve_new w).mono fun _ _ ⟨b,he,hE,hF,_⟩ => ⟨b,he,hF,hE⟩
def hCurve {w0 : World} {Post : Value → World → Prop} {J : World → Prop} (r : ∀ b,OT Tryd.prog w0 Post (fun W => J W ∧ Fp W b)) : OT Tryd.prog w0 Post J :=
 .hang 33 #[] cv (fun b W => Fp W b) (fun b g => g = b) (fun _ _ _ h k => h.ext k) (fun _ _ _ _ _ h hn => h.cells hn)
  (fun W _ => (curve_new W).mono fun _ _ ⟨b,he,hE,hF,hb⟩ => ⟨b,he,hE,hF,fun g hg => by subst hg; exact ⟨.inl hb,hF.lt⟩⟩) r
theorem lift_far (x y : Nat) (w : World) :
  Calls Tryd.prog 67 #[qv x y true] w fun e w' => e = .returned (sv 0 0 0) ∧ Ext w w':=by
 exact way1 Tryd.func67 [qv x y true] (.ret _ fun _ h => ⟨rfl,h⟩) (by kernel_rfl)
theorem lift_near (x y : Nat) (w : World) :
  Calls Tryd.prog 67 #[qv x y false] w fun e w' => e = .returned (sv x y 1) ∧ Ext w w':=by
 exact way1 Tryd.func67 [qv x y false] (.ret _ fun _ h => ⟨rfl,h⟩) (by kernel_rfl)
theorem base_calls (w : World) :
  Calls Tryd.prog 45 #[] w fun e w' => e = .returned (qv Pt.gx Pt.gy false) ∧ Ext w w':=by
 exact way1 Tryd.func45 [] (.ret _ fun _ h => ⟨rfl,h⟩) (by kernel_rfl)
theorem plus_far {b : Nat} (x y z X Y : Nat) {w : World} (_hF : Fp w b) :
  Calls Tryd.prog 70 #[cv b,sv x y z,qv X Y true] w fun e w' => e = .returned (sv x y z) ∧ Ext w w':=by
 exact way1 Tryd.func70 [cv b,sv x y z,qv X Y true] (.ret _ fun _ h => ⟨rfl,h⟩) (by kernel_rfl)
theorem plus_lift {b : Nat} (x y X Y : Nat) {w : World} (_hF : Fp w b) :
  Calls Tryd.prog 70 #[cv b,sv x y 0,qv X Y false] w fun e w' => e = .returned (sv X Y 1) ∧ Ext w w':=by
 exact way1 Tryd.func70 [cv b,sv x y 0,qv X Y false] (.call _ _ _ (fun W _ => zgc rfl W) <|
  .call _ _ _ (fun W _ => lift_near X Y W) <|
  .ret _ fun _ h => ⟨rfl,h⟩) (by kernel_rfl)
def runOf (x z X : Fe) : Fe:=X * (z * z) - x
def riseOf (y z Y : Fe) : Fe:=Y * (z * z * z) - y
def plus3 (x y z X Y : Fe) : Fe × Fe × Fe :=
 let zz : Fe:=z * z
 let u : Fe:=X * zz
 let run : Fe:=u - x
 let zzz : Fe:=zz * z
 let v : Fe:=Y * zzz
 let rise : Fe:=v - y
 let sq : Fe:=run * run
 let cube : Fe:=sq * run
 let cross : Fe:=x * sq
 let rr : Fe:=rise * rise
 let r1 : Fe:=rr - cube
 let c2 : Fe:=cross + cross
 let x3 : Fe:=r1 - c2
 let d : Fe:=cross - x3
 let rd : Fe:=rise * d
 let yc : Fe:=y * cube
 let y3 : Fe:=rd - yc
 let z3 : Fe:=z * run
 (x3,y3,z3)
theorem plus_same {b : Nat} (x y z X Y : Fe) (hz : z.val ≠ 0) (hr : (runOf x z X).val = 0) (hs : (riseOf y z Y).val = 0) {w : World} (hF : Fp w b) :
  Calls Tryd.prog 70 #[cv b,sv x.val y.val z.val,qv X.val Y.val false] w fun e w' => e = .returned (sv (twice3 x y z).1.val (twice3 x y z).2.1.val (twice3 x y z).2.2.val) ∧ Ext w w':=by
 obtain ⟨zz,hzz⟩ : ∃ t : Fe,t = z * z:=⟨_,rfl⟩
 obtain ⟨u,hu⟩ : ∃ t : Fe,t = X * zz:=⟨_,rfl⟩
 obtain ⟨run,hrun⟩ : ∃ t : Fe,t = u - x:=⟨_,rfl⟩
 obtain ⟨zzz,hzzz⟩ : ∃ t : Fe,t = zz * z:=⟨_,rfl⟩
 obtain ⟨v,hv⟩ : ∃ t : Fe,t = Y * zzz:=⟨_,rfl⟩
 obtain ⟨rise,hrise⟩ : ∃ t : Fe,t = v - y:=⟨_,rfl⟩
 have h1 : runOf x z X = run:=by subst hrun hu hzz; rfl
 have h2 : riseOf y z Y = rise:=by subst hrise hv hzzz hzz; rfl
 rw [h1] at hr
 rw [h2] at hs
 clear h1 h2
 have kzz:=veil hzz
 have ku:=veil hu
 have krun:=veil hrun
 have kzzz:=veil hzzz
 have kv:=veil hv
 have krise:=veil hrise
 clear hrise hv hzzz hrun hu hzz
 have kz0:=veil hz
 have kr:=veil hr
 have ks:=veil hs
 clear hz hr hs
 obtain ⟨X3,Y3,Z3,h3⟩ : ∃ X3 Y3 Z3,twice3 x y z = (X3,Y3,Z3):=⟨_,_,_,rfl⟩
 have KT:=veil (fun W (hF : Fp W b) => twice_calls x y z hF)
 rw [h3] at KT ⊢
 clear h3
 show Calls Tryd.prog 70 #[cv b,sv x.val y.val z.val,qv X.val Y.val false] w fun e w' => e = .returned (sv X3.val Y3.val Z3.val) ∧ Ext w w'
 exact way1 Tryd.func70 [cv b,sv x.val y.val z.val,qv X.val Y.val false] (.call _ _ _ (fun W _ => isz_no kz0.out (zbw _) W) <|
  .call _ _ _ (fun W hW => zak kzz.out (hF.ext hW)) <|
  .call _ _ _ (fun W hW => zak ku.out (hF.ext hW)) <|
  .call _ _ _ (fun W hW => zbq krun.out (hF.ext hW)) <|
  .call _ _ _ (fun W hW => zak kzzz.out (hF.ext hW)) <|
  .call _ _ _ (fun W hW => zak kv.out (hF.ext hW)) <|
  .call _ _ _ (fun W hW => zbq krise.out (hF.ext hW)) <|
  .call _ _ _ (fun W _ => zgc kr.out W) <|
  .call _ _ _ (fun W _ => zgc ks.out W) <|
  .call _ _ _ (fun W hW => KT.out W (hF.ext hW)) <|
  .ret _ fun _ h => ⟨rfl,h⟩) (by kernel_rfl)
theorem plus_opp {b : Nat} (x y z X Y : Fe) (hz : z.val ≠ 0) (hr : (runOf x z X).val = 0) (hs : (riseOf y z Y).val ≠ 0) {w : World} (hF : Fp w b) :
  Calls Tryd.prog 70 #[cv b,sv x.val y.val z.val,qv X.val Y.val false] w fun e w' => e = .returned (sv 0 0 0) ∧ Ext w w':=by
 obtain ⟨zz,hzz⟩ : ∃ t : Fe,t = z * z:=⟨_,rfl⟩
 obtain ⟨u,hu⟩ : ∃ t : Fe,t = X * zz:=⟨_,rfl⟩
 obtain ⟨run,hrun⟩ : ∃ t : Fe,t = u - x:=⟨_,rfl⟩
 obtain ⟨zzz,hzzz⟩ : ∃ t : Fe,t = zz * z:=⟨_,rfl⟩
 obtain ⟨v,hv⟩ : ∃ t : Fe,t = Y * zzz:=⟨_,rfl⟩
 obtain ⟨rise,hrise⟩ : ∃ t : Fe,t = v - y:=⟨_,rfl⟩
 have h1 : runOf x z X = run:=by subst hrun hu hzz; rfl
 have h2 : riseOf y z Y = rise:=by subst hrise hv hzzz hzz; rfl
 rw [h1] at hr
 rw [h2] at hs
 clear h1 h2
 have kzz:=veil hzz
 have ku:=veil hu
 have krun:=veil hrun
 have kzzz:=veil hzzz
 have kv:=veil hv
 have krise:=veil hrise
 clear hrise hv hzzz hrun hu hzz
 have kz0:=veil hz
 have kr:=veil hr
 have ks:=veil hs
 clear hz hr hs
 exact way1 Tryd.func70 [cv b,sv x.val y.val z.val,qv X.val Y.val false] (.call _ _ _ (fun W _ => isz_no kz0.out (zbw _) W) <|
  .call _ _ _ (fun W hW => zak kzz.out (hF.ext hW)) <|
  .call _ _ _ (fun W hW => zak ku.out (hF.ext hW)) <|
  .call _ _ _ (fun W hW => zbq krun.out (hF.ext hW)) <|
  .call _ _ _ (fun W hW => zak kzzz.out (hF.ext hW)) <|
  .call _ _ _ (fun W hW => zak kv.out (hF.ext hW)) <|
  .call _ _ _ (fun W hW => zbq krise.out (hF.ext hW)) <|
  .call _ _ _ (fun W _ => zgc kr.out W) <|
  .call _ _ _ (fun W _ => isz_no ks.out (zbw _) W) <|
  .ret _ fun _ h => ⟨rfl,h⟩) (by kernel_rfl)
theorem plus_else {b : Nat} (x y z X Y : Fe) (hz : z.val ≠ 0) (hr : (runOf x z X).val ≠ 0) {w : World} (hF : Fp w b) :
  Calls Tryd.prog 70 #[cv b,sv x.val y.val z.val,qv X.val Y.val false] w fun e w' => e = .returned (sv (plus3 x y z X Y).1.val (plus3 x y z X Y).2.1.val (plus3 x y z X Y).2.2.val) ∧ Ext w w':=by
 obtain ⟨zz,hzz⟩ : ∃ t : Fe,t = z * z:=⟨_,rfl⟩
 obtain ⟨u,hu⟩ : ∃ t : Fe,t = X * zz:=⟨_,rfl⟩
 obtain ⟨run,hrun⟩ : ∃ t : Fe,t = u - x:=⟨_,rfl⟩
 obtain ⟨zzz,hzzz⟩ : ∃ t : Fe,t = zz * z:=⟨_,rfl⟩
 obtain ⟨v,hv⟩ : ∃ t : Fe,t = Y * zzz:=⟨_,rfl⟩
 obtain ⟨rise,hrise⟩ : ∃ t : Fe,t = v - y:=⟨_,rfl⟩
 obtain ⟨sq,hsq⟩ : ∃ t : Fe,t = run * run:=⟨_,rfl⟩
 obtain ⟨cube,hcube⟩ : ∃ t : Fe,t = sq * run:=⟨_,rfl⟩
 obtain ⟨cross,hcross⟩ : ∃ t : Fe,t = x * sq:=⟨_,rfl⟩
 obtain ⟨rr,hrr⟩ : ∃ t : Fe,t = rise * rise:=⟨_,rfl⟩
 obtain ⟨r1,hr1⟩ : ∃ t : Fe,t = rr - cube:=⟨_,rfl⟩
 obtain ⟨c2,hc2⟩ : ∃ t : Fe,t = cross + cross:=⟨_,rfl⟩
 obtain ⟨x3,hx3⟩ : ∃ t : Fe,t = r1 - c2:=⟨_,rfl⟩
 obtain ⟨d,hd⟩ : ∃ t : Fe,t = cross - x3:=⟨_,rfl⟩
 obtain ⟨rd,hrd⟩ : ∃ t : Fe,t = rise * d:=⟨_,rfl⟩
 obtain ⟨yc,hyc⟩ : ∃ t : Fe,t = y * cube:=⟨_,rfl⟩
 obtain ⟨y3,hy3⟩ : ∃ t : Fe,t = rd - yc:=⟨_,rfl⟩
 obtain ⟨z3,hz3⟩ : ∃ t : Fe,t = z * run:=⟨_,rfl⟩
 have h1 : runOf x z X = run:=by subst hrun hu hzz; rfl
 rw [h1] at hr
 clear h1
 have hfin : plus3 x y z X Y = (x3,y3,z3):=by
  subst hz3 hy3 hyc hrd hd hx3 hc2 hr1 hrr hcross hcube hsq hrise hv hzzz hrun hu hzz
  rfl
 rw [hfin]
 clear hfin
 have kzz:=veil hzz
 have ku:=veil hu
 have krun:=veil hrun
 have kzzz:=veil hzzz
 have kv:=veil hv
 have krise:=veil hrise
 have ksq:=veil hsq
 have kcube:=veil hcube
 have kcross:=veil hcross
 have krr:=veil hrr
 have kr1:=veil hr1
 have kc2:=veil hc2
 have kx3:=veil hx3
 have kd:=veil hd
 have krd:=veil hrd
 have kyc:=veil hyc
 have ky3:=veil hy3
 have kz3:=veil hz3
 clear hz3 hy3 hyc hrd hd hx3 hc2 hr1 hrr hcross hcube hsq hrise hv hzzz hrun hu hzz
 have kz0:=veil hz
 have kr:=veil hr
 clear hz hr
 show Calls Tryd.prog 70 #[cv b,sv x.val y.val z.val,qv X.val Y.val false] w fun e w' => e = .returned (sv x3.val y3.val z3.val) ∧ Ext w w'
 exact way1 Tryd.func70 [cv b,sv x.val y.val z.val,qv X.val Y.val false] (.call _ _ _ (fun W _ => isz_no kz0.out (zbw _) W) <|
  .call _ _ _ (fun W hW => zak kzz.out (hF.ext hW)) <|
  .call _ _ _ (fun W hW => zak ku.out (hF.ext hW)) <|
  .call _ _ _ (fun W hW => zbq krun.out (hF.ext hW)) <|
  .call _ _ _ (fun W hW => zak kzzz.out (hF.ext hW)) <|
  .call _ _ _ (fun W hW => zak kv.out (hF.ext hW)) <|
  .call _ _ _ (fun W hW => zbq krise.out (hF.ext hW)) <|
  .call _ _ _ (fun W _ => isz_no kr.out (zbw _) W) <|
  .call _ _ _ (fun W hW => zak ksq.out (hF.ext hW)) <|
  .call _ _ _ (fun W hW => zak kcube.out (hF.ext hW)) <|
  .call _ _ _ (fun W hW => zak kcross.out (hF.ext hW)) <|
  .call _ _ _ (fun W hW => zak krr.out (hF.ext hW)) <|
  .call _ _ _ (fun W hW => zbq kr1.out (hF.ext hW)) <|
  .call _ _ _ (fun W hW => zbk kc2.out (hF.ext hW)) <|
  .call _ _ _ (fun W hW => zbq kx3.out (hF.ext hW)) <|
  .call _ _ _ (fun W hW => zbq kd.out (hF.ext hW)) <|
  .call _ _ _ (fun W hW => zak krd.out (hF.ext hW)) <|
  .call _ _ _ (fun W hW => zak kyc.out (hF.ext hW)) <|
  .call _ _ _ (fun W hW => zbq ky3.out (hF.ext hW)) <|
  .call _ _ _ (fun W hW => zak kz3.out (hF.ext hW)) <|
  .ret _ fun _ h => ⟨rfl,h⟩) (by kernel_rfl)
theorem flat_far {b : Nat} (x y : Nat) {w : World} (hF : Fp w b) :
  Calls Tryd.prog 71 #[cv b,sv x y 0] w fun e w' => e = .returned (qv 0 0 true) ∧ Ext w w':=by
 exact way1 Tryd.func71 [cv b,sv x y 0] (.call _ _ _ (fun W hW => kinv_z (hF.ext hW)) <|
  .ret _ fun _ h => ⟨rfl,h⟩) (by kernel_rfl)
def flat2 (x y z : Fe) : Fe × Fe:=(x * (Pt.E256.inv z * Pt.E256.inv z),y * (Pt.E256.inv z * Pt.E256.inv z * Pt.E256.inv z))
theorem flat_near {b : Nat} (x y z : Fe) (hz : z ≠ 0) {w : World} (hF : Fp w b) :
  Calls Tryd.prog 71 #[cv b,sv x.val y.val z.val] w fun e w' => e = .returned (qv (flat2 x y z).1.val (flat2 x y z).2.val false) ∧ Ext w w':=by
 obtain ⟨iv,hiv⟩ : ∃ t : Fe,t = Pt.E256.inv z:=⟨_,rfl⟩
 obtain ⟨sq,hsq⟩ : ∃ t : Fe,t = iv * iv:=⟨_,rfl⟩
 obtain ⟨X,hX⟩ : ∃ t : Fe,t = x * sq:=⟨_,rfl⟩
 obtain ⟨cb,hcb⟩ : ∃ t : Fe,t = sq * iv:=⟨_,rfl⟩
 obtain ⟨Y,hY⟩ : ∃ t : Fe,t = y * cb:=⟨_,rfl⟩
 have hfin : flat2 x y z = (X,Y):=by
  unfold flat2
  rw [hY,hcb,hX,hsq,hiv]
 rw [hfin]
 clear hfin
 have kiv:=veil hiv
 have ksq:=veil hsq
 have kX:=veil hX
 have kcb:=veil hcb
 have kY:=veil hY
 clear hY hcb hX hsq hiv
 have kz0:=veil hz
 clear hz
 show Calls Tryd.prog 71 #[cv b,sv x.val y.val z.val] w fun e w' => e = .returned (qv X.val Y.val false) ∧ Ext w w'
 exact way1 Tryd.func71 [cv b,sv x.val y.val z.val] (.call _ _ _ (fun W hW => kinv_p kz0.out kiv.out (hF.ext hW)) <|
  .call _ _ _ (fun W hW => zak ksq.out (hF.ext hW)) <|
  .call _ _ _ (fun W hW => zak kX.out (hF.ext hW)) <|
  .call _ _ _ (fun W hW => zak kcb.out (hF.ext hW)) <|
  .call _ _ _ (fun W hW => zak kY.out (hF.ext hW)) <|
  .ret _ fun _ h => ⟨rfl,h⟩) (by kernel_rfl)
theorem on_far0 {b : Nat} (Y : Nat) (hY : Y < top) {w : World} (_hF : Fp w b) :
  Calls Tryd.prog 34 #[cv b,qv 0 Y true] w fun e w' => e = .returned (.bool (decide (Y = 0))) ∧ Ext w w':=by
 have kY:=veil hY
 clear hY
 obtain ⟨q,hq⟩ : ∃ q,q = decide (Y = 0):=⟨_,rfl⟩
 rw [← hq]
 have kq:=veil hq
 clear hq
 exact way1 Tryd.func34 [cv b,qv 0 Y true] (.call _ _ _ (fun W _ => zgc rfl W) <|
  .call 59 #[nv Y] (.bool q) (fun W _ => by rw [kq.out]; exact isz_calls Y kY.out W) <|
  .ret _ fun _ h => ⟨rfl,h⟩) (by kernel_rfl)
theorem on_far1 {b : Nat} (X Y : Nat) (hX : X < top) (h0 : X ≠ 0) {w : World} (_hF : Fp w b) :
  Calls Tryd.prog 34 #[cv b,qv X Y true] w fun e w' => e = .returned (.bool false) ∧ Ext w w':=by
 have kX:=veil hX
 have k0:=veil h0
 clear hX h0
 exact way1 Tryd.func34 [cv b,qv X Y true] (.call _ _ _ (fun W _ => isz_no k0.out kX.out W) <|
  .ret _ fun _ h => ⟨rfl,h⟩) (by kernel_rfl)
theorem on_out {b : Nat} (X Y : Nat) (hX : X < top) (h0 : ¬ X < Pt.pp) {w : World} (_hF : Fp w b) :
  Calls Tryd.prog 34 #[cv b,qv X Y false] w fun e w' => e = .returned (.bool false) ∧ Ext w w':=by
 have kX:=veil hX
 have k0:=veil h0
 clear hX h0
 exact way1 Tryd.func34 [cv b,qv X Y false] (.call _ _ _ (fun W _ => pP_is W) <|
  .call _ _ _ (fun W _ => cmp_no kX.out W) <|
  .ins 20 (binK .geq 3 (.tmp 19) (.const (.int .i64 0)) (.int .i64 (cmpN X Pt.pp)) (.int .i64 0)) _ (fun W _ => zgf (cmp_no_ge k0.out) W) <|
  .ret _ fun _ h => ⟨rfl,h⟩) (by kernel_rfl)
theorem on_high {b : Nat} (X Y : Nat) (hX : X < Pt.pp) (hY : Y < top) (h0 : ¬ Y < Pt.pp) {w : World} (_hF : Fp w b) :
  Calls Tryd.prog 34 #[cv b,qv X Y false] w fun e w' => e = .returned (.bool false) ∧ Ext w w':=by
 have kX:=veil hX
 have kY:=veil hY
 have k0:=veil h0
 clear hX hY h0
 exact way1 Tryd.func34 [cv b,qv X Y false] (.call _ _ _ (fun W _ => pP_is W) <|
  .call _ _ _ (fun W _ => cmp_in kX.out W) <|
  .call _ _ _ (fun W _ => pP_is W) <|
  .call _ _ _ (fun W _ => cmp_no kY.out W) <|
  .ins 26 (binK .geq 3 (.tmp 25) (.const (.int .i64 0)) (.int .i64 (cmpN Y Pt.pp)) (.int .i64 0)) _ (fun W _ => zgf (cmp_no_ge k0.out) W) <|
  .ret _ fun _ h => ⟨rfl,h⟩) (by kernel_rfl)
theorem on_near {b : Nat} (x y : Fe) {w : World} (hF : Fp w b) :
  Calls Tryd.prog 34 #[cv b,qv x.val y.val false] w fun e w' => e = .returned (.bool (decide ((y * y).val = (x * x * x - (x + x + x) + Pt.F Pt.bb).val))) ∧ Ext w w':=by
 obtain ⟨sq,hsq⟩ : ∃ t : Fe,t = x * x:=⟨_,rfl⟩
 obtain ⟨cube,hcube⟩ : ∃ t : Fe,t = sq * x:=⟨_,rfl⟩
 obtain ⟨lhs,hlhs⟩ : ∃ t : Fe,t = y * y:=⟨_,rfl⟩
 obtain ⟨tr,htr⟩ : ∃ t : Fe,t = x + x + x:=⟨_,rfl⟩
 obtain ⟨d,hd⟩ : ∃ t : Fe,t = cube - tr:=⟨_,rfl⟩
 obtain ⟨r,hr⟩ : ∃ t : Fe,t = d + Pt.F Pt.bb:=⟨_,rfl⟩
 have hfin : x * x * x - (x + x + x) + Pt.F Pt.bb = r:=by
  subst hr hd htr hlhs hcube hsq
  rfl
 rw [hfin,← hlhs]
 clear hfin
 have ksq:=veil hsq
 have kcube:=veil hcube
 have klhs:=veil hlhs
 have ktr:=veil htr
 have kd:=veil hd
 have kr:=veil hr
 clear hr hd htr hlhs hcube hsq
 have kx:=veil x.isLt
 have ky:=veil y.isLt
 exact way1 Tryd.func34 [cv b,qv x.val y.val false] (.call _ _ _ (fun W _ => pP_is W) <|
  .call _ _ _ (fun W _ => cmp_in kx.out W) <|
  .call _ _ _ (fun W _ => pP_is W) <|
  .call _ _ _ (fun W _ => cmp_in ky.out W) <|
  .call _ _ _ (fun W hW => zak ksq.out (hF.ext hW)) <|
  .call _ _ _ (fun W hW => zak kcube.out (hF.ext hW)) <|
  .call _ _ _ (fun W hW => zak klhs.out (hF.ext hW)) <|
  .call _ _ _ (fun W hW => trp_calls ktr.out (hF.ext hW)) <|
  .call _ _ _ (fun W hW => zbq kd.out (hF.ext hW)) <|
  .call _ _ _ (fun W _ => bb_is W) <|
  .call _ _ _ (fun W hW => kadd_p kr.out (hF.ext hW)) <|
  .ins 59 (binK .eql 25 (.tmp 46) (.tmp 58) (nv lhs.val) (nv r.val)) (.bool (decide (lhs.val = r.val))) (fun W _ => zcj (gN _ _ _ _ _ W) (eql_num (zbw _) (zbw _) W)) <|
  .ret _ fun _ h => ⟨rfl,h⟩) (by kernel_rfl)
def Rep (x y z : Fe) : Pt.P Pt.pp → Prop
 | none => z = 0
 | some (X,Y) => z ≠ 0 ∧ x = X * (z * z) ∧ y = Y * (z * z * z)
section
variable {n : Nat} [NeZero n]
theorem rt_m {X Y z l x Z s u : Fin n} (hl : l * (Y + Y) = 3 * (X * X - 1)) (hx : x = X * (z * z)) (hZ : Z = Y * (z * z * z) * z + Y * (z * z * z) * z) (hs : s = x - z * z) (hu : u = x + z * z) : s * u + s * u + s * u = l * Z:=by
 subst hs hu hx hZ
 have h : l * (Y * (z * z * z) * z + Y * (z * z * z) * z) = l * (Y + Y) * (z * z * z * z):=by grobner
 rw [h,hl]
 grobner
theorem rt_c {X Y z x y Z : Fin n} (hx : x = X * (z * z)) (hy : y = Y * (z * z * z)) (hZ : Z = y * z + y * z) : (x * (y * y) + x * (y * y)) + (x * (y * y) + x * (y * y)) = X * (Z * Z):=by
 subst hZ hy hx
 grobner
theorem rt_x {m l Z c X : Fin n} (hm : m = l * Z) (hc : c = X * (Z * Z)) : m * m - (c + c) = (l * l - X - X) * (Z * Z):=by
 subst hm hc
 grobner
theorem rt_t {Y z y Z : Fin n} (hy : y = Y * (z * z * z)) (hZ : Z = y * z + y * z) : ((y * y * (y * y) + y * y * (y * y)) + (y * y * (y * y) + y * y * (y * y))) + ((y * y * (y * y) + y * y * (y * y)) + (y * y * (y * y) + y * y * (y * y))) = Y * (Z * Z * Z):=by
 subst hZ hy
 grobner
theorem rt_y {m l Z c X x3 X3 t Y : Fin n} (hm : m = l * Z) (hc : c = X * (Z * Z)) (hx : x3 = X3 * (Z * Z)) (ht : t = Y * (Z * Z * Z)) : m * (c - x3) - t = (l * (X - X3) - Y) * (Z * Z * Z):=by
 subst hm hc hx ht
 grobner
theorem rp_run {X1 X2 z x : Fin n} (hx : x = X1 * (z * z)) : X2 * (z * z) - x = (X2 - X1) * (z * z):=by subst hx; grobner
theorem rp_rise {Y1 Y2 z y : Fin n} (hy : y = Y1 * (z * z * z)) : Y2 * (z * z * z) - y = (Y2 - Y1) * (z * z * z):=by subst hy; grobner
theorem rp_l {X1 X2 Y1 Y2 z l run Z : Fin n} (hl : l * (X2 - X1) = Y2 - Y1) (hr : run = (X2 - X1) * (z * z)) (hZ : Z = z * run) : (Y2 - Y1) * (z * z * z) = l * Z:=by
 subst hZ hr
 rw [← hl]
 grobner
theorem rp_x {X1 X2 z l run Z rise x : Fin n} (hx : x = X1 * (z * z)) (hr : run = (X2 - X1) * (z * z)) (hZ : Z = z * run) (hs : rise = l * Z) :
  rise * rise - run * run * run - (x * (run * run) + x * (run * run)) = (l * l - X1 - X2) * (Z * Z):=by
 subst hs hZ hr hx
 grobner
theorem rp_y {X1 Y1 X2 z l run Z rise x y x3 X3 : Fin n} (hx : x = X1 * (z * z)) (hy : y = Y1 * (z * z * z)) (hr : run = (X2 - X1) * (z * z)) (hZ : Z = z * run) (hs : rise = l * Z) (h3 : x3 = X3 * (Z * Z)) :
  rise * (x * (run * run) - x3) - y * (run * run * run) = (l * (X1 - X3) - Y1) * (Z * Z * Z):=by
 subst h3 hs hZ hr hx hy
 grobner
theorem rf_x {X x z t : Fin n} (hx : x = X * (z * z)) (ht : z * t = 1) : x * (t * t) = X:=by
 subst hx
 have h : X * (z * z) * (t * t) = X * (z * t) * (z * t):=by grobner
 rw [h,ht]
 grobner
theorem rf_y {Y y z t : Fin n} (hy : y = Y * (z * z * z)) (ht : z * t = 1) : y * (t * t * t) = Y:=by
 subst hy
 have h : Y * (z * z * z) * (t * t * t) = Y * (z * t) * (z * t) * (z * t):=by grobner
 rw [h,ht]
 grobner
theorem three_x (x : Fin n) : x + x + x = 3 * x:=by grobner
theorem opp_of {y1 y2 : Fin n} (h : (y1 - y2) * (y1 - (0 - y2)) = 0) (hz : ∀ x y : Fin n,x * y = 0 → x = 0 ∨ y = 0) (hn : y1 ≠ y2) : y1 = 0 - y2:=by
 rcases hz _ _ h with h | h
 ·
  exact absurd (Pt.eq_of_sub h) hn
 ·
  exact Pt.eq_of_sub h
theorem opp_sq {y1 y2 : Fin n} (h : y1 * y1 = y2 * y2) : (y1 - y2) * (y1 - (0 - y2)) = 0:=by grobner
end
theorem fe_ne {x : Fe} (h : x ≠ 0) : x.val ≠ 0:=fun e => h (Fin.ext (by rw [e,zed]))
theorem fe_z {x : Fe} (h : x = 0) : x.val = 0:=by rw [h,zed]
theorem noz {x y : Fe} (hx : x ≠ 0) (hy : y ≠ 0) : x * y ≠ 0:=fun e => by
 rcases Pt.good.hz _ _ e with h | h
 ·
  exact hx h
 ·
  exact hy h
section
variable {n : Nat} [NeZero n]
theorem r0 (y : Fin n) : y * 0 + y * 0 = 0:=by grobner
theorem r1 (Y z : Fin n) : Y * (z * z * z) * z + Y * (z * z * z) * z = (Y + Y) * (z * z * (z * z)):=by grobner
theorem r2 (u i d : Fin n) (h : d * i = 1) : u * i * d = u:=by
 have e : u * i * d = u * (d * i):=by grobner
 rw [e,h]
 grobner
theorem r3 (X : Fin n) : X = X * (1 * 1):=by grobner
theorem r4 (X : Fin n) : X = X * (1 * 1 * 1):=by grobner
theorem r5 (X z : Fin n) : (X - X) * z = 0:=by grobner
end
theorem rep_twice {x y z : Fe} {p : Pt.P Pt.pp} (hp : Pt.E256.on p) (h : Rep x y z p) : Rep (twice3 x y z).1 (twice3 x y z).2.1 (twice3 x y z).2.2 (Pt.E256.add p p):=by
 rcases p with _ | ⟨X,Y⟩
 ·
  have hz : z = 0:=h
  subst hz
  exact r0 y
 ·
  obtain ⟨hz,hx,hy⟩:=h
  have hd:=Pt.down_same hp
  have hn : ¬ (X = X ∧ Y = 0 - Y):=fun e => hd ((Pt.ring_neg _ _).1 e.2)
  rw [Pt.add_near hn,Pt.lam_same]
  have hl:=r2 (3 * (X * X - 1)) _ _ (Pt.good.hinv (Y + Y) hd)
  generalize 3 * (X * X - 1) * Pt.E256.inv (Y + Y) = l at hl ⊢
  have hZ : y * z + y * z = Y * (z * z * z) * z + Y * (z * z * z) * z:=by rw [hy]
  have hm:=rt_m hl hx hZ rfl rfl
  have hc:=rt_c hx hy rfl
  have h3:=rt_x hm hc
  refine ⟨?_,h3,rt_y hm hc h3 (rt_t hy rfl)⟩
  show y * z + y * z ≠ 0
  rw [hZ,r1]
  exact noz hd (noz (noz hz hz) (noz hz hz))
def qvP (p : Pt.P Pt.pp) : Value:=qv (Pt.pX p) (Pt.pY p) (Pt.pFar p)
theorem twice_rep {x y z : Fe} {p : Pt.P Pt.pp} (hp : Pt.E256.on p) (h : Rep x y z p) : ∃ x' y' z' : Fe,Rep x' y' z' (Pt.E256.add p p) ∧
  ∀ (b : Nat) (w : World),Fp w b → Calls Tryd.prog 69 #[cv b,sv x.val y.val z.val] w fun e w' => e = .returned (sv x'.val y'.val z'.val) ∧ Ext w w' :=
 ⟨_,_,_,rep_twice hp h,fun _ _ hF => twice_calls x y z hF⟩
theorem plus_rep {x y z : Fe} {p q : Pt.P Pt.pp} (hp : Pt.E256.on p) (hq : Pt.E256.on q) (h : Rep x y z p) : ∃ x' y' z' : Fe,Rep x' y' z' (Pt.E256.add p q) ∧
  ∀ (b : Nat) (w : World),Fp w b → Calls Tryd.prog 70 #[cv b,sv x.val y.val z.val,qvP q] w fun e w' => e = .returned (sv x'.val y'.val z'.val) ∧ Ext w w':=by
 rcases q with _ | ⟨X2,Y2⟩
 ·
  rw [Pt.add_none]
  exact ⟨_,_,_,h,fun _ _ hF => plus_far x.val y.val z.val 0 0 hF⟩
 rcases p with _ | ⟨X1,Y1⟩
 ·
  have hz : z = 0:=h
  subst hz
  rw [Pt.none_add,zed]
  refine ⟨X2,Y2,1,⟨?_,r3 X2,r4 Y2⟩,fun b w hF => ?_⟩
  ·
   intro e
   have:=congrArg Fin.val e
   rw [v_one,zed] at this
   exact absurd this (by decide)
  ·
   rw [v_one]
   exact plus_lift x.val y.val X2.val Y2.val hF
 ·
  obtain ⟨hz,hx,hy⟩:=h
  have hz3 : z * z * z ≠ 0:=noz (noz hz hz) hz
  have hrun : runOf x z X2 = (X2 - X1) * (z * z):=rp_run hx
  have hrise : riseOf y z Y2 = (Y2 - Y1) * (z * z * z):=rp_rise hy
  by_cases hX : X1 = X2
  ·
   subst hX
   have h0 : (runOf x z X1).val = 0:=fe_z (by rw [hrun]; exact r5 _ _)
   by_cases hY : Y1 = Y2
   ·
    subst hY
    have h1 : (riseOf y z Y1).val = 0:=fe_z (by rw [hrise]; exact r5 _ _)
    exact ⟨_,_,_,rep_twice hp ⟨hz,hx,hy⟩,fun _ _ hF => plus_same x y z X1 Y1 (fe_ne hz) h0 h1 hF⟩
   ·
    have h1 : (riseOf y z Y2).val ≠ 0:=fe_ne (by rw [hrise]; exact noz (fun e => hY (Pt.eq_of_sub e).symm) hz3)
    have he : Y1 * Y1 = Y2 * Y2:=by
     have e1 : Y1 * Y1 = _:=(Pt.on_iff X1 Y1).1 hp
     have e2 : Y2 * Y2 = _:=(Pt.on_iff X1 Y2).1 hq
     rw [e1,e2]
    have ho:=opp_of (opp_sq he) Pt.good.hz hY
    rw [Pt.add_far ⟨rfl,ho⟩]
    refine ⟨0,0,0,rfl,fun b w hF => ?_⟩
    rw [zed]
    exact plus_opp x y z X1 Y2 (fe_ne hz) h0 h1 hF
  ·
   have hd : X2 - X1 ≠ 0:=fun e => hX (Pt.eq_of_sub e).symm
   have h0 : runOf x z X2 ≠ 0:=by rw [hrun]; exact noz hd (noz hz hz)
   rw [Pt.add_near (fun e => hX e.1),Pt.lam_else (fun e => hX e.1)]
   have hl:=r2 (Y2 - Y1) _ _ (Pt.good.hinv (X2 - X1) hd)
   generalize (Y2 - Y1) * Pt.E256.inv (X2 - X1) = l at hl ⊢
   have hs : riseOf y z Y2 = l * (z * runOf x z X2):=by rw [hrise]; exact rp_l hl hrun rfl
   have h3:=rp_x (X2:=X2) hx hrun rfl hs
   exact ⟨_,_,_,⟨noz hz h0,h3,rp_y (X2:=X2) hx hy hrun rfl hs h3⟩,fun _ _ hF => plus_else x y z X2 Y2 (fe_ne hz) (fe_ne h0) hF⟩
theorem lift_rep (p : Pt.P Pt.pp) : ∃ x y z : Fe,Rep x y z p ∧ ∀ w,Calls Tryd.prog 67 #[qvP p] w fun e w' => e = .returned (sv x.val y.val z.val) ∧ Ext w w':=by
 rcases p with _ | ⟨X,Y⟩
 ·
  refine ⟨0,0,0,rfl,fun w => ?_⟩
  rw [zed]
  exact lift_far 0 0 w
 ·
  refine ⟨X,Y,1,⟨?_,r3 X,r4 Y⟩,fun w => ?_⟩
  ·
   intro e
   have:=congrArg Fin.val e
   rw [v_one,zed] at this
   exact absurd this (by decide)
  ·
   rw [v_one]
   exact lift_near X.val Y.val w
theorem flat_rep {b : Nat} {x y z : Fe} {p : Pt.P Pt.pp} (h : Rep x y z p) {w : World} (hF : Fp w b) :
  Calls Tryd.prog 71 #[cv b,sv x.val y.val z.val] w fun e w' => e = .returned (qvP p) ∧ Ext w w':=by
 rcases p with _ | ⟨X,Y⟩
 ·
  have hz : z = 0:=h
  subst hz
  rw [zed]
  exact flat_far x.val y.val hF
 ·
  obtain ⟨hz,hx,hy⟩:=h
  have ht:=Pt.good.hinv z hz
  refine (flat_near x y z hz hF).mono fun _ _ ⟨he,hw⟩ => ⟨?_,hw⟩
  rw [he]
  have e1 : (flat2 x y z).1 = X:=rf_x hx ht
  have e2 : (flat2 x y z).2 = Y:=rf_y hy ht
  rw [e1,e2]
  rfl
theorem on_calls {b : Nat} (X Y : Nat) (f : Bool) (hX : X < top) (hY : Y < top) {w : World} (hF : Fp w b) :
  Calls Tryd.prog 34 #[cv b,qv X Y f] w fun e w' => e = .returned (.bool (onB X Y f)) ∧ Ext w w':=by
 unfold onB
 cases f with
 | true =>
  by_cases h0 : X = 0
  ·
   subst h0
   simp only [if_true,decide_true,Bool.true_and]
   exact on_far0 Y hY hF
  ·
   simp only [if_true,h0,decide_false,Bool.false_and]
   exact on_far1 X Y hX h0 hF
 | false =>
  by_cases hx : X < Pt.pp
  ·
   by_cases hy : Y < Pt.pp
   ·
    simp only [Bool.false_eq_true,if_false,hx,hy,decide_true,Bool.true_and]
    have k:=on_near (b:=b) ⟨X,hx⟩ ⟨Y,hy⟩ hF
    rw [three_x,← right_val,← Pt.v_mul] at k
    exact k
   ·
    simp only [Bool.false_eq_true,if_false,hx,hy,decide_true,decide_false,Bool.true_and,Bool.false_and]
    exact on_high X Y hx hY hy hF
  ·
   simp only [Bool.false_eq_true,if_false,hx,decide_false,Bool.false_and]
   exact on_out X Y hX hx hF
theorem on_yes {b : Nat} (q : Pt.Q) {w : World} (hF : Fp w b) : Calls Tryd.prog 34 #[cv b,qvP q.1] w fun e w' => e = .returned (.bool true) ∧ Ext w w':=by
 have k:=on_calls (Pt.pX q.1) (Pt.pY q.1) (Pt.pFar q.1) (p_top q.1).1 (p_top q.1).2 hF
 rw [onB_of] at k
 exact k
theorem Fp.but {w W : World} {b r : Nat} (h : Fp w b) (hB : But r w W) (hne : b ≠ r) : Fp W b:=by
 obtain ⟨N,Q,h1,h2⟩:=h
 exact ⟨N,Q,h1,h2.of_block (hB.block b h2.lt (by intro e; simp at e; exact hne e))⟩
theorem add_yes (q r : Pt.Q) (w : World) :
  Calls Tryd.prog 46 #[qvP q.1,qvP r.1] w fun e w' => e = .returned (.tuple #[qvP (Pt.grp.op q r).1,.nilIface]) ∧ Ext w w':=by
 obtain ⟨x1,y1,z1,h1,k1⟩:=lift_rep q.1
 obtain ⟨x2,y2,z2,h2,k2⟩:=plus_rep q.2 r.2 h1
 have k3:=fun (b : Nat) (w : World) (hF : Fp w b) => flat_rep h2 hF
 obtain ⟨t,ht⟩ : ∃ t : Pt.Q,t = Pt.grp.op q r:=⟨_,rfl⟩
 have ht2 : Pt.E256.add q.1 r.1 = t.1:=by rw [ht]; rfl
 rw [ht2] at k3
 rw [← ht]
 have K1:=veil k1
 have K2:=veil k2
 have K3:=veil k3
 clear k1 k2 k3 h1 h2 ht ht2
 exact way1 Tryd.func46 [qvP q.1,qvP r.1] (hCurve fun b => .call _ _ _ (fun W hW => on_yes q hW.2) <|
  .call _ _ _ (fun W hW => on_yes r hW.2) <|
  .call _ _ _ (fun W _ => K1.out W) <|
  .call _ _ _ (fun W hW => K2.out _ _ hW.2) <|
  .call _ _ _ (fun W hW => K3.out _ _ hW.2) <|
  .ret _ fun _ h => ⟨rfl,h.1⟩) (by kernel_rfl)
def mlT (n : Nat) : List (Nat × SV):=[(2,.p 0 0),(3,.p 1 0),(4,.p 2 0),(6,.p 3 0),(7,.p 4 0),(8,.v (.int .i64 ((n : Int) - 1)))]
def mlM (K b : Nat) (q : Pt.Q) (x y z : Fe) : List Blk:=[⟨25,cN K⟩,⟨27,cQ (Pt.pX q.1) (Pt.pY q.1) (Pt.pFar q.1)⟩,⟨27,cQ 0 0 false⟩,⟨84,(cc b).toList.map SV.v⟩,⟨118,(sc x.val y.val z.val).toList.map SV.v⟩]
section
variable {w0 : World} {Post : Value → World → Prop} {J : World → Prop}
def mlNext (K n b : Nat) (q : Pt.Q) (x y z : Fe) (h : n ≤ 256) (h0 : ¬ n = 0) (hr : Rep x y z (Pt.grp.mul (K / 2 ^ (n - 1)) q).1) : OT Tryd.prog w0 Post J :=
 .ins 24 (binK .sub 3 (.tmp 23) (.const (.int .i64 1)) (.int .i64 ((n : Int) - 1)) (.int .i64 1)) (.int .i64 (((n - 1 : Nat) : Int) - 1)) (fun _ _ => pred_run (by omega) (by omega) (by omega)) <|
 .nextG (mlT (n - 1)) (mlM K b q x y z) (∃ l : Nat × Fe × Fe × Fe,((l.1 ≤ 256 ∧ Rep l.2.1 l.2.2.1 l.2.2.2 (Pt.grp.mul (K / 2 ^ l.1) q).1) ∧ l.1 < n) ∧ mlT l.1 = mlT (n - 1) ∧ mlM K b q l.2.1 l.2.2.1 l.2.2.2 = mlM K b q x y z)
  ⟨(n - 1,x,y,z),⟨⟨by show n - 1 ≤ 256; omega,hr⟩,by show n - 1 < n; omega⟩,rfl,rfl⟩
end
theorem mul_yes (K : Nat) (hK : K < top) (q : Pt.Q) (w : World) :
  Calls Tryd.prog 44 #[nv K,qvP q.1] w fun e w' => e = .returned (.tuple #[qvP (Pt.grp.mul K q).1,.nilIface]) ∧ Ext w w' :=
 have h0 : ∃ t : Fe × Fe × Fe,Rep t.1 t.2.1 t.2.2 none ∧ ∀ w,Calls Tryd.prog 67 #[qvP none] w fun e w' => e = .returned (sv t.1.val t.2.1.val t.2.2.val) ∧ Ext w w':=by
  obtain ⟨x,y,z,h⟩:=lift_rep none
  exact ⟨(x,y,z),h⟩
 have h2 : ∀ {x y z : Fe} {p : Pt.Q},Rep x y z p.1 → ∃ t : Fe × Fe × Fe,Rep t.1 t.2.1 t.2.2 (Pt.grp.op p p).1 ∧ ∀ (b : Nat) (w : World),Fp w b → Calls Tryd.prog 69 #[cv b,sv x.val y.val z.val] w fun e w' => e = .returned (sv t.1.val t.2.1.val t.2.2.val) ∧ Ext w w':=fun {x y z p} h => by
  obtain ⟨x,y,z,h⟩:=twice_rep p.2 h
  exact ⟨(x,y,z),h⟩
 have h3 : ∀ {x y z : Fe} {p : Pt.Q},Rep x y z p.1 → ∃ t : Fe × Fe × Fe,Rep t.1 t.2.1 t.2.2 (Pt.grp.op p q).1 ∧ ∀ (b : Nat) (w : World),Fp w b → Calls Tryd.prog 70 #[cv b,sv x.val y.val z.val,qvP q.1] w fun e w' => e = .returned (sv t.1.val t.2.1.val t.2.2.val) ∧ Ext w w':=fun {x y z p} h => by
  obtain ⟨x,y,z,h⟩:=plus_rep p.2 q.2 h
  exact ⟨(x,y,z),h⟩
 way1 Tryd.func44 [nv K,qvP q.1] (hCurve fun b => .call _ _ _ (fun _ hW => on_yes q hW.2) <| .get _ h0 fun t ht => .call _ _ _ (fun W _ => ht.2 W) <| .call _ _ _ (fun W _ => klen K (bitLen K) rfl hK W) <|
  .ins 20 (binK .sub 3 (.tmp 19) (.const (.int .i64 1)) (.int .i64 (bitLen K : Int)) (.int .i64 1)) (.int .i64 ((bitLen K : Int) - 1)) (fun _ _ => by have:=bl_le hK; exact pred_run rfl (by omega) (by omega)) <|
  .loopG (α:=Nat × Fe × Fe × Fe) (fun s => mlT s.1) (fun s => mlM K b q s.2.1 s.2.2.1 s.2.2.2) (fun s => s.1) (fun s => s.1 ≤ 256 ∧ Rep s.2.1 s.2.2.1 s.2.2.2 (Pt.grp.mul (K / 2 ^ s.1) q).1) (bitLen K,t) ⟨bl_le hK,by
   show Rep t.1 t.2.1 t.2.2 (Pt.grp.mul (K / 2 ^ bitLen K) q).1
   rw [bl_div]
   exact ht.1⟩ (mlT (bitLen K)) (mlM K b q t.1 t.2.1 t.2.2) ⟨rfl,rfl⟩ fun s h =>
  .cases (s.1 = 0)
   (fun h0 => .ins 22 (binK .geq 3 (.tmp 21) (.const (.int .i64 0)) (.int .i64 ((s.1 : Int) - 1)) (.int .i64 0)) (.bool false) (fun W _ => zgf (decide_eq_false (by omega)) W) <|
    .call _ _ _ (fun _ hW => flat_rep h.2 hW.2) <| .ret (.tuple #[qvP (Pt.grp.mul (K / 2 ^ s.1) q).1,.nilIface]) fun _ hW => ⟨by rw [h0,Nat.pow_zero,Nat.div_one],hW.1⟩)
   (fun h0 => .ins 22 (binK .geq 3 (.tmp 21) (.const (.int .i64 0)) (.int .i64 ((s.1 : Int) - 1)) (.int .i64 0)) (.bool true) (fun W _ => zgf (decide_eq_true (by omega)) W) <|
    .get _ (h2 h.2) fun u hu => .call _ _ _ (fun W hW => hu.2 b W hW.2) <|
    .cases (bit K (s.1 - 1) = true)
     (fun hb => .call _ #[nv K,.int .i64 ((s.1 : Int) - 1)] (.bool true) (fun W _ => by have k:=kbit K (s.1 - 1) true hb (by omega) W; rw [show ((s.1 - 1 : Nat) : Int) = (s.1 : Int) - 1 by omega] at k; exact k) <|
      .get _ (h3 hu.1) fun v hv => .call _ _ _ (fun W hW => hv.2 b W hW.2) <| mlNext K s.1 b q v.1 v.2.1 v.2.2 h.1 h0 (by rw [times_step,if_pos hb,show s.1 - 1 + 1 = s.1 by omega]; exact hv.1))
     (fun hb => .call _ #[nv K,.int .i64 ((s.1 : Int) - 1)] (.bool false) (fun W _ => by have k:=kbit K (s.1 - 1) false (Bool.eq_false_iff.2 hb) (by omega) W; rw [show ((s.1 - 1 : Nat) : Int) = (s.1 : Int) - 1 by omega] at k; exact k) <|
      mlNext K s.1 b q u.1 u.2.1 u.2.2 h.1 h0 (by rw [times_step,if_neg hb,show s.1 - 1 + 1 = s.1 by omega]; exact hu.1)))) (by kernel_rfl)
theorem on_is (X Y : Nat) (f : Bool) (hX : X < top) (hY : Y < top) (w : World) :
  Calls Tryd.prog 16 #[qv X Y f] w fun e w' => e = .returned (.bool (onB X Y f)) ∧ Ext w w':=by
 have KO:=veil (fun (b : Nat) (w : World) (hF : Fp w b) => on_calls X Y f hX hY hF)
 obtain ⟨r,hr⟩ : ∃ r,r = onB X Y f:=⟨_,rfl⟩
 rw [← hr] at KO ⊢
 clear hX hY hr
 unfold qv qc
 go_enter Tryd.func16,Tryd.ntmps16
 go_upto_region 1 with (fail)
 refine wp_via1 fun w1 hx b0 => ?_
 have b0 : w1.heap[w.heap.size]? = some (.cells (qc X Y f) 27 (0,0)):=b0
 refine wp_region_noPanic ?_
 refine wp_region_held_drew (S:=fun W => Ext w1 W) (by kernel_rfl) (Ext.drew _) (fun hH => ?_)
 refine wpAnyH_take (i:=1) (v:=qv X Y f) rfl (by kernel_rfl) (by kernel_rfl) (by decide +kernel) (fun _ _ _ h => h) (yieldsIf_load_mid (by rfl) _ _ rfl _ _ rfl (qc X Y f).toList _ (fun W hW j v hv => by rw [cell_of_row W _ _ (qc X Y f) 27 (0,0) (hW.block b0),Nat.zero_add]; simpa using hv) Tryd.underlying27 rfl (iT X Y f)) hH ?_
 refine wpAnyH_ready (rs:=[0]) (by decide +kernel) (by simp) ?_
 refine AllReadyH.cons rfl (fun K hK => ?_) AllReadyH.nil
 go_simp
 refine (curve_calls _).mono ?_
 rintro e w2 ⟨b,rfl,hF,hE⟩
 refine hK.out _ _ (hH.trans hE) (fun hH => ?_)
 clear hK K hE
 refine wpAnyH_ready (rs:=[2]) (by decide +kernel) (by simp) ?_
 refine AllReadyH.cons rfl (fun K hK => ?_) AllReadyH.nil
 go_simp
 refine (KO.out _ _ hF).mono ?_
 rintro e w3 ⟨rfl,hE⟩
 refine hK.out _ _ (hH.trans hE) (fun hH => ?_)
 clear hK K hE
 refine wpAnyH_take (i:=3) (v:=.bool r) rfl (by kernel_rfl) (by kernel_rfl) (by decide +kernel) (fun _ _ _ h => h) (Or.inl ⟨by rfl,fun W hSw => (by dsimp only at hSw; go_simp)⟩) hH ?_
 refine wpAnyH_done (by decide +kernel) ?_ _
 refine NoPanic.normal ?_
 go_wp2
 go_ret
 exact ⟨rfl,hx.trans hH⟩
/-! ### the field of n -/
def Fn (w : World) (b : Nat) : Prop:=∃ N Q,Fok Pt.nn N Q ∧ Fb w b Pt.nn N Q
theorem Fn.ext {w w' : World} {b : Nat} (h : Fn w b) (k : Ext w w') : Fn w' b:=by
 obtain ⟨N,Q,h1,h2⟩:=h
 exact ⟨N,Q,h1,h2.call k⟩
theorem Fn.but {w w' : World} {b r : Nat} (h : Fn w b) (k : But r w w') (hne : b ≠ r) : Fn w' b:=by
 obtain ⟨N,Q,h1,h2⟩:=h
 exact ⟨N,Q,h1,World.rowIs.of_block h2 (k.block b h2.lt (fun e => hne (Option.some.inj e)))⟩
section
variable {b : Nat} {w : World}
theorem nadd_p {X Y Z : Nat} (hZ : Z = (X % Pt.nn + Y % Pt.nn) % Pt.nn) (hX : X < top) (hY : Y < top) (hF : Fn w b) : Calls Tryd.prog 49 #[ptrTo b,nv X,nv Y] w fun e w' => e = .returned (nv Z) ∧ Ext w w':=by
 obtain ⟨N,Q,h1,h2⟩:=hF
 exact fadd2_calls b X Y Pt.nn N Q Z hX hY h1 hZ.symm w h2
theorem ncut_p {X Z : Nat} (hZ : Z = X % Pt.nn) (hX : X < top) (hF : Fn w b) : Calls Tryd.prog 49 #[ptrTo b,nv X,nv 0] w fun e w' => e = .returned (nv Z) ∧ Ext w w' :=
 nadd_p (by rw [hZ,Nat.zero_mod,Nat.add_zero,Nat.mod_mod]) hX zce hF
theorem nmul_p {X Y Z : Nat} (hZ : Z = X * Y % Pt.nn) (hX : X < top) (hY : Y < top) (hF : Fn w b) : Calls Tryd.prog 21 #[ptrTo b,nv X,nv Y] w fun e w' => e = .returned (nv Z) ∧ Ext w w':=by
 obtain ⟨N,Q,h1,h2⟩:=hF
 exact fmul2_calls b X Y Pt.nn N Q Z hX hY h1 hZ.symm w h2
theorem ninv_p {X t : Nat} (h0 : X ≠ 0) (hX : X < Pt.nn) (ht : t = Pt.iG Pt.nn X) (hF : Fn w b) : Calls Tryd.prog 19 #[ptrTo b,nv X] w fun e w' => e = .returned (.tuple #[nv t,.nilIface]) ∧ Ext w w':=by
 obtain ⟨N,Q,h1,h2⟩:=hF
 refine (zfn b X Pt.nn N Q (Nat.lt_trans hX nn_top) h1 w h2).mono ?_
 rintro e w' ⟨⟨y,hy,hi,rfl⟩,hb⟩
 have hg:=Pt.gcd_nn h0 hX
 have e1 : y = t:=by rw [ht]; exact Pt.iG_of Pt.nn Pt.nn_root Pt.nn_one hy (hi hg)
 rw [zfk hg,e1]
 exact ⟨rfl,hb⟩
end
/-! ### a maker -/
section
variable (g : Nat) (W : World)
end
/-! ### what the layers below answer -/
theorem ofl_is {y : Nat → Nat} {X : Nat} (hy : ∀ j,y j < 256) (hX : X = num32 y) {g : Nat} (w : World) (hb : w.heap[g]? = some (.cells (dgc y) 33 (0,0))) : Calls Tryd.prog 26 #[.slice (some ⟨g,0,none⟩) 32 32] w fun e w' => e = .returned (.tuple #[nv X,.nilIface]) ∧ Ext w w':=by
 subst hX
 exact of_some g 0 32 32 y hy (by decide) w (Array.getElem?_eq_some_iff.1 hb).1 (fun j hj => by rw [Nat.zero_add,cell_of_row w g j _ _ _ hb]; exact zbc _ hj)
theorem mulb_is {K : Nat} (hK : K < top) {P : Pt.Q} (hP : P = Pt.grp.mul K Pt.base) (w : World) : Calls Tryd.prog 44 #[nv K,qv Pt.gx Pt.gy false] w fun e w' => e = .returned (.tuple #[qv (Pt.pX P.1) (Pt.pY P.1) (Pt.pFar P.1),.nilIface]) ∧ Ext w w':=by
 subst hP
 have h:=mul_yes K hK Pt.base w
 unfold qvP at h
 rwa [base_x.1,base_x.2.1,base_x.2.2] at h
theorem mulq_is {K X Y : Nat} {f : Bool} (hK : K < top) {p q : Pt.Q} (hp : X = Pt.pX p.1 ∧ Y = Pt.pY p.1 ∧ f = Pt.pFar p.1) (hq : q = Pt.grp.mul K p) (w : World) : Calls Tryd.prog 44 #[nv K,qv X Y f] w fun e w' => e = .returned (.tuple #[qv (Pt.pX q.1) (Pt.pY q.1) (Pt.pFar q.1),.nilIface]) ∧ Ext w w':=by
 obtain ⟨rfl,rfl,rfl⟩:=hp
 subst hq
 exact mul_yes K hK p w
theorem addq_is {a b c : Pt.Q} (hc : c = Pt.grp.op a b) (w : World) : Calls Tryd.prog 46 #[qv (Pt.pX a.1) (Pt.pY a.1) (Pt.pFar a.1),qv (Pt.pX b.1) (Pt.pY b.1) (Pt.pFar b.1)] w fun e w' => e = .returned (.tuple #[qv (Pt.pX c.1) (Pt.pY c.1) (Pt.pFar c.1),.nilIface]) ∧ Ext w w':=by
 subst hc; exact add_yes a b w
theorem onp_is {X Y : Nat} {f r : Bool} (h : onB X Y f = r) (hX : X < top) (hY : Y < top) (w : World) : Calls Tryd.prog 16 #[qv X Y f] w fun e w' => e = .returned (.bool r) ∧ Ext w w':=by
 subst h; exact on_is X Y f hX hY w
theorem iz_is {X : Nat} {b : Bool} (hb : decide (X = 0) = b) (hX : X < top) (w : World) :
  Calls Tryd.prog 35 #[nv X] w fun e w' => e = .returned (.bool b) ∧ Ext w w':=by
 have k:=veil fun W => eql_zero hX W
 rw [hb] at k
 clear hb hX
 exact way1 Tryd.func35 [nv X] (.ins 5 (binK .eql 25 (.tmp 3) (.tmp 4) (nv X) (nv 0)) (.bool b) (fun W _ => zcj (gN _ _ _ _ _ W) (k.out W)) <| .ret _ fun _ h => ⟨rfl,h⟩) (by kernel_rfl)
theorem rng_zero (w : World) : Calls Tryd.prog 17 #[nv 0] w fun e w' => e = .returned (.bool false) ∧ Ext w w' :=
 way1 Tryd.func17 [nv 0] (.call _ _ _ (fun W _ => iz_is (b:=true) rfl (Nat.two_pow_pos 256) W) <| .ret _ fun _ h => ⟨rfl,h⟩) (by kernel_rfl)
theorem rng_else {X : Nat} {b : Bool} (hX : X < top) (h0 : X ≠ 0) (hb : decide (X < Pt.nn) = b) (w : World) :
  Calls Tryd.prog 17 #[nv X] w fun e w' => e = .returned (.bool b) ∧ Ext w w':=by
 have hl : decide (cmpN X Pt.nn < 0) = b:=by
  subst hb
  unfold cmpN
  by_cases h : X < Pt.nn
  ·
   simp [h]
  ·
   simp only [h,if_false,decide_false]
   split <;> decide
 have k:=veil (And.intro hX (And.intro h0 hl))
 clear hX h0 hb hl
 exact way1 Tryd.func17 [nv X] (.call _ _ _ (fun W _ => iz_is (decide_eq_false k.out.2.1) k.out.1 W) <| .call _ _ _ (fun W _ => pN_is W) <| .call _ _ _ (fun W _ => kcmp X Pt.nn _ rfl k.out.1 nn_top W) <|
  .ins 10 (binK .lss 3 (.tmp 9) (.const (.int .i64 0)) (.int .i64 (cmpN X Pt.nn)) (.int .i64 0)) (.bool b) (fun _ _ => lss_run k.out.2.2) <| .ret _ fun _ h => ⟨rfl,h⟩) (by kernel_rfl)
theorem zfg {X : Nat} {b : Bool} (hb : mayB X = b) (hX : X < top) (w : World) :
  Calls Tryd.prog 17 #[nv X] w fun e w' => e = .returned (.bool b) ∧ Ext w w':=by
 subst hb
 unfold mayB
 by_cases h0 : X = 0
 ·
  subst h0
  exact rng_zero w
 ·
  rw [decide_eq_true h0,Bool.true_and]
  exact rng_else hX h0 rfl w
theorem modulo_calls (w : World) :
  Calls Tryd.prog 18 #[] w fun e w' => (∃ b,e = .returned (ptrTo b) ∧ w.heap.size ≤ b ∧ Fn w' b) ∧ Ext w w':=by
 go_enter Tryd.func18,Tryd.ntmps18
 go_upto_region 1 with (fail)
 have HN:=veil (pN_is w)
 go_wp2_with (first
  | (go_at_call 37; refine HN.out.mono ?_; rintro e w5 ⟨rfl,hb5⟩)
  | (go_at_call 38; refine (new_good Pt.nn nn_odd.1 nn_odd.2 nn_top w5).mono ?_; rintro e w6 ⟨⟨b,N,Q,hok,hfb,hge,rfl⟩,hb6⟩))
 go_ret
 exact ⟨⟨b,rfl,Nat.le_trans (Below.size hb5) hge,N,Q,hok,hfb⟩,hb5.trans hb6⟩
theorem Fn.cells {W : World} {b g o : Nat} {vs : List Value} (h : Fn W b) (hne : ¬ g = b) : Fn (W.setCells g o vs) b:=by
 obtain ⟨N,Q,h1,h2⟩:=h
 exact ⟨N,Q,h1,h2.of_block (zey (fun e => hne e.symm) vs o W)⟩
def hMod {w0 : World} {Post : Value → World → Prop} {J : World → Prop} (r : ∀ b,OT Tryd.prog w0 Post (fun W => J W ∧ Fn W b)) : OT Tryd.prog w0 Post J :=
 .hang 18 #[] ptrTo (fun b W => Fn W b) (fun b g => g = b) (fun _ _ _ h k => h.ext k) (fun _ _ _ _ _ h hn => h.cells hn)
  (fun W _ => (modulo_calls W).mono fun _ _ ⟨⟨b,he,hge,hF⟩,hE⟩ => ⟨b,he,hE,hF,fun g hg => by
   subst hg
   obtain ⟨_,_,_,h2⟩:=hF
   exact ⟨.inl hge,h2.lt⟩⟩) r
theorem numof_calls {y : Nat → Nat} (hy : ∀ j,y j < 256) {X : Nat} (hX : X = num32 y) (w : World) :
  Calls Tryd.prog 22 #[dgv y] w fun e w' => e = .returned (nv X) ∧ Ext w w':=by
 have ky:=veil hy
 have kX:=veil hX
 clear hX hy
 unfold nv nc dgv dgc
 go_enter Tryd.func22,Tryd.ntmps22
 go_upto_region 1 with (fail)
 refine wp_via2 fun w1 hx b0 b1 => ?_
 have b0 : w1.heap[w.heap.size]? = some (.cells (dgc y) 33 (0,0)):=b0
 refine' wp_plain (m:=5) (A:=_) (by kernel_rfl) ?h1 ?h2
 case h1 =>
  refine zbj (.slice (some ⟨w.heap.size,0,none⟩) 32 32) rfl (made_slice rfl rfl (sliceD _ ·)) ?_
  refine zbj (.tuple #[nv X,.nilIface]) rfl (made_fun (args:=[.slice (some ⟨w.heap.size,0,none⟩) 32 32]) rfl rfl (fun W => zcm Tryd.func26 rfl rfl _ W) (fun W hW => ofl_is ky.out kX.out W (hW.block b0))) ?_;simp only [aP,lA,lZ,lS]
  refine zbj (.tuple #[nv X,.nilIface]) rfl (zca (.inl rfl) rfl) ?_
  refine zbj (nv X) rfl (made_ext rfl rfl rfl) ?_;simp only [aP,lA,lZ,lS]
  refine zbj (.nilIface) rfl (made_ext rfl rfl rfl) ?_;simp only [aP,lA,lZ,lS]
  exact mk_end
 refine prest_var' _ _ rfl rfl rfl rfl rfl rfl rfl (hzN ·) (fun _ => rfl) (fun _ => rfl) (iN _) rfl (nc_one _) ?_
 intro gx w2 hgx bx hE
 replace b1:=hE.block b1
 replace hx:=hx.trans hE
 clear hE
 simp only [aP,lA,lZ,lS]
 clear hgx
 go_upto_region 2 with (fail)
 refine' wp_plain (m:=1) (A:=_) (by kernel_rfl) ?h2a ?h2b
 case h2a =>
  refine zbj (nv X) rfl (made_load rfl rfl bx rfl uN rfl (iN _)) ?_;simp only [aP,lA,lZ,lS]
  exact mk_end
 refine prest_store _ rfl rfl rfl rfl rfl rfl b1 (iN _) rfl (nc_one _) ?_
 intro w3 hB hb
 go_wp2
 exact bodyPost_ret (results_cell_row rfl _ _ (w.heap.size + 1) 25 (nc X) (0,0) _ rfl hb Tryd.underlying25 rfl (by kernel_rfl)) rfl ⟨rfl,hx.new hB (by omega)⟩
theorem scut_calls {b X Z : Nat} (hZ : Z = X % Pt.nn) (hX : X < top) {w : World} (hF : Fn w b) :
  Calls Tryd.prog 23 #[ptrTo b,nv X] w fun e w' => e = .returned (nv Z) ∧ Ext w w':=by
 have kZ:=veil hZ
 have kX:=veil hX
 clear hX hZ
 exact way1 Tryd.func23 [ptrTo b,nv X] (.call _ _ _ (fun W hW => ncut_p kZ.out kX.out (hF.ext hW)) <|
  .ret _ fun _ h => ⟨rfl,h⟩) (by kernel_rfl)
theorem sumof_calls {u v X Y : Nat} {f : Bool} {p a b c : Pt.Q} (hu : u < top) (hv : v < top) (hp : X = Pt.pX p.1 ∧ Y = Pt.pY p.1 ∧ f = Pt.pFar p.1) (ha : a = Pt.grp.mul u Pt.base) (hb : b = Pt.grp.mul v p) (hc : c = Pt.grp.op a b) (w : World) :
  Calls Tryd.prog 20 #[nv u,nv v,qv X Y f] w fun e w' => e = .returned (qv (Pt.pX c.1) (Pt.pY c.1) (Pt.pFar c.1)) ∧ Ext w w':=by
 have ku:=veil hu
 have kv:=veil hv
 have kp:=veil hp
 have ka:=veil ha
 have kb:=veil hb
 have kc:=veil hc
 clear hc hb ha hp hv hu
 exact way1 Tryd.func20 [nv u,nv v,qv X Y f] (.call _ _ _ (fun W _ => base_calls W) <|
  .call _ _ _ (fun W _ => mulb_is ku.out ka.out W) <|
  .call _ _ _ (fun W _ => mulq_is kv.out kp.out kb.out W) <|
  .call _ _ _ (fun W _ => addq_is kc.out W) <|
  .ret _ fun _ h => ⟨rfl,h⟩) (by kernel_rfl)
end Go.Proofs.YtihophdbkjhopaaDoor
