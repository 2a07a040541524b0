/-
  Of KU FSub2 FMul2 C1 C2 C4 C3 C5.
-/
import Derived.Deep.RegionHeld3
import Derived.Test.YtedehdbajiaaiaaGreatDoorZK11
import Derived.Test.YtedehdbajiaaiaaGreatDoorZK14
import Derived.Test.YtedehdbajiaaiaaGreatDoorZK12
import Derived.Test.YtedehdbajiaaiaaGreatDoorZK8
import Derived.Test.YtedehdbajiaaiaaGreatDoorZK17
import Derived.Test.YtedehdbajiaaiaaGreatDoorZK4
import Derived.Test.YtedehdbajiaaiaaGreatDoorZK1
import Derived.Test.YtedehdbajiaaiaaGreatDoorZK5
set_option maxRecDepth 1000000
set_option maxHeartbeats 20000000
namespace Go.Proofs.YtedehdbajiaaiaaGreatDoor
open Go.RowKit
open Go.Value renaming int → vI
open Go.IntKind renaming u64 → vU
open Go.Act renaming put → aP
open List renaming setIfInBounds_toArray → lA, set_cons_zero → lZ, set_cons_succ → lS
theorem vs_pair {w : World} {g t : Nat} {A0 A1 : Option Addr} {c0 c1 : Nat} {x0 x1 : List Nat} {fr : Nat × Nat} (l0 : x0.length = 55) (l1 : x1.length = 64)
  (hg : w.heap[g]? = some (.cells #[.slice A0 55 c0,.slice A1 64 c1] t fr)) (h0 : 55 ≤ c0 ∧ Bs w A0 x0) (h1 : 64 ≤ c1 ∧ Bs w A1 x1) : Vs w (.slice (some ⟨g,0,none⟩) 2 2) [x0,x1] :=
 vs_row (l:=[x0,x1]) hg (Nat.le_refl _) fun i hi => by
  match i,hi with
  | 0,_ => exact ⟨A0,c0,by show some (Value.slice A0 55 c0) = some (.slice A0 x0.length c0); rw [l0],by show x0.length ≤ _; rw [l0]; exact h0.1,h0.2⟩
  | 1,_ => exact ⟨A1,c1,by show some (Value.slice A1 64 c1) = some (.slice A1 x1.length c1); rw [l1],by show x1.length ≤ _; rw [l1]; exact h1.1,h1.2⟩
theorem issue_end {L : Low} {w' : World} {t : Tk} {D r s : Nat} {x ev : Value} (hm : mayT t = true) (hd : L.md D = true) (hs : L.sg D (L.dg (tkB t)) = some (r,s)) (h : PutA w' (tagFs 1 [tkB t,sigB r s]) x ev) : IssueA L w' t D x ev:=by
 have hmay : mayFs (tagFs 1 [tkB t,sigB r s]) = true:=two_may (by rw [zbt]; decide)
 rcases h with ⟨h,_⟩ | ⟨_,he,A,c,hx,hc,hB⟩
 ·
  rw [hmay] at h; cases h
 ·
  exact .inr (.inr ⟨hm,hd,r,s,hs,⟨A,c,hx,hc,hB⟩,he⟩)
theorem sign_three (C : CodeL) {D : Nat} (hD : D < top) {y : Nat → Nat} (hy : ∀ j,y j < 256) : ∃ r s ev,(∀ W,KT W → Calls Tryz.prog 25 #[.agg (nc D),dgv y] W fun e w' => e = .returned (.tuple #[.agg (gc r s),ev]) ∧ Ext W w') ∧
  ((ev = .iface 35 (.int .i64 1) ∧ mayB D = false) ∨ (ev = .iface 35 (.int .i64 4) ∧ mayB D = true ∧ sgL D y = none) ∨ (ev = .nilIface ∧ mayB D = true ∧ sgL D y = some (r,s))):=by
 cases hm : mayB D with
 | false => exact ⟨0,0,_,fun W _ => C.sign_bad D y W hD hm,.inl ⟨rfl,rfl⟩⟩
 | true =>
  cases hs : sgL D y with
  | none =>
   refine ⟨0,0,_,fun W hW => ?_,.inr (.inl ⟨rfl,rfl,rfl⟩)⟩
   have h:=C.sign_ok D y W hW hm hy
   rw [hs] at h
   exact h
  | some p =>
   obtain ⟨r,s⟩:=p
   refine ⟨r,s,_,fun W hW => ?_,.inr (.inr ⟨rfl,rfl,rfl⟩)⟩
   have h:=C.sign_ok D y W hW hm hy
   rw [hs] at h
   exact h
theorem neNil1 (w : World) : (binOp .neq 31 (.iface 35 (.int .i64 1)) .nilIface).run Tryz.prog w = .ok (.bool true) w:=by kernel_rfl
theorem neNil4 (w : World) : (binOp .neq 31 (.iface 35 (.int .i64 4)) .nilIface).run Tryz.prog w = .ok (.bool true) w:=by kernel_rfl
theorem issue9_calls (C : CodeL) (t : Tk) (D : Nat) (w : World) (hK : KT w) (hD : D < top) : Calls Tryz.prog 9 #[tkV t,nv D] w fun e w' => ∃ x ev,e = .returned (.tuple #[x,ev]) ∧ Ext w w' ∧ IssueA lowL w' t D x ev:=by
 obtain ⟨r,s,ev,hG,hw⟩:=sign_three C hD (dgL_lt (tkB t))
 have KB:=veil (fun W => zhg t W)
 have HK:=veil hK
 have HC:=veil C
 have HG:=veil hG
 have HW:=veil hw
 have KBy:=veil (fun W => C.bytes r s W)
 have k1:=neNil1
 have k3:=neNilN
 have k4:=neNil4
 unfold tkV at KB
 unfold tkV nv
 unfold gv at KBy
 clear hK C hG hw hD
 go_enter Tryz.func9,Tryz.ntmps9
 go_upto_region 1 with (fail)
 obtain ⟨g2,hg2⟩ : ∃ g,g = w.heap.size:=⟨_,rfl⟩
 obtain ⟨g3,hg3⟩ : ∃ g,g = w.heap.size + 1:=⟨_,rfl⟩
 have h2:=(zbs w (.cells (tkC t) 23) (.cells (nc D) 26)).1
 have h3:=(zbs w (.cells (tkC t) 23) (.cells (nc D) 26)).2
 have hE0:=zfj w (.cells (tkC t) 23) (.cells (nc D) 26)
 rw [← hg3,← hg2]
 rw [← hg2] at h2
 rw [← hg3] at h3
 generalize (w.alloc (.cells (tkC t) 23)).alloc (.cells (nc D) 26) = w0 at *
 have H0:=veil (And.intro hE0 (And.intro h2 h3))
 clear hE0 h2 h3 hg2 hg3
 go_upto_region 2 with (first
  | ((with_reducible refine zas 10 ?_); refine wpList_load_row rfl 23 _ rfl g2 rfl 23 (tkC t) (0,0) _ H0.out.2.1 Tryz.underlying23 rfl (iTk t) ?_)
  | (go_at_call 8; refine (KB.out _).mono ?_; rintro e w3 ⟨x,eb,rfl,hE3,hA⟩))
 rcases hA with ⟨hm,⟨A5,c5,rfl⟩,rfl⟩ | ⟨hm,⟨A5,c5,rfl,hc5,hB5⟩,rfl⟩
 ·
  have HM:=veil hm
  clear hm
  go_wp2
  go_ret2
  exact ⟨_,_,rfl,H0.out.1.trans hE3,.inl ⟨by rw [HM.out,Bool.false_and],⟨none,0,rfl⟩,rfl⟩⟩
 ·
  have HM:=veil hm
  have HA:=veil hc5
  have H7:=veil (And.intro (H0.out.1.trans hE3) (And.intro (hE3.block H0.out.2.2) hB5))
  clear hm hE3 hB5 hc5 H0 KB
  go_upto_region 4 with (fail)
  refine wp_sched_tree 8 (.row [0,1,2,3,4,5] (.two 6 (.one 7 (.one 8 (.one 9 .done))) 7 (.two 6 (.one 8 (.one 9 .done)) 8 (.one 6 (.one 9 .done))))) (by kernel_rfl) (by decide +kernel) fun Q' hQ' => ?_
  refine' fork_row (A:=_) _ rfl (by kernel_rfl) ?_ ?_
  rotate_left
  ·
   intro D' hD hN
   have KS:=veil (fun v : Gw D' => hD.calls (v:=dgv (dgL (tkB t))) (fun W hW => HC.out.sum A5 55 c5 (tkB t) W (zff HK.out (H7.out.1.trans hW)) (zbt t).symm HA.out (by decide) (H7.out.2.2.ext hW)) v)
   have KG:=veil (fun v : Gw D' => hD.calls (v:=.tuple #[.agg (gc r s),ev]) (fun W hW => HG.out W (zff HK.out (H7.out.1.trans hW))) v)
   simp only [pickI,consO,List.getElem?_cons_zero,List.getElem?_cons_succ]
   go_big_quiet_want
   refine zeu (.agg (nc D)) (fun v => zcq rfl rfl (hD.block H7.out.2.1 v) Tryz.underlying26 rfl (iN D)) ?_
   simp only [aP,lA,lZ,lS]
   go_big_quiet_on
   repeat (go_big_quiet_step (first | exact KS.out _ | exact KG.out _))
   exact zee
  have hX0 : Ext w3 w3:=Ext.refl w3
  show One _ _ _ _ _ _ _ _ ∧ One _ _ _ _ _ _ _ _
  refine ⟨?_,?_⟩
  ·
   show One _ _ _ _ _ _ _ _
   refine zhp (v:=ev) _ rfl rfl rfl (fun W _ => rfl) ?_
   intro wv1 hE2
   simp only [aP,lA,lZ,lS]
   have hX3:=hX0.trans hE2
   show One _ _ _ _ _ _ _ _
   refine one_alloc (C:=Z8) (t:=39) _ rfl rfl rfl (fun _ => rfl) ?_
   intro g8 wv4 hh8 hK7 hE5
   simp only [aP,lA,lZ,lS]
   have hX6:=hX3.trans hE5
   have hG9 : w3.heap.size ≤ g8:=Nat.le_trans (Below.size hX3) hh8
   show One _ _ _ _ _ _ _ _
   refine one_store (cells:=gc r s) _ rfl rfl rfl rfl (by decide) rfl rfl hK7 (iSg r s) rfl (zcf r s) ?_
   intro wv10 hB11 hK13
   have hX12 : Ext w3 wv10:=Below.trans hX6 (hB11.new hG9 (Below.size hX6))
   show One _ _ _ _ _ _ _ _
   refine zhp (v:=ev) _ rfl rfl rfl (fun W _ => rfl) ?_
   intro wv14 hE15
   simp only [aP,lA,lZ,lS]
   have hX16:=hX12.trans hE15
   have hK17:=hE15.block hK13
   refine tr_end hQ' fun wz hEz => ?_
   have H8:=veil (And.intro (H7.out.1.trans (hX16.trans hEz)) (And.intro (hEz.block hK17) (H7.out.2.2.ext (hX16.trans hEz))))
   clear hQ' hEz hK17 hX16 hE15 hK13 hX12 hB11 hG9 hh8 hK7 hX6 hE5 hX3 hE2 hX0 H7 HG
   go_upto_region 5 with (fail)
   rcases HW.out with ⟨rfl,hd⟩ | ⟨rfl,hd,hs⟩ | ⟨rfl,hd,hs⟩
   ·
    clear HW
    have HD:=veil hd
    clear hd
    go_wp2
    go_ret2
    exact ⟨_,_,rfl,H8.out.1,.inl ⟨by rw [show lowL.md D = mayB D from rfl,HD.out,Bool.and_false],⟨none,0,rfl⟩,rfl⟩⟩
   ·
    have HD:=veil (And.intro hd hs)
    clear hd hs HW
    go_wp2
    go_ret2
    exact ⟨_,_,rfl,H8.out.1,.inr (.inl ⟨HM.out,HD.out.1,HD.out.2,⟨none,0,rfl⟩,rfl⟩)⟩
   ·
    have HD:=veil (And.intro hd hs)
    clear hd hs HW
    go_upto_region 7 with (fail)
    go_wp2_with (first
     | ((with_reducible refine zas 28 ?_); refine wpList_load_row rfl 39 _ rfl g8 rfl 39 (gc r s) (0,0) _ H8.out.2.1 Tryz.underlying39 rfl (iSg r s) ?_)
     | (go_at_call 27; refine (KBy.out _).mono ?_; rintro e wb ⟨A4,c4,rfl,hc4,hB4,hF4,hEb⟩)
     | (go_at_call 23; refine (zfz _ [tkB t,sigB r s] (show (2 : Nat) ≤ 64 by decide) _ (vs_pair (zbt t) (zcv r s) (zar wb _) ⟨HA.out,(H8.out.2.2.ext hEb).ext (Ext.alloc wb _)⟩ ⟨hc4,hB4.ext (Ext.alloc wb _)⟩)).mono ?_; rintro e wp ⟨x,ev,rfl,hEp,hP⟩))
    have hEnd : Ext w wp:=H8.out.1.trans (hEb.trans ((Ext.alloc wb _).trans hEp))
    have hIs:=issue_end (L:=lowL) HM.out HD.out.1 HD.out.2 hP
    clear hP hEp hEb hB4 hF4 hc4
    go_ret2
    exact ⟨_,_,rfl,hEnd,hIs⟩
  ·
   show One _ _ _ _ _ _ _ _
   refine one_alloc (C:=Z8) (t:=39) _ rfl rfl rfl (fun _ => rfl) ?_
   intro g8 wv18 hh22 hK21 hE19
   simp only [aP,lA,lZ,lS]
   have hX20:=hX0.trans hE19
   have hG23 : w3.heap.size ≤ g8:=Nat.le_trans (Below.size hX0) hh22
   show One _ _ _ _ _ _ _ _ ∧ One _ _ _ _ _ _ _ _
   refine ⟨?_,?_⟩
   ·
    show One _ _ _ _ _ _ _ _
    refine zhp (v:=ev) _ rfl rfl rfl (fun W _ => rfl) ?_
    intro wv24 hE25
    simp only [aP,lA,lZ,lS]
    have hX26:=hX20.trans hE25
    have hK27:=hE25.block hK21
    show One _ _ _ _ _ _ _ _
    refine one_store (cells:=gc r s) _ rfl rfl rfl rfl (by decide) rfl rfl hK27 (iSg r s) rfl (zcf r s) ?_
    intro wv28 hB29 hK31
    have hX30 : Ext w3 wv28:=Below.trans hX26 (hB29.new hG23 (Below.size hX26))
    show One _ _ _ _ _ _ _ _
    refine zhp (v:=ev) _ rfl rfl rfl (fun W _ => rfl) ?_
    intro wv32 hE33
    simp only [aP,lA,lZ,lS]
    have hX34:=hX30.trans hE33
    have hK35:=hE33.block hK31
    refine tr_end hQ' fun wz hEz => ?_
    have H8:=veil (And.intro (H7.out.1.trans (hX34.trans hEz)) (And.intro (hEz.block hK35) (H7.out.2.2.ext (hX34.trans hEz))))
    clear hQ' hEz hK35 hX34 hE33 hK31 hX30 hB29 hK27 hX26 hE25 hG23 hh22 hK21 hX20 hE19 hX0 H7 HG
    go_upto_region 5 with (fail)
    rcases HW.out with ⟨rfl,hd⟩ | ⟨rfl,hd,hs⟩ | ⟨rfl,hd,hs⟩
    ·
     clear HW
     have HD:=veil hd
     clear hd
     go_wp2
     go_ret2
     exact ⟨_,_,rfl,H8.out.1,.inl ⟨by rw [show lowL.md D = mayB D from rfl,HD.out,Bool.and_false],⟨none,0,rfl⟩,rfl⟩⟩
    ·
     have HD:=veil (And.intro hd hs)
     clear hd hs HW
     go_wp2
     go_ret2
     exact ⟨_,_,rfl,H8.out.1,.inr (.inl ⟨HM.out,HD.out.1,HD.out.2,⟨none,0,rfl⟩,rfl⟩)⟩
    ·
     have HD:=veil (And.intro hd hs)
     clear hd hs HW
     go_upto_region 7 with (fail)
     go_wp2_with (first
      | ((with_reducible refine zas 28 ?_); refine wpList_load_row rfl 39 _ rfl g8 rfl 39 (gc r s) (0,0) _ H8.out.2.1 Tryz.underlying39 rfl (iSg r s) ?_)
      | (go_at_call 27; refine (KBy.out _).mono ?_; rintro e wb ⟨A4,c4,rfl,hc4,hB4,hF4,hEb⟩)
      | (go_at_call 23; refine (zfz _ [tkB t,sigB r s] (show (2 : Nat) ≤ 64 by decide) _ (vs_pair (zbt t) (zcv r s) (zar wb _) ⟨HA.out,(H8.out.2.2.ext hEb).ext (Ext.alloc wb _)⟩ ⟨hc4,hB4.ext (Ext.alloc wb _)⟩)).mono ?_; rintro e wp ⟨x,ev,rfl,hEp,hP⟩))
     have hEnd : Ext w wp:=H8.out.1.trans (hEb.trans ((Ext.alloc wb _).trans hEp))
     have hIs:=issue_end (L:=lowL) HM.out HD.out.1 HD.out.2 hP
     clear hP hEp hEb hB4 hF4 hc4
     go_ret2
     exact ⟨_,_,rfl,hEnd,hIs⟩
   ·
    show One _ _ _ _ _ _ _ _
    refine one_store (cells:=gc r s) _ rfl rfl rfl rfl (by decide) rfl rfl hK21 (iSg r s) rfl (zcf r s) ?_
    intro wv36 hB37 hK39
    have hX38 : Ext w3 wv36:=Below.trans hX20 (hB37.new hG23 (Below.size hX20))
    show One _ _ _ _ _ _ _ _
    refine zhp (v:=ev) _ rfl rfl rfl (fun W _ => rfl) ?_
    intro wv40 hE41
    simp only [aP,lA,lZ,lS]
    have hX42:=hX38.trans hE41
    have hK43:=hE41.block hK39
    show One _ _ _ _ _ _ _ _
    refine zhp (v:=ev) _ rfl rfl rfl (fun W _ => rfl) ?_
    intro wv44 hE45
    simp only [aP,lA,lZ,lS]
    have hX46:=hX42.trans hE45
    have hK47:=hE45.block hK43
    refine tr_end hQ' fun wz hEz => ?_
    have H8:=veil (And.intro (H7.out.1.trans (hX46.trans hEz)) (And.intro (hEz.block hK47) (H7.out.2.2.ext (hX46.trans hEz))))
    clear hQ' hEz hK47 hX46 hE45 hK43 hX42 hE41 hK39 hX38 hB37 hG23 hh22 hK21 hX20 hE19 hX0 H7 HG
    go_upto_region 5 with (fail)
    rcases HW.out with ⟨rfl,hd⟩ | ⟨rfl,hd,hs⟩ | ⟨rfl,hd,hs⟩
    ·
     clear HW
     have HD:=veil hd
     clear hd
     go_wp2
     go_ret2
     exact ⟨_,_,rfl,H8.out.1,.inl ⟨by rw [show lowL.md D = mayB D from rfl,HD.out,Bool.and_false],⟨none,0,rfl⟩,rfl⟩⟩
    ·
     have HD:=veil (And.intro hd hs)
     clear hd hs HW
     go_wp2
     go_ret2
     exact ⟨_,_,rfl,H8.out.1,.inr (.inl ⟨HM.out,HD.out.1,HD.out.2,⟨none,0,rfl⟩,rfl⟩)⟩
    ·
     have HD:=veil (And.intro hd hs)
     clear hd hs HW
     go_upto_region 7 with (fail)
     go_wp2_with (first
      | ((with_reducible refine zas 28 ?_); refine wpList_load_row rfl 39 _ rfl g8 rfl 39 (gc r s) (0,0) _ H8.out.2.1 Tryz.underlying39 rfl (iSg r s) ?_)
      | (go_at_call 27; refine (KBy.out _).mono ?_; rintro e wb ⟨A4,c4,rfl,hc4,hB4,hF4,hEb⟩)
      | (go_at_call 23; refine (zfz _ [tkB t,sigB r s] (show (2 : Nat) ≤ 64 by decide) _ (vs_pair (zbt t) (zcv r s) (zar wb _) ⟨HA.out,(H8.out.2.2.ext hEb).ext (Ext.alloc wb _)⟩ ⟨hc4,hB4.ext (Ext.alloc wb _)⟩)).mono ?_; rintro e wp ⟨x,ev,rfl,hEp,hP⟩))
     have hEnd : Ext w wp:=H8.out.1.trans (hEb.trans ((Ext.alloc wb _).trans hEp))
     have hIs:=issue_end (L:=lowL) HM.out HD.out.1 HD.out.2 hP
     clear hP hEp hEb hB4 hF4 hc4
     go_ret2
     exact ⟨_,_,rfl,hEnd,hIs⟩
theorem kt_ext (w w' : World) (h : KT w) (k : Ext w w') : KT w':=zff h k
theorem code9 (C : CodeL) : Code9 lowL KT where
 keep:=kt_ext
 body:=zhg
 issue:=fun t D w hK hD => issue9_calls C t D w hK hD
 open_nil:=open_nil_calls
 open_:=fun A m c bs w hm hmc hle hS => open9_calls C A m c bs hm hmc (Nat.le_trans hle (by decide)) w hS
 check:=fun X Y f A m c bs w hK hX hY hm hmc hle hS => check9_calls C X Y f hX hY A m c bs hm hmc (Nat.le_trans hle (by decide)) w hK hS
 pub:=fun D w h => C.pub D w h
 on:=fun D w h => C.on D w h
theorem fsub2_calls (b X Y M : Nat) (N : Int) (Q Z : Nat) (hX : X < top) (hY : Y < top) (hK : Fok M N Q) (hZ : (X % M + M - Y % M) % M = Z) (w : World) (hF : Fb w b M N Q) :
  Calls Tryz.prog 105 #[.pointer (some ⟨b,0,none⟩),.agg #[vI vU (wd X 0),vI vU (wd X 1),vI vU (wd X 2),vI vU (wd X 3)],.agg #[vI vU (wd Y 0),vI vU (wd Y 1),vI vU (wd Y 2),vI vU (wd Y 3)]] w fun e w' => e = .returned (.agg #[vI vU (wd Z 0),vI vU (wd Z 1),vI vU (wd Z 2),vI vU (wd Z 3)]) ∧ Below w.heap.size w w':=by
 have hM0 : 0 < M:=by have:=hK.m2; omega
 have hX2:=Nat.mod_lt X hM0
 have hY2:=Nat.mod_lt Y hM0
 have K3:=veil (fun W (h : Fb W b M N Q) => zii b (X % M) (Y % M) M N Q Z hX2 hY2 hK.mt hZ W h)
 have HK:=veil hK
 clear hK hZ hM0 hX2 hY2
 have hA : (((w.alloc (.cells #[vI vU (wd X 0),vI vU (wd X 1),vI vU (wd X 2),vI vU (wd X 3)] 26)).alloc (.cells #[vI vU (wd Y 0),vI vU (wd Y 1),vI vU (wd Y 2),vI vU (wd Y 3)] 26)).alloc (.cells #[vI vU 0,vI vU 0,vI vU 0,vI vU 0] 26)).rowIs w.heap.size 26 4 (fun j => .int .u64 (wd X j)):=((zan (n:=4) (by simp) rfl (arr4 fun j => .int .u64 (wd X j))).alloc _).alloc _
 have hB : (((w.alloc (.cells #[vI vU (wd X 0),vI vU (wd X 1),vI vU (wd X 2),vI vU (wd X 3)] 26)).alloc (.cells #[vI vU (wd Y 0),vI vU (wd Y 1),vI vU (wd Y 2),vI vU (wd Y 3)] 26)).alloc (.cells #[vI vU 0,vI vU 0,vI vU 0,vI vU 0] 26)).rowIs (w.heap.size + 1) 26 4 (fun j => .int .u64 (wd Y j)):=(zan (n:=4) (by simp) rfl (arr4 fun j => .int .u64 (wd Y j))).alloc _
 have hR : (((w.alloc (.cells #[vI vU (wd X 0),vI vU (wd X 1),vI vU (wd X 2),vI vU (wd X 3)] 26)).alloc (.cells #[vI vU (wd Y 0),vI vU (wd Y 1),vI vU (wd Y 2),vI vU (wd Y 3)] 26)).alloc (.cells #[vI vU 0,vI vU 0,vI vU 0,vI vU 0] 26)).rowIs (w.heap.size + 1 + 1) 26 4 (fun _ => .int .u64 0):=zan (n:=4) (by simp) rfl (arr4 fun _ => .int .u64 0)
 have hbel : Below w.heap.size w (((w.alloc (.cells #[vI vU (wd X 0),vI vU (wd X 1),vI vU (wd X 2),vI vU (wd X 3)] 26)).alloc (.cells #[vI vU (wd Y 0),vI vU (wd Y 1),vI vU (wd Y 2),vI vU (wd Y 3)] 26)).alloc (.cells #[vI vU 0,vI vU 0,vI vU 0,vI vU 0] 26)):=(((Below.refl _ _).alloc (by simp) _).alloc (by simp) _).alloc (by simp; omega) _
 have hFr : Fb (((w.alloc (.cells #[vI vU (wd X 0),vI vU (wd X 1),vI vU (wd X 2),vI vU (wd X 3)] 26)).alloc (.cells #[vI vU (wd Y 0),vI vU (wd Y 1),vI vU (wd Y 2),vI vU (wd Y 3)] 26)).alloc (.cells #[vI vU 0,vI vU 0,vI vU 0,vI vU 0] 26)) b M N Q:=(((hF).alloc _).alloc _).alloc _
 have hbs:=hF.lt
 clear hF
 go_enter Tryz.func105,Tryz.ntmps105
 go_wp2_with fail
 generalize (((w.alloc (.cells #[vI vU (wd X 0),vI vU (wd X 1),vI vU (wd X 2),vI vU (wd X 3)] 26)).alloc (.cells #[vI vU (wd Y 0),vI vU (wd Y 1),vI vU (wd Y 2),vI vU (wd Y 3)] 26)).alloc (.cells #[vI vU 0,vI vU 0,vI vU 0,vI vU 0] 26)) = w0 at *
 obtain ⟨a0,a1,a2,a3⟩:=zai hA
 obtain ⟨b0,b1,b2,b3⟩:=zai hB
 obtain ⟨f0,f1,f2,f3⟩:=zax hR
 obtain ⟨d0,d1,d2,d3⟩:=zai hR
 go_region_with (first
  | (go_at_call 143; refine (fcut_calls b _ M N Q _ (by assumption) HK.out rfl _ (by exact hFr)).mono ?_; rintro e w1 ⟨rfl,hb1⟩; replace hB:=zag (by exact hB) hb1 (by exact hB.lt); replace hA:=zag (by exact hA) hb1 (by exact hA.lt); replace hR:=zag (by exact hR) hb1 (by exact hR.lt); replace hFr:=Fb.below (by exact hFr) hb1 (by exact hFr.lt); replace hbel:=Below.trans (by first | exact hbel | exact hbel.drew) (hb1.mono (by exact hbel.size)); obtain ⟨b0,b1,b2,b3⟩:=zai hB; obtain ⟨a0,a1,a2,a3⟩:=zai hA)
  | (go_at_call 133; refine (K3.out _ (by exact hFr)).mono ?_; rintro e w3 ⟨rfl,hb3⟩; replace hR:=zag (by exact hR) hb3 (by exact hR.lt); replace hFr:=Fb.below (by exact hFr) hb3 (by exact hFr.lt); replace hbel:=Below.trans (by first | exact hbel | exact hbel.drew) (hb3.mono (by exact hbel.size)); obtain ⟨f0,f1,f2,f3⟩:=zax hR; obtain ⟨d0,d1,d2,d3⟩:=zai hR))
 all_goals
  clear a0 a1 a2 a3 b0 b1 b2 b3 f0 f1 f2 f3 d0 d1 d2 d3
  go_wp2
  refine bodyPost_ret (results_cell_row rfl _ _ (w.heap.size + 1 + 1) 26 #[vI vU (wd Z 0),vI vU (wd Z 1),vI vU (wd Z 2),vI vU (wd Z 3)] (0,0) _ rfl (blk4 (put4 hR fun j => .int .u64 (wd (Z) j))) Tryz.underlying26 rfl (by kernel_rfl)) rfl ⟨rfl,zau hbel (by omega) _ _ _ _⟩
theorem fmul2_calls (b X Y M : Nat) (N : Int) (Q Z : Nat) (hX : X < top) (hY : Y < top) (hK : Fok M N Q) (hZ : X * Y % M = Z) (w : World) (hF : Fb w b M N Q) :
  Calls Tryz.prog 89 #[.pointer (some ⟨b,0,none⟩),.agg #[vI vU (wd X 0),vI vU (wd X 1),vI vU (wd X 2),vI vU (wd X 3)],.agg #[vI vU (wd Y 0),vI vU (wd Y 1),vI vU (wd Y 2),vI vU (wd Y 3)]] w fun e w' => e = .returned (.agg #[vI vU (wd Z 0),vI vU (wd Z 1),vI vU (wd Z 2),vI vU (wd Z 3)]) ∧ Below w.heap.size w w':=by
 have K1:=veil (fun W => kmul X Y _ rfl hX hY W)
 have K2:=veil (fun W (h : Fb W b M N Q) => cutw_calls b (X * Y) M N Q Z (mul_lt8 hX hY) hK hZ W h)
 clear hX hY hK hZ
 generalize X * Y = P at *
 have hA : (((w.alloc (.cells #[vI vU (wd X 0),vI vU (wd X 1),vI vU (wd X 2),vI vU (wd X 3)] 26)).alloc (.cells #[vI vU (wd Y 0),vI vU (wd Y 1),vI vU (wd Y 2),vI vU (wd Y 3)] 26)).alloc (.cells #[vI vU 0,vI vU 0,vI vU 0,vI vU 0] 26)).rowIs w.heap.size 26 4 (fun j => .int .u64 (wd X j)):=((zan (n:=4) (by simp) rfl (arr4 fun j => .int .u64 (wd X j))).alloc _).alloc _
 have hB : (((w.alloc (.cells #[vI vU (wd X 0),vI vU (wd X 1),vI vU (wd X 2),vI vU (wd X 3)] 26)).alloc (.cells #[vI vU (wd Y 0),vI vU (wd Y 1),vI vU (wd Y 2),vI vU (wd Y 3)] 26)).alloc (.cells #[vI vU 0,vI vU 0,vI vU 0,vI vU 0] 26)).rowIs (w.heap.size + 1) 26 4 (fun j => .int .u64 (wd Y j)):=(zan (n:=4) (by simp) rfl (arr4 fun j => .int .u64 (wd Y j))).alloc _
 have hR : (((w.alloc (.cells #[vI vU (wd X 0),vI vU (wd X 1),vI vU (wd X 2),vI vU (wd X 3)] 26)).alloc (.cells #[vI vU (wd Y 0),vI vU (wd Y 1),vI vU (wd Y 2),vI vU (wd Y 3)] 26)).alloc (.cells #[vI vU 0,vI vU 0,vI vU 0,vI vU 0] 26)).rowIs (w.heap.size + 1 + 1) 26 4 (fun _ => .int .u64 0):=zan (n:=4) (by simp) rfl (arr4 fun _ => .int .u64 0)
 have hbel : Below w.heap.size w (((w.alloc (.cells #[vI vU (wd X 0),vI vU (wd X 1),vI vU (wd X 2),vI vU (wd X 3)] 26)).alloc (.cells #[vI vU (wd Y 0),vI vU (wd Y 1),vI vU (wd Y 2),vI vU (wd Y 3)] 26)).alloc (.cells #[vI vU 0,vI vU 0,vI vU 0,vI vU 0] 26)):=(((Below.refl _ _).alloc (by simp) _).alloc (by simp) _).alloc (by simp; omega) _
 have hFr : Fb (((w.alloc (.cells #[vI vU (wd X 0),vI vU (wd X 1),vI vU (wd X 2),vI vU (wd X 3)] 26)).alloc (.cells #[vI vU (wd Y 0),vI vU (wd Y 1),vI vU (wd Y 2),vI vU (wd Y 3)] 26)).alloc (.cells #[vI vU 0,vI vU 0,vI vU 0,vI vU 0] 26)) b M N Q:=(((hF).alloc _).alloc _).alloc _
 have hbs:=hF.lt
 clear hF
 go_enter Tryz.func89,Tryz.ntmps89
 obtain ⟨a0,a1,a2,a3⟩:=zai hA
 obtain ⟨b0,b1,b2,b3⟩:=zai hB
 go_wp2_with fail
 refine (K1.out _).mono ?_
 rintro e w1 ⟨rfl,hb1⟩
 replace hR:=zag (by exact hR) hb1 (by exact hR.lt)
 replace hFr:=Fb.below (by exact hFr) hb1 (by exact hFr.lt)
 replace hbel:=Below.trans (by first | exact hbel | exact hbel.drew) (hb1.mono (by exact hbel.size))
 clear a0 a1 a2 a3 b0 b1 b2 b3 hA hB hb1
 go_wp2_with fail
 refine (K2.out _ hFr).mono ?_
 rintro e w2 ⟨rfl,hb2⟩
 replace hR:=zag (by exact hR) hb2 (by exact hR.lt)
 replace hFr:=Fb.below (by exact hFr) hb2 (by exact hFr.lt)
 replace hbel:=Below.trans (by first | exact hbel | exact hbel.drew) (hb2.mono (by exact hbel.size))
 clear hb2 hFr
 obtain ⟨f0,f1,f2,f3⟩:=zax hR
 obtain ⟨d0,d1,d2,d3⟩:=zai hR
 go_wp2
 refine bodyPost_ret (results_cell_row rfl _ _ (w.heap.size + 1 + 1) 26 #[vI vU (wd Z 0),vI vU (wd Z 1),vI vU (wd Z 2),vI vU (wd Z 3)] (0,0) _ rfl (blk4 (put4 hR fun j => .int .u64 (wd (Z) j))) Tryz.underlying26 rfl (by kernel_rfl)) rfl ⟨rfl,zau hbel (by omega) _ _ _ _⟩
def Fp (w : World) (b : Nat) : Prop:=∃ N Q,Fok Pt.pp N Q ∧ Fb w b Pt.pp N Q
theorem Fp.ext {w w' : World} {b : Nat} (h : Fp w b) (k : Ext w w') : Fp w' b:=by
 obtain ⟨N,Q,h1,h2⟩:=h
 exact ⟨N,Q,h1,h2.call k⟩
theorem Fp.lt {w : World} {b : Nat} (h : Fp w b) : b < w.heap.size:=by
 obtain ⟨N,Q,h1,h2⟩:=h
 exact h2.lt
abbrev Fe:=Fin Pt.pp
def sc (x y z : Nat) : Array Value:=#[vI vU (wd x 0),vI vU (wd x 1),vI vU (wd x 2),vI vU (wd x 3),vI vU (wd y 0),vI vU (wd y 1),vI vU (wd y 2),vI vU (wd y 3),vI vU (wd z 0),vI vU (wd z 1),vI vU (wd z 2),vI vU (wd z 3)]
def sv (x y z : Nat) : Value:=.agg (sc x y z)
def fv (k b : Nat) : Value:=.func (.func k) #[ptrTo b] #[]
def cc (b : Nat) : Array Value:=#[fv 104 b,fv 105 b,fv 89 b,fv 87 b]
def cv (b : Nat) : Value:=.agg (cc b)
theorem zez (x y z : Nat) : (sc x y z).all (·.oneCell') = true:=by simp [sc,Value.oneCell']
theorem cc_one (b : Nat) : (cc b).all (·.oneCell') = true:=by simp [cc,fv,Value.oneCell']
theorem iS (x y z : Nat) : (Tryz.prog.info? 146).map (·.size) = some (sc x y z).size:=by kernel_rfl
theorem iK (b : Nat) : (Tryz.prog.info? 103).map (·.size) = some (cc b).size:=by kernel_rfl
theorem zdy (x : Fe) : x.val < top:=Nat.lt_trans x.isLt zib
theorem fe_mod (x : Fe) : x.val % Pt.pp = x.val:=Nat.mod_eq_of_lt x.isLt
theorem kadd_p {b : Nat} {x y t : Fe} (ht : t = x + y) {w : World} (hF : Fp w b) : Calls Tryz.prog 104 #[ptrTo b,nv x.val,nv y.val] w fun e w' => e = .returned (nv t.val) ∧ Ext w w':=by
 obtain ⟨N,Q,h1,h2⟩:=hF
 exact zha b x.val y.val Pt.pp N Q t.val (zdy x) (zdy y) h1 (by rw [fe_mod,fe_mod,Pt.v_add,ht]) w h2
theorem zds {b : Nat} {x y t : Fe} (ht : t = x - y) {w : World} (hF : Fp w b) : Calls Tryz.prog 105 #[ptrTo b,nv x.val,nv y.val] w fun e w' => e = .returned (nv t.val) ∧ Ext w w':=by
 obtain ⟨N,Q,h1,h2⟩:=hF
 exact fsub2_calls b x.val y.val Pt.pp N Q t.val (zdy x) (zdy y) h1 (by rw [fe_mod,fe_mod,Pt.v_sub,ht]) w h2
theorem zbn {b : Nat} {x y t : Fe} (ht : t = x * y) {w : World} (hF : Fp w b) : Calls Tryz.prog 89 #[ptrTo b,nv x.val,nv y.val] w fun e w' => e = .returned (nv t.val) ∧ Ext w w':=by
 obtain ⟨N,Q,h1,h2⟩:=hF
 exact fmul2_calls b x.val y.val Pt.pp N Q t.val (zdy x) (zdy y) h1 (by rw [Pt.v_mul,ht]) w h2
theorem kinv_p {b : Nat} {x t : Fe} (hx : x ≠ 0) (ht : t = Pt.E256.inv x) {w : World} (hF : Fp w b) : Calls Tryz.prog 87 #[ptrTo b,nv x.val] w fun e w' => e = .returned (.tuple #[nv t.val,.nilIface]) ∧ Ext w w':=by
 obtain ⟨N,Q,h1,h2⟩:=hF
 refine (zij b x.val Pt.pp N Q (zdy x) h1 w h2).mono ?_
 rintro e w' ⟨⟨y,hy,hi,rfl⟩,hb⟩
 have hg:=Pt.v_gcd hx
 rw [zih hg,Pt.v_inv hy (hi hg),ht]
 exact ⟨rfl,hb⟩
theorem kinv_z {b : Nat} {w : World} (hF : Fp w b) : Calls Tryz.prog 87 #[ptrTo b,nv 0] w fun e w' => e = .returned (.tuple #[nv 0,.iface 35 (.int .i64 4)]) ∧ Ext w w':=by
 obtain ⟨N,Q,h1,h2⟩:=hF
 refine (zij b 0 Pt.pp N Q (Nat.two_pow_pos 256) h1 w h2).mono ?_
 rintro e w' ⟨⟨y,hy,hi,rfl⟩,hb⟩
 have hg : ¬ Nat.gcd 0 Pt.pp = 1:=by rw [Nat.gcd_zero_left]; decide +kernel
 rw [invRet_no hg]
 exact ⟨rfl,hb⟩
/-! ### operations -/
section
variable {P : Program} {o : Oper} {a : Act} {w : World}
end
theorem zap (W : World) : (isAgg 77).run Tryz.prog W = .ok false W:=by simp [isAgg,go_sem]
theorem isn_inv (W : World) : (isAgg 101).run Tryz.prog W = .ok false W:=by simp [isAgg,go_sem]
section
variable (g : Nat) (W : World)
theorem fldK0 : (Instr.fieldAt 103 (ptrTo g) 0).run Tryz.prog W = .ok (.pointer (some ⟨g,0,none⟩)) W:=by simp [Instr.fieldAt,go_sem]
theorem fldK1 : (Instr.fieldAt 103 (ptrTo g) 1).run Tryz.prog W = .ok (.pointer (some ⟨g,1,none⟩)) W:=by simp [Instr.fieldAt,go_sem]
theorem fldK2 : (Instr.fieldAt 103 (ptrTo g) 2).run Tryz.prog W = .ok (.pointer (some ⟨g,2,none⟩)) W:=by simp [Instr.fieldAt,go_sem]
theorem fldK3 : (Instr.fieldAt 103 (ptrTo g) 3).run Tryz.prog W = .ok (.pointer (some ⟨g,3,none⟩)) W:=by simp [Instr.fieldAt,go_sem]
theorem fldS0 : (Instr.fieldAt 146 (ptrTo g) 0).run Tryz.prog W = .ok (.pointer (some ⟨g,0,none⟩)) W:=by simp [Instr.fieldAt,go_sem]
theorem fldS1 : (Instr.fieldAt 146 (ptrTo g) 1).run Tryz.prog W = .ok (.pointer (some ⟨g,4,none⟩)) W:=by simp [Instr.fieldAt,go_sem]
theorem fldS2 : (Instr.fieldAt 146 (ptrTo g) 2).run Tryz.prog W = .ok (.pointer (some ⟨g,8,none⟩)) W:=by simp [Instr.fieldAt,go_sem]
theorem hzS : (Instr.alloc 146 true (.tuple #[])).run Tryz.prog W = .ok (ptrTo W.heap.size) (W.alloc (.cells #[vI vU 0,vI vU 0,vI vU 0,vI vU 0,vI vU 0,vI vU 0,vI vU 0,vI vU 0,vI vU 0,vI vU 0,vI vU 0,vI vU 0] 146)):=by simp [Instr.alloc,go_sem]
theorem hzK : (Instr.alloc 103 true (.tuple #[])).run Tryz.prog W = .ok (ptrTo W.heap.size) (W.alloc (.cells #[.nilFunc,.nilFunc,.nilFunc,.nilFunc] 103)):=by simp [Instr.alloc,go_sem]
theorem bldS (x y z : Nat) : (Instr.build 146 [(0,nv x),(1,nv y),(2,nv z)].toArray).run Tryz.prog W = .ok (sv x y z) W:=by simp [Instr.build,go_sem,nv,nc,sv,sc]
theorem bldK (b : Nat) : (Instr.build 103 [(0,fv 104 b),(1,fv 105 b),(2,fv 89 b),(3,fv 87 b)].toArray).run Tryz.prog W = .ok (cv b) W:=by simp [Instr.build,go_sem,fv,cv,cc]
theorem bldS0 : (Instr.build 146 [].toArray).run Tryz.prog W = .ok (sv 0 0 0) W:=by
 obtain ⟨h0,h1,h2,h3⟩:=wd_z
 unfold sv sc
 rw [h0,h1,h2,h3]
 simp [Instr.build,go_sem]
theorem bldGx : (Instr.build 26 [(0,.int .u64 17627433388654248598),(1,.int .u64 8575836109218198432),(2,.int .u64 17923454489921339634),(3,.int .u64 7716867327612699207)].toArray).run Tryz.prog W = .ok (nv Pt.gx) W:=by
 obtain ⟨h0,h1,h2,h3⟩:=gx_lits
 unfold nv nc
 rw [h0,h1,h2,h3]
 simp [Instr.build,go_sem]
theorem bldGy : (Instr.build 26 [(0,.int .u64 14678990851816772085),(1,.int .u64 3156516839386865358),(2,.int .u64 10297457778147434006),(3,.int .u64 5756518291402817435)].toArray).run Tryz.prog W = .ok (nv Pt.gy) W:=by
 obtain ⟨h0,h1,h2,h3⟩:=gy_lits
 unfold nv nc
 rw [h0,h1,h2,h3]
 simp [Instr.build,go_sem]
end
theorem he_kAdd (args : Array Value) (W : World) : (callFunc 104 args).run Tryz.prog W = .ok (.enter 104 args) W:=zab Tryz.func104 rfl rfl args W
theorem zcx (args : Array Value) (W : World) : (callFunc 105 args).run Tryz.prog W = .ok (.enter 105 args) W:=zab Tryz.func105 rfl rfl args W
theorem zbg (args : Array Value) (W : World) : (callFunc 89 args).run Tryz.prog W = .ok (.enter 89 args) W:=zab Tryz.func89 rfl rfl args W
theorem he_kInv (args : Array Value) (W : World) : (callFunc 87 args).run Tryz.prog W = .ok (.enter 87 args) W:=zab Tryz.func87 rfl rfl args W
theorem zdn {b : Nat} {x t : Fe} (ht : t = x + x) {w : World} (hF : Fp w b) :
  Calls Tryz.prog 140 #[cv b,nv x.val] w fun e w' => e = .returned (nv t.val) ∧ Ext w w':=by
 have kt:=veil ht
 clear ht
 unfold cv nv cc fv nc
 go_enter Tryz.func140,Tryz.ntmps140
 go_upto_region 1 with (fail)
 refine zcs fun w1 hx b0 b1 b2 => ?_
 have b0 : w1.heap[w.heap.size]? = some (.cells (cc b) 103 (0,0)):=b0
 have b1 : w1.heap[w.heap.size + 1]? = some (.cells (nc x.val) 26 (0,0)):=b1
 have hf:=hF.ext hx
 clear hF
 refine' zak (m:=5) (A:=_) (by kernel_rfl) ?h1 ?h2
 case h1 =>
  refine zaa (ptrTo w.heap.size) rfl (zad rfl rfl (fldK0 _ ·)) ?_
  refine zaa (fv 104 b) rfl (zae rfl rfl b0 rfl (zap ·)) ?_;simp only [aP,lA,lZ,lS]
  refine zaa (nv x.val) rfl (zac rfl rfl b1 rfl uN rfl (iN _)) ?_
  refine zaa (nv x.val) rfl (zac rfl rfl b1 rfl uN rfl (iN _)) ?_;simp only [aP,lA,lZ,lS]
  refine zaa (nv t.val) rfl (zat (args:=[nv x.val,nv x.val]) rfl rfl rfl (he_kAdd _ ·) (fun W hW => kadd_p kt.out (hf.ext hW))) ?_;simp only [aP,lA,lZ,lS]
  exact zaj
 refine zbk _ rfl rfl rfl rfl rfl rfl b2 (iN _) rfl (zbf _) ?_
 intro w2 hB hb
 go_wp2
 exact bodyPost_ret (results_cell_row rfl _ _ (w.heap.size + 1 + 1) 26 (nc t.val) (0,0) _ rfl hb Tryz.underlying26 rfl (by kernel_rfl)) rfl ⟨rfl,hx.new hB (by omega)⟩
theorem trp_calls {b : Nat} {x t : Fe} (ht : t = x + x + x) {w : World} (hF : Fp w b) :
  Calls Tryz.prog 107 #[cv b,nv x.val] w fun e w' => e = .returned (nv t.val) ∧ Ext w w':=by
 obtain ⟨y,hy⟩ : ∃ t : Fe,t = x + x:=⟨_,rfl⟩
 rw [← hy] at ht
 have ky:=veil hy
 clear hy
 have kt:=veil ht
 clear ht
 unfold cv nv cc fv nc
 go_enter Tryz.func107,Tryz.ntmps107
 go_upto_region 1 with (fail)
 refine zcs fun w1 hx b0 b1 b2 => ?_
 have b0 : w1.heap[w.heap.size]? = some (.cells (cc b) 103 (0,0)):=b0
 have b1 : w1.heap[w.heap.size + 1]? = some (.cells (nc x.val) 26 (0,0)):=b1
 have hf:=hF.ext hx
 clear hF
 refine' zbr (m:=7) (A:=_) 7 (by kernel_rfl) (by kernel_rfl) (by kernel_rfl) ?h1 ?h2
 case h1 =>
  refine zaa (ptrTo w.heap.size) rfl (zad rfl rfl (fldK0 _ ·)) ?_
  refine zaa (fv 104 b) rfl (zae rfl rfl b0 rfl (zap ·)) ?_;simp only [aP,lA,lZ,lS]
  refine zaa (cv b) rfl (zac rfl rfl b0 rfl Tryz.underlying103 rfl (iK _)) ?_
  refine zaa (nv x.val) rfl (zac rfl rfl b1 rfl uN rfl (iN _)) ?_;simp only [aP,lA,lZ,lS]
  refine zaa (nv y.val) rfl (zaf (args:=[cv b,nv x.val]) rfl rfl (fun W => zab Tryz.func140 rfl rfl _ W) (fun W hW => zdn ky.out (hf.ext hW))) ?_
  refine zaa (nv x.val) rfl (zac rfl rfl b1 rfl uN rfl (iN _)) ?_;simp only [aP,lA,lZ,lS]
  refine zaa (nv t.val) rfl (zat (args:=[nv y.val,nv x.val]) rfl rfl rfl (he_kAdd _ ·) (fun W hW => kadd_p kt.out (hf.ext hW))) ?_;simp only [aP,lA,lZ,lS]
  exact zaj
 refine zgb _ rfl rfl rfl rfl rfl (by kernel_rfl) (by kernel_rfl) rfl rfl rfl b2 (iN _) rfl (zbf _) ?_
 intro w2 hB hb
 refine NoPanic.normal ?_
 go_wp2
 exact bodyPost_ret (results_cell_row rfl _ _ (w.heap.size + 1 + 1) 26 (nc t.val) (0,0) _ rfl hb Tryz.underlying26 rfl (by kernel_rfl)) rfl ⟨rfl,hx.new hB (by omega)⟩
def twice3 (x y z : Fe) : Fe × Fe × Fe :=
 let zz : Fe:=z * z
 let yy : Fe:=y * y
 let s : Fe:=x - zz
 let u : Fe:=x + zz
 let su : Fe:=s * u
 let m : Fe:=su + su + su
 let q : Fe:=x * yy
 let q2 : Fe:=q + q
 let cr : Fe:=q2 + q2
 let mm : Fe:=m * m
 let c2 : Fe:=cr + cr
 let X : Fe:=mm - c2
 let e : Fe:=yy * yy
 let e2 : Fe:=e + e
 let e4 : Fe:=e2 + e2
 let tl : Fe:=e4 + e4
 let d : Fe:=cr - X
 let md : Fe:=m * d
 let Y : Fe:=md - tl
 let yz : Fe:=y * z
 let Z : Fe:=yz + yz
 (X,Y,Z)
theorem twice_calls {b : Nat} (x y z : Fe) {w : World} (hF : Fp w b) :
  Calls Tryz.prog 98 #[cv b,sv x.val y.val z.val] w fun e w' => e = .returned (sv (twice3 x y z).1.val (twice3 x y z).2.1.val (twice3 x y z).2.2.val) ∧ Ext w w':=by
 obtain ⟨zz,hzz⟩ : ∃ t : Fe,t = z * z:=⟨_,rfl⟩
 obtain ⟨yy,hyy⟩ : ∃ t : Fe,t = y * y:=⟨_,rfl⟩
 obtain ⟨s,hs⟩ : ∃ t : Fe,t = x - zz:=⟨_,rfl⟩
 obtain ⟨u,hu⟩ : ∃ t : Fe,t = x + zz:=⟨_,rfl⟩
 obtain ⟨su,hsu⟩ : ∃ t : Fe,t = s * u:=⟨_,rfl⟩
 obtain ⟨m,hm⟩ : ∃ t : Fe,t = su + su + su:=⟨_,rfl⟩
 obtain ⟨q,hq⟩ : ∃ t : Fe,t = x * yy:=⟨_,rfl⟩
 obtain ⟨q2,hq2⟩ : ∃ t : Fe,t = q + q:=⟨_,rfl⟩
 obtain ⟨cr,hcr⟩ : ∃ t : Fe,t = q2 + q2:=⟨_,rfl⟩
 obtain ⟨mm,hmm⟩ : ∃ t : Fe,t = m * m:=⟨_,rfl⟩
 obtain ⟨c2,hc2⟩ : ∃ t : Fe,t = cr + cr:=⟨_,rfl⟩
 obtain ⟨X,hX⟩ : ∃ t : Fe,t = mm - c2:=⟨_,rfl⟩
 obtain ⟨e,he⟩ : ∃ t : Fe,t = yy * yy:=⟨_,rfl⟩
 obtain ⟨e2,he2⟩ : ∃ t : Fe,t = e + e:=⟨_,rfl⟩
 obtain ⟨e4,he4⟩ : ∃ t : Fe,t = e2 + e2:=⟨_,rfl⟩
 obtain ⟨tl,htl⟩ : ∃ t : Fe,t = e4 + e4:=⟨_,rfl⟩
 obtain ⟨d,hd⟩ : ∃ t : Fe,t = cr - X:=⟨_,rfl⟩
 obtain ⟨md,hmd⟩ : ∃ t : Fe,t = m * d:=⟨_,rfl⟩
 obtain ⟨Y,hY⟩ : ∃ t : Fe,t = md - tl:=⟨_,rfl⟩
 obtain ⟨yz,hyz⟩ : ∃ t : Fe,t = y * z:=⟨_,rfl⟩
 obtain ⟨Z,hZ⟩ : ∃ t : Fe,t = yz + yz:=⟨_,rfl⟩
 have hfin : twice3 x y z = (X,Y,Z):=by
  subst hZ hyz hY hmd hd htl he4 he2 he hX hc2 hmm hcr hq2 hq hm hsu hu hs hyy hzz
  rfl
 rw [hfin]
 clear hfin
 have kzz:=veil hzz
 have kyy:=veil hyy
 have ks:=veil hs
 have ku:=veil hu
 have ksu:=veil hsu
 have km:=veil hm
 have kq:=veil hq
 have kq2:=veil hq2
 have kcr:=veil hcr
 have kmm:=veil hmm
 have kc2:=veil hc2
 have kX:=veil hX
 have ke:=veil he
 have ke2:=veil he2
 have ke4:=veil he4
 have ktl:=veil htl
 have kd:=veil hd
 have kmd:=veil hmd
 have kY:=veil hY
 have kyz:=veil hyz
 have kZ:=veil hZ
 clear hZ hyz hY hmd hd htl he4 he2 he hX hc2 hmm hcr hq2 hq hm hsu hu hs hyy hzz
 show Calls Tryz.prog 98 #[cv b,sv x.val y.val z.val] w fun e w' => e = .returned (sv X.val Y.val Z.val) ∧ Ext w w'
 unfold cv sv cc fv sc
 go_enter Tryz.func98,Tryz.ntmps98
 go_upto_region 1 with (fail)
 refine zcs fun w1 hx b0 b1 b2 => ?_
 have b0 : w1.heap[w.heap.size]? = some (.cells (cc b) 103 (0,0)):=b0
 have b1 : w1.heap[w.heap.size + 1]? = some (.cells (sc x.val y.val z.val) 146 (0,0)):=b1
 have hf:=hF.ext hx
 clear hF
 refine' zbr (m:=14) (A:=_) 16 (by kernel_rfl) (by kernel_rfl) (by kernel_rfl) ?h1 ?h2
 case h1 =>
  refine zaa (.pointer (some ⟨w.heap.size,2,none⟩)) rfl (zad rfl rfl (fldK2 _ ·)) ?_
  refine zaa (fv 89 b) rfl (zae rfl rfl b0 rfl (zap ·)) ?_;simp only [aP,lA,lZ,lS]
  refine zaa (.pointer (some ⟨w.heap.size + 1,8,none⟩)) rfl (zad rfl rfl (fldS2 _ ·)) ?_
  refine zaa (nv z.val) rfl (zac rfl rfl b1 rfl uN rfl (iN _)) ?_;simp only [aP,lA,lZ,lS]
  refine zaa (.pointer (some ⟨w.heap.size + 1,8,none⟩)) rfl (zad rfl rfl (fldS2 _ ·)) ?_
  refine zaa (nv z.val) rfl (zac rfl rfl b1 rfl uN rfl (iN _)) ?_;simp only [aP,lA,lZ,lS]
  refine zaa (nv zz.val) rfl (zat (args:=[nv z.val,nv z.val]) rfl rfl rfl (zbg _ ·) (fun W hW => zbn kzz.out (hf.ext hW))) ?_
  refine zaa (.pointer (some ⟨w.heap.size,2,none⟩)) rfl (zad rfl rfl (fldK2 _ ·)) ?_;simp only [aP,lA,lZ,lS]
  refine zaa (fv 89 b) rfl (zae rfl rfl b0 rfl (zap ·)) ?_
  refine zaa (.pointer (some ⟨w.heap.size + 1,4,none⟩)) rfl (zad rfl rfl (fldS1 _ ·)) ?_;simp only [aP,lA,lZ,lS]
  refine zaa (nv y.val) rfl (zac rfl rfl b1 rfl uN rfl (iN _)) ?_
  refine zaa (.pointer (some ⟨w.heap.size + 1,4,none⟩)) rfl (zad rfl rfl (fldS1 _ ·)) ?_;simp only [aP,lA,lZ,lS]
  refine zaa (nv y.val) rfl (zac rfl rfl b1 rfl uN rfl (iN _)) ?_
  refine zaa (nv yy.val) rfl (zat (args:=[nv y.val,nv y.val]) rfl rfl rfl (zbg _ ·) (fun W hW => zbn kyy.out (hf.ext hW))) ?_;simp only [aP,lA,lZ,lS]
  exact zaj
 refine rest_two _ _ _ _ rfl rfl rfl rfl rfl rfl rfl rfl rfl rfl rfl rfl rfl rfl rfl rfl rfl (by decide) (by kernel_rfl) (by kernel_rfl) (by kernel_rfl) (by kernel_rfl) (by kernel_rfl) (by kernel_rfl) (by kernel_rfl) (by kernel_rfl) (by kernel_rfl) (hzN ·) (fun _ _ => rfl) (fun _ _ => rfl) (fun _ _ => rfl) (fun _ _ => rfl) (iN _) (iN _) rfl rfl (zbf _) (zbf _) ?_
 intro gzz gyy w2 hgzz hgyy bzz byy hE
 refine NoPanic.normal ?_
 replace b0:=hE.block b0
 replace b1:=hE.block b1
 replace b2:=hE.block b2
 replace hf:=hf.ext hE
 replace hx:=hx.trans hE
 clear hE
 simp only [aP,lA,lZ,lS]
 clear hgzz hgyy
 go_upto_region 2 with (fail)
 refine' zbr (m:=17) (A:=_) 18 (by kernel_rfl) (by kernel_rfl) (by kernel_rfl) ?h2a ?h2b
 case h2a =>
  refine zaa (cv b) rfl (zac rfl rfl b0 rfl Tryz.underlying103 rfl (iK _)) ?_
  refine zaa (.pointer (some ⟨w.heap.size,2,none⟩)) rfl (zad rfl rfl (fldK2 _ ·)) ?_;simp only [aP,lA,lZ,lS]
  refine zaa (fv 89 b) rfl (zae rfl rfl b0 rfl (zap ·)) ?_
  refine zaa (.pointer (some ⟨w.heap.size,1,none⟩)) rfl (zad rfl rfl (fldK1 _ ·)) ?_;simp only [aP,lA,lZ,lS]
  refine zaa (fv 105 b) rfl (zae rfl rfl b0 rfl (zap ·)) ?_
  refine zaa (ptrTo (w.heap.size + 1)) rfl (zad rfl rfl (fldS0 _ ·)) ?_;simp only [aP,lA,lZ,lS]
  refine zaa (nv x.val) rfl (zac rfl rfl b1 rfl uN rfl (iN _)) ?_
  refine zaa (nv zz.val) rfl (zac rfl rfl bzz rfl uN rfl (iN _)) ?_;simp only [aP,lA,lZ,lS]
  refine zaa (nv s.val) rfl (zat (args:=[nv x.val,nv zz.val]) rfl rfl rfl (zcx _ ·) (fun W hW => zds ks.out (hf.ext hW))) ?_
  refine zaa (ptrTo w.heap.size) rfl (zad rfl rfl (fldK0 _ ·)) ?_;simp only [aP,lA,lZ,lS]
  refine zaa (fv 104 b) rfl (zae rfl rfl b0 rfl (zap ·)) ?_
  refine zaa (ptrTo (w.heap.size + 1)) rfl (zad rfl rfl (fldS0 _ ·)) ?_;simp only [aP,lA,lZ,lS]
  refine zaa (nv x.val) rfl (zac rfl rfl b1 rfl uN rfl (iN _)) ?_
  refine zaa (nv zz.val) rfl (zac rfl rfl bzz rfl uN rfl (iN _)) ?_;simp only [aP,lA,lZ,lS]
  refine zaa (nv u.val) rfl (zat (args:=[nv x.val,nv zz.val]) rfl rfl rfl (he_kAdd _ ·) (fun W hW => kadd_p ku.out (hf.ext hW))) ?_
  refine zaa (nv su.val) rfl (zat (args:=[nv s.val,nv u.val]) rfl rfl rfl (zbg _ ·) (fun W hW => zbn ksu.out (hf.ext hW))) ?_;simp only [aP,lA,lZ,lS]
  refine zaa (nv m.val) rfl (zaf (args:=[cv b,nv su.val]) rfl rfl (fun W => zab Tryz.func107 rfl rfl _ W) (fun W hW => trp_calls km.out (hf.ext hW))) ?_;simp only [aP,lA,lZ,lS]
  exact zaj
 refine zci _ _ rfl rfl rfl rfl rfl rfl rfl rfl rfl (by kernel_rfl) (by kernel_rfl) (by kernel_rfl) rfl rfl (hzN ·) (fun _ => rfl) (fun _ => rfl) (iN _) rfl (zbf _) ?_
 intro gm w3 hgm bm hE
 refine NoPanic.normal ?_
 replace b0:=hE.block b0
 replace b1:=hE.block b1
 replace b2:=hE.block b2
 replace byy:=hE.block byy
 replace hf:=hf.ext hE
 replace hx:=hx.trans hE
 clear hE
 simp only [aP,lA,lZ,lS]
 clear hgm
 go_upto_region 3 with (fail)
 refine' zak (m:=6) (A:=_) (by kernel_rfl) ?h3a ?h3b
 case h3a =>
  refine zaa (.pointer (some ⟨w.heap.size,2,none⟩)) rfl (zad rfl rfl (fldK2 _ ·)) ?_
  refine zaa (fv 89 b) rfl (zae rfl rfl b0 rfl (zap ·)) ?_;simp only [aP,lA,lZ,lS]
  refine zaa (ptrTo (w.heap.size + 1)) rfl (zad rfl rfl (fldS0 _ ·)) ?_
  refine zaa (nv x.val) rfl (zac rfl rfl b1 rfl uN rfl (iN _)) ?_;simp only [aP,lA,lZ,lS]
  refine zaa (nv yy.val) rfl (zac rfl rfl byy rfl uN rfl (iN _)) ?_
  refine zaa (nv q.val) rfl (zat (args:=[nv x.val,nv yy.val]) rfl rfl rfl (zbg _ ·) (fun W hW => zbn kq.out (hf.ext hW))) ?_;simp only [aP,lA,lZ,lS]
  exact zaj
 refine zck _ _ rfl rfl rfl rfl rfl rfl rfl (hzN ·) (fun _ => rfl) (fun _ => rfl) (iN _) rfl (zbf _) ?_
 intro gq w4 hgq bq hE
 replace b0:=hE.block b0
 replace b1:=hE.block b1
 replace b2:=hE.block b2
 replace byy:=hE.block byy
 replace bm:=hE.block bm
 replace hf:=hf.ext hE
 replace hx:=hx.trans hE
 clear hE
 simp only [aP,lA,lZ,lS]
 clear hgq
 go_upto_region 4 with (fail)
 refine' zbr (m:=5) (A:=_) 6 (by kernel_rfl) (by kernel_rfl) (by kernel_rfl) ?h4a ?h4b
 case h4a =>
  refine zaa (cv b) rfl (zac rfl rfl b0 rfl Tryz.underlying103 rfl (iK _)) ?_
  refine zaa (cv b) rfl (zac rfl rfl b0 rfl Tryz.underlying103 rfl (iK _)) ?_;simp only [aP,lA,lZ,lS]
  refine zaa (nv q.val) rfl (zac rfl rfl bq rfl uN rfl (iN _)) ?_
  refine zaa (nv q2.val) rfl (zaf (args:=[cv b,nv q.val]) rfl rfl (fun W => zab Tryz.func140 rfl rfl _ W) (fun W hW => zdn kq2.out (hf.ext hW))) ?_;simp only [aP,lA,lZ,lS]
  refine zaa (nv cr.val) rfl (zaf (args:=[cv b,nv q2.val]) rfl rfl (fun W => zab Tryz.func140 rfl rfl _ W) (fun W hW => zdn kcr.out (hf.ext hW))) ?_;simp only [aP,lA,lZ,lS]
  exact zaj
 refine zci _ _ rfl rfl rfl rfl rfl rfl rfl rfl rfl (by kernel_rfl) (by kernel_rfl) (by kernel_rfl) rfl rfl (hzN ·) (fun _ => rfl) (fun _ => rfl) (iN _) rfl (zbf _) ?_
 intro gcr w5 hgcr bcr hE
 refine NoPanic.normal ?_
 replace b0:=hE.block b0
 replace b1:=hE.block b1
 replace b2:=hE.block b2
 replace byy:=hE.block byy
 replace bm:=hE.block bm
 replace hf:=hf.ext hE
 replace hx:=hx.trans hE
 clear hE
 simp only [aP,lA,lZ,lS]
 clear hgcr
 go_upto_region 5 with (fail)
 refine' zbr (m:=11) (A:=_) 12 (by kernel_rfl) (by kernel_rfl) (by kernel_rfl) ?h5a ?h5b
 case h5a =>
  refine zaa (.pointer (some ⟨w.heap.size,1,none⟩)) rfl (zad rfl rfl (fldK1 _ ·)) ?_
  refine zaa (fv 105 b) rfl (zae rfl rfl b0 rfl (zap ·)) ?_;simp only [aP,lA,lZ,lS]
  refine zaa (.pointer (some ⟨w.heap.size,2,none⟩)) rfl (zad rfl rfl (fldK2 _ ·)) ?_
  refine zaa (fv 89 b) rfl (zae rfl rfl b0 rfl (zap ·)) ?_;simp only [aP,lA,lZ,lS]
  refine zaa (nv m.val) rfl (zac rfl rfl bm rfl uN rfl (iN _)) ?_
  refine zaa (nv m.val) rfl (zac rfl rfl bm rfl uN rfl (iN _)) ?_;simp only [aP,lA,lZ,lS]
  refine zaa (nv mm.val) rfl (zat (args:=[nv m.val,nv m.val]) rfl rfl rfl (zbg _ ·) (fun W hW => zbn kmm.out (hf.ext hW))) ?_
  refine zaa (cv b) rfl (zac rfl rfl b0 rfl Tryz.underlying103 rfl (iK _)) ?_;simp only [aP,lA,lZ,lS]
  refine zaa (nv cr.val) rfl (zac rfl rfl bcr rfl uN rfl (iN _)) ?_
  refine zaa (nv c2.val) rfl (zaf (args:=[cv b,nv cr.val]) rfl rfl (fun W => zab Tryz.func140 rfl rfl _ W) (fun W hW => zdn kc2.out (hf.ext hW))) ?_;simp only [aP,lA,lZ,lS]
  refine zaa (nv X.val) rfl (zat (args:=[nv mm.val,nv c2.val]) rfl rfl rfl (zcx _ ·) (fun W hW => zds kX.out (hf.ext hW))) ?_;simp only [aP,lA,lZ,lS]
  exact zaj
 refine zci _ _ rfl rfl rfl rfl rfl rfl rfl rfl rfl (by kernel_rfl) (by kernel_rfl) (by kernel_rfl) rfl rfl (hzN ·) (fun _ => rfl) (fun _ => rfl) (iN _) rfl (zbf _) ?_
 intro gX w6 hgX bX hE
 refine NoPanic.normal ?_
 replace b0:=hE.block b0
 replace b1:=hE.block b1
 replace b2:=hE.block b2
 replace byy:=hE.block byy
 replace bm:=hE.block bm
 replace bcr:=hE.block bcr
 replace hf:=hf.ext hE
 replace hx:=hx.trans hE
 clear hE
 simp only [aP,lA,lZ,lS]
 clear hgX
 go_upto_region 6 with (fail)
 refine' zak (m:=5) (A:=_) (by kernel_rfl) ?h6a ?h6b
 case h6a =>
  refine zaa (.pointer (some ⟨w.heap.size,2,none⟩)) rfl (zad rfl rfl (fldK2 _ ·)) ?_
  refine zaa (fv 89 b) rfl (zae rfl rfl b0 rfl (zap ·)) ?_;simp only [aP,lA,lZ,lS]
  refine zaa (nv yy.val) rfl (zac rfl rfl byy rfl uN rfl (iN _)) ?_
  refine zaa (nv yy.val) rfl (zac rfl rfl byy rfl uN rfl (iN _)) ?_;simp only [aP,lA,lZ,lS]
  refine zaa (nv e.val) rfl (zat (args:=[nv yy.val,nv yy.val]) rfl rfl rfl (zbg _ ·) (fun W hW => zbn ke.out (hf.ext hW))) ?_;simp only [aP,lA,lZ,lS]
  exact zaj
 refine zck _ _ rfl rfl rfl rfl rfl rfl rfl (hzN ·) (fun _ => rfl) (fun _ => rfl) (iN _) rfl (zbf _) ?_
 intro ge w7 hge be hE
 replace b0:=hE.block b0
 replace b1:=hE.block b1
 replace b2:=hE.block b2
 replace bm:=hE.block bm
 replace bcr:=hE.block bcr
 replace bX:=hE.block bX
 replace hf:=hf.ext hE
 replace hx:=hx.trans hE
 clear hE
 simp only [aP,lA,lZ,lS]
 clear hge
 go_upto_region 7 with (fail)
 refine' zbr (m:=7) (A:=_) 8 (by kernel_rfl) (by kernel_rfl) (by kernel_rfl) ?h7a ?h7b
 case h7a =>
  refine zaa (cv b) rfl (zac rfl rfl b0 rfl Tryz.underlying103 rfl (iK _)) ?_
  refine zaa (cv b) rfl (zac rfl rfl b0 rfl Tryz.underlying103 rfl (iK _)) ?_;simp only [aP,lA,lZ,lS]
  refine zaa (cv b) rfl (zac rfl rfl b0 rfl Tryz.underlying103 rfl (iK _)) ?_
  refine zaa (nv e.val) rfl (zac rfl rfl be rfl uN rfl (iN _)) ?_;simp only [aP,lA,lZ,lS]
  refine zaa (nv e2.val) rfl (zaf (args:=[cv b,nv e.val]) rfl rfl (fun W => zab Tryz.func140 rfl rfl _ W) (fun W hW => zdn ke2.out (hf.ext hW))) ?_
  refine zaa (nv e4.val) rfl (zaf (args:=[cv b,nv e2.val]) rfl rfl (fun W => zab Tryz.func140 rfl rfl _ W) (fun W hW => zdn ke4.out (hf.ext hW))) ?_;simp only [aP,lA,lZ,lS]
  refine zaa (nv tl.val) rfl (zaf (args:=[cv b,nv e4.val]) rfl rfl (fun W => zab Tryz.func140 rfl rfl _ W) (fun W hW => zdn ktl.out (hf.ext hW))) ?_;simp only [aP,lA,lZ,lS]
  exact zaj
 refine zci _ _ rfl rfl rfl rfl rfl rfl rfl rfl rfl (by kernel_rfl) (by kernel_rfl) (by kernel_rfl) rfl rfl (hzN ·) (fun _ => rfl) (fun _ => rfl) (iN _) rfl (zbf _) ?_
 intro gtl w8 hgtl btl hE
 refine NoPanic.normal ?_
 replace b0:=hE.block b0
 replace b1:=hE.block b1
 replace b2:=hE.block b2
 replace bm:=hE.block bm
 replace bcr:=hE.block bcr
 replace bX:=hE.block bX
 replace hf:=hf.ext hE
 replace hx:=hx.trans hE
 clear hE
 simp only [aP,lA,lZ,lS]
 clear hgtl
 go_upto_region 8 with (fail)
 refine' zbr (m:=24) (A:=_) 24 (by kernel_rfl) (by kernel_rfl) (by kernel_rfl) ?h8a ?h8b
 case h8a =>
  refine zaa (nv X.val) rfl (zac rfl rfl bX rfl uN rfl (iN _)) ?_
  refine zaa (.pointer (some ⟨w.heap.size,1,none⟩)) rfl (zad rfl rfl (fldK1 _ ·)) ?_;simp only [aP,lA,lZ,lS]
  refine zaa (fv 105 b) rfl (zae rfl rfl b0 rfl (zap ·)) ?_
  refine zaa (.pointer (some ⟨w.heap.size,2,none⟩)) rfl (zad rfl rfl (fldK2 _ ·)) ?_;simp only [aP,lA,lZ,lS]
  refine zaa (fv 89 b) rfl (zae rfl rfl b0 rfl (zap ·)) ?_
  refine zaa (nv m.val) rfl (zac rfl rfl bm rfl uN rfl (iN _)) ?_;simp only [aP,lA,lZ,lS]
  refine zaa (.pointer (some ⟨w.heap.size,1,none⟩)) rfl (zad rfl rfl (fldK1 _ ·)) ?_
  refine zaa (fv 105 b) rfl (zae rfl rfl b0 rfl (zap ·)) ?_;simp only [aP,lA,lZ,lS]
  refine zaa (nv cr.val) rfl (zac rfl rfl bcr rfl uN rfl (iN _)) ?_
  refine zaa (nv X.val) rfl (zac rfl rfl bX rfl uN rfl (iN _)) ?_;simp only [aP,lA,lZ,lS]
  refine zaa (nv d.val) rfl (zat (args:=[nv cr.val,nv X.val]) rfl rfl rfl (zcx _ ·) (fun W hW => zds kd.out (hf.ext hW))) ?_
  refine zaa (nv md.val) rfl (zat (args:=[nv m.val,nv d.val]) rfl rfl rfl (zbg _ ·) (fun W hW => zbn kmd.out (hf.ext hW))) ?_;simp only [aP,lA,lZ,lS]
  refine zaa (nv tl.val) rfl (zac rfl rfl btl rfl uN rfl (iN _)) ?_
  refine zaa (nv Y.val) rfl (zat (args:=[nv md.val,nv tl.val]) rfl rfl rfl (zcx _ ·) (fun W hW => zds kY.out (hf.ext hW))) ?_;simp only [aP,lA,lZ,lS]
  refine zaa (cv b) rfl (zac rfl rfl b0 rfl Tryz.underlying103 rfl (iK _)) ?_
  refine zaa (.pointer (some ⟨w.heap.size,2,none⟩)) rfl (zad rfl rfl (fldK2 _ ·)) ?_;simp only [aP,lA,lZ,lS]
  refine zaa (fv 89 b) rfl (zae rfl rfl b0 rfl (zap ·)) ?_
  refine zaa (.pointer (some ⟨w.heap.size + 1,4,none⟩)) rfl (zad rfl rfl (fldS1 _ ·)) ?_;simp only [aP,lA,lZ,lS]
  refine zaa (nv y.val) rfl (zac rfl rfl b1 rfl uN rfl (iN _)) ?_
  refine zaa (.pointer (some ⟨w.heap.size + 1,8,none⟩)) rfl (zad rfl rfl (fldS2 _ ·)) ?_;simp only [aP,lA,lZ,lS]
  refine zaa (nv z.val) rfl (zac rfl rfl b1 rfl uN rfl (iN _)) ?_
  refine zaa (nv yz.val) rfl (zat (args:=[nv y.val,nv z.val]) rfl rfl rfl (zbg _ ·) (fun W hW => zbn kyz.out (hf.ext hW))) ?_;simp only [aP,lA,lZ,lS]
  refine zaa (nv Z.val) rfl (zaf (args:=[cv b,nv yz.val]) rfl rfl (fun W => zab Tryz.func140 rfl rfl _ W) (fun W hW => zdn kZ.out (hf.ext hW))) ?_
  refine zaa (sv X.val Y.val Z.val) rfl (zbb (vs:=[(0,nv X.val),(1,nv Y.val),(2,nv Z.val)]) rfl rfl (fun W => bldS W _ _ _)) ?_;simp only [aP,lA,lZ,lS]
  exact zaj
 refine zgb _ rfl rfl rfl rfl rfl (by kernel_rfl) (by kernel_rfl) rfl rfl rfl b2 (iS _ _ _) rfl (zez _ _ _) ?_
 intro w9 hB hb
 refine NoPanic.normal ?_
 go_wp2
 exact bodyPost_ret (results_cell_row rfl _ _ (w.heap.size + 1 + 1) 146 (sc X.val Y.val Z.val) (0,0) _ rfl hb Tryz.underlying146 rfl (by kernel_rfl)) rfl ⟨rfl,hx.new hB (by omega)⟩
theorem pP_calls (w : World) : Calls Tryz.prog 103 #[] w fun e w' => e = .returned (.agg #[vI vU (wd (Pt.pp) 0),vI vU (wd (Pt.pp) 1),vI vU (wd (Pt.pp) 2),vI vU (wd (Pt.pp) 3)]) ∧ Below w.heap.size w w':=by
 obtain ⟨l0,l1,l2,l3⟩:=pp_lits
 rw [l0,l1,l2,l3]
 clear l0 l1 l2 l3
 go_enter Tryz.func103,Tryz.ntmps103
 go_wp2
 exact bodyPost_ret (results_cell_row rfl _ _ w.heap.size 26 #[vI vU 18446744073709551615,vI vU 4294967295,vI vU 0,vI vU 18446744069414584321] (0,0) _ rfl (heap_alloc_last w _) Tryz.underlying26 rfl (by kernel_rfl)) rfl ⟨rfl,(Below.refl _ _).alloc (Nat.le_refl _) _⟩
theorem bb_calls (w : World) : Calls Tryz.prog 108 #[] w fun e w' => e = .returned (.agg #[vI vU (wd (Pt.bb) 0),vI vU (wd (Pt.bb) 1),vI vU (wd (Pt.bb) 2),vI vU (wd (Pt.bb) 3)]) ∧ Below w.heap.size w w':=by
 obtain ⟨l0,l1,l2,l3⟩:=bb_lits
 rw [l0,l1,l2,l3]
 clear l0 l1 l2 l3
 go_enter Tryz.func108,Tryz.ntmps108
 go_wp2
 exact bodyPost_ret (results_cell_row rfl _ _ w.heap.size 26 #[vI vU 4309448131093880907,vI vU 7285987128567378166,vI vU 12964664127075681980,vI vU 6540974713487397863] (0,0) _ rfl (heap_alloc_last w _) Tryz.underlying26 rfl (by kernel_rfl)) rfl ⟨rfl,(Below.refl _ _).alloc (Nat.le_refl _) _⟩
theorem isz_calls (X : Nat) (hX : X < top) (w : World) :
  Calls Tryz.prog 106 #[nv X] w fun e w' => e = .returned (.bool (decide (X = 0))) ∧ Ext w w':=by
 unfold nv nc
 have kq:=fun W => eql_zero hX W
 obtain ⟨q,hq⟩ : ∃ q,q = decide (X = 0):=⟨_,rfl⟩
 rw [← hq] at kq ⊢
 have hA : (w.alloc (.cells #[vI vU (wd X 0),vI vU (wd X 1),vI vU (wd X 2),vI vU (wd X 3)] 26)).rowIs w.heap.size 26 4 (fun j => .int .u64 (wd X j)):=zan (n:=4) (by simp) rfl (arr4 fun j => .int .u64 (wd X j))
 obtain ⟨c0,c1,c2,c3⟩:=zai hA
 clear hq hX hA
 go_enter Tryz.func106,Tryz.ntmps106
 go_wp2
 go_ret
 exact ⟨rfl,(Below.refl _ _).alloc (Nat.le_refl _) _⟩
theorem isz_no {X : Nat} (h : X ≠ 0) (hX : X < top) (w : World) : Calls Tryz.prog 106 #[nv X] w fun e w' => e = .returned (.bool false) ∧ Ext w w':=by
 have k:=isz_calls X hX w
 rwa [decide_eq_false h] at k
theorem ziz {X : Nat} (h : X = 0) (w : World) : Calls Tryz.prog 106 #[nv X] w fun e w' => e = .returned (.bool true) ∧ Ext w w':=by
 have k:=isz_calls X (by rw [h]; exact Nat.two_pow_pos 256) w
 rwa [decide_eq_true h] at k
section
variable {P : Program} {o : Oper} {a : Act} {w : World}
end
theorem cmp_in {X : Nat} (h : X < Pt.pp) (w : World) : Calls Tryz.prog 94 #[nv X,nv Pt.pp] w fun e w' => e = .returned (.int .i64 (-1)) ∧ Ext w w' :=
 kcmp X Pt.pp (-1) (by unfold cmpN; rw [if_pos h]) (Nat.lt_trans h zib) zib w
theorem cmp_no {X : Nat} (hX : X < top) (w : World) : Calls Tryz.prog 94 #[nv X,nv Pt.pp] w fun e w' => e = .returned (.int .i64 (cmpN X Pt.pp)) ∧ Ext w w' :=
 kcmp X Pt.pp _ rfl hX zib w
theorem cmp_no_ge {X : Nat} (h : ¬ X < Pt.pp) : decide (0 ≤ cmpN X Pt.pp) = true:=by
 have:=cmp_ge X Pt.pp
 simp only [this,h,not_false_eq_true,decide_true]
theorem pP_is (w : World) : Calls Tryz.prog 103 #[] w fun e w' => e = .returned (nv Pt.pp) ∧ Ext w w':=pP_calls w
theorem bb_is (w : World) : Calls Tryz.prog 108 #[] w fun e w' => e = .returned (nv (Pt.F Pt.bb : Fe).val) ∧ Ext w w':=by
 have h : (Pt.F Pt.bb : Fe).val = Pt.bb:=Nat.mod_eq_of_lt bb_lt
 rw [h]
 exact bb_calls w
theorem zhc (w : World) : Calls Tryz.prog 55 #[] w fun e w' => ∃ b,e = .returned (cv b) ∧ Fp w' b ∧ Ext w w':=by
 have hp : Pt.pp % 2 = 1:=by decide +kernel
 have hp2 : 2 < Pt.pp:=by decide +kernel
 have K1:=veil (fun W => new_good Pt.pp hp hp2 zib W)
 have K0:=veil pP_calls
 clear hp hp2
 generalize hM : Pt.pp = M at K0 K1
 go_enter Tryz.func55,Tryz.ntmps55
 go_wp2_with fail
 refine (K0.out _).mono ?_
 rintro e w1 ⟨rfl,hb1⟩
 go_wp2_with fail
 refine (K1.out _).mono ?_
 rintro e w2 ⟨⟨b,N,Q,hK,hF,hle,rfl⟩,hb2⟩
 have hx : Ext w w2:=(Ext.alloc w _).trans (Ext.trans hb1 hb2)
 have hf : Fp w2 b:=⟨N,Q,hM ▸ hK,hM ▸ hF⟩
 have b0 : w2.heap[w.heap.size]? = some (.cells #[.nilFunc,.nilFunc,.nilFunc,.nilFunc] 103 (0,0)):=Ext.block (Ext.trans hb1 hb2) (zdx (w:=w) rfl)
 have hne : w.heap.size < b:=by have h1:=hb1.size; simp at h1; omega
 clear hK hF hM K0 K1 hb1 hb2 hle
 go_upto_region 2 with (fail)
 refine' zak (m:=9) (A:=_) (by kernel_rfl) ?h1 ?h2
 case h1 =>
  refine zaa (ptrTo b) rfl (zah (.inl rfl) rfl) ?_
  refine zaa (fv 104 b) rfl (zhq rfl rfl) ?_;simp only [aP,lA,lZ,lS]
  refine zaa (ptrTo b) rfl (zah (.inl rfl) rfl) ?_
  refine zaa (fv 105 b) rfl (zhq rfl rfl) ?_;simp only [aP,lA,lZ,lS]
  refine zaa (ptrTo b) rfl (zah (.inl rfl) rfl) ?_
  refine zaa (fv 89 b) rfl (zhq rfl rfl) ?_;simp only [aP,lA,lZ,lS]
  refine zaa (ptrTo b) rfl (zah (.inl rfl) rfl) ?_
  refine zaa (fv 87 b) rfl (zhq rfl rfl) ?_;simp only [aP,lA,lZ,lS]
  refine zaa (cv b) rfl (zbb (vs:=[(0,fv 104 b),(1,fv 105 b),(2,fv 89 b),(3,fv 87 b)]) rfl rfl (fun W => bldK W _)) ?_;simp only [aP,lA,lZ,lS]
  exact zaj
 refine zbk _ rfl rfl rfl rfl rfl rfl b0 (iK _) rfl (cc_one _) ?_
 intro w3 hB hb
 go_wp2
 have hf' : Fp w3 b:=by
  obtain ⟨N,Q,h1,h2⟩:=hf
  exact ⟨N,Q,h1,h2.of_block (hB.block b h2.lt (by intro e; simp at e; omega))⟩
 exact bodyPost_ret (results_cell_row rfl _ _ w.heap.size 103 (cc b) (0,0) _ rfl hb Tryz.underlying103 rfl (by kernel_rfl)) rfl ⟨b,rfl,hf',hx.new hB (Nat.le_refl _)⟩
theorem lift_far (x y : Nat) (w : World) :
  Calls Tryz.prog 96 #[qv x y true] w fun e w' => e = .returned (sv 0 0 0) ∧ Ext w w':=by
 unfold qv qc
 go_enter Tryz.func96,Tryz.ntmps96
 go_upto_region 1 with (fail)
 refine zdt fun w1 hx b0 b1 => ?_
 have b0 : w1.heap[w.heap.size]? = some (.cells (qc x y true) 48 (0,0)):=b0
 refine' zak (m:=2) (A:=_) (by kernel_rfl) ?h1 ?h2
 case h1 =>
  refine zaa (.pointer (some ⟨w.heap.size,8,none⟩)) rfl (zad rfl rfl (fldT2 _ ·)) ?_
  refine zaa (.bool true) rfl (zae rfl rfl b0 rfl (zbq ·)) ?_;simp only [aP,lA,lZ,lS]
  exact zaj
 refine zaq rfl ?_
 intro w2 hE
 replace b1:=hE.block b1
 replace hx:=hx.trans hE
 clear hE
 go_upto_region 2 with (fail)
 refine' zak (m:=1) (A:=_) (by kernel_rfl) ?h2a ?h2b
 case h2a =>
  refine zaa (sv 0 0 0) rfl (zbb rfl rfl (bldS0 ·)) ?_;simp only [aP,lA,lZ,lS]
  exact zaj
 refine zbk _ rfl rfl rfl rfl rfl rfl b1 (iS _ _ _) rfl (zez _ _ _) ?_
 intro w3 hB hb
 go_wp2
 exact bodyPost_ret (results_cell_row rfl _ _ (w.heap.size + 1) 146 (sc 0 0 0) (0,0) _ rfl hb Tryz.underlying146 rfl (by kernel_rfl)) rfl ⟨rfl,hx.new hB (by omega)⟩
theorem lift_near (x y : Nat) (w : World) :
  Calls Tryz.prog 96 #[qv x y false] w fun e w' => e = .returned (sv x y 1) ∧ Ext w w':=by
 unfold qv qc
 go_enter Tryz.func96,Tryz.ntmps96
 go_upto_region 1 with (fail)
 refine zdt fun w1 hx b0 b1 => ?_
 have b0 : w1.heap[w.heap.size]? = some (.cells (qc x y false) 48 (0,0)):=b0
 refine' zak (m:=2) (A:=_) (by kernel_rfl) ?h1 ?h2
 case h1 =>
  refine zaa (.pointer (some ⟨w.heap.size,8,none⟩)) rfl (zad rfl rfl (fldT2 _ ·)) ?_
  refine zaa (.bool false) rfl (zae rfl rfl b0 rfl (zbq ·)) ?_;simp only [aP,lA,lZ,lS]
  exact zaj
 refine zaq rfl ?_
 intro w2 hE
 replace b0:=hE.block b0
 replace b1:=hE.block b1
 replace hx:=hx.trans hE
 clear hE
 go_upto_region 3 with (fail)
 refine' zak (m:=6) (A:=_) (by kernel_rfl) ?h2a ?h2b
 case h2a =>
  refine zaa (ptrTo w.heap.size) rfl (zad rfl rfl (fldT0 _ ·)) ?_
  refine zaa (nv x) rfl (zac rfl rfl b0 rfl uN rfl (iN _)) ?_;simp only [aP,lA,lZ,lS]
  refine zaa (.pointer (some ⟨w.heap.size,4,none⟩)) rfl (zad rfl rfl (fldT1 _ ·)) ?_
  refine zaa (nv y) rfl (zac rfl rfl b0 rfl uN rfl (iN _)) ?_;simp only [aP,lA,lZ,lS]
  refine zaa (nv 1) rfl (zbb (vs:=[(0,.int .u64 1)]) rfl rfl (bldN1 ·)) ?_
  refine zaa (sv x y 1) rfl (zbb (vs:=[(0,nv x),(1,nv y),(2,nv 1)]) rfl rfl (fun W => bldS W _ _ _)) ?_;simp only [aP,lA,lZ,lS]
  exact zaj
 refine zbk _ rfl rfl rfl rfl rfl rfl b1 (iS _ _ _) rfl (zez _ _ _) ?_
 intro w3 hB hb
 go_wp2
 exact bodyPost_ret (results_cell_row rfl _ _ (w.heap.size + 1) 146 (sc x y 1) (0,0) _ rfl hb Tryz.underlying146 rfl (by kernel_rfl)) rfl ⟨rfl,hx.new hB (by omega)⟩
theorem zik (w : World) :
  Calls Tryz.prog 54 #[] w fun e w' => e = .returned (qv Pt.gx Pt.gy false) ∧ Ext w w':=by
 unfold qv qc
 go_enter Tryz.func54,Tryz.ntmps54
 go_upto_region 1 with (fail)
 refine zdj fun w1 hx b0 => ?_
 refine' zak (m:=3) (A:=_) (by kernel_rfl) ?h1 ?h2
 case h1 =>
  refine zaa (nv Pt.gx) rfl (zbb (vs:=[(0,.int .u64 17627433388654248598),(1,.int .u64 8575836109218198432),(2,.int .u64 17923454489921339634),(3,.int .u64 7716867327612699207)]) rfl rfl (bldGx ·)) ?_
  refine zaa (nv Pt.gy) rfl (zbb (vs:=[(0,.int .u64 14678990851816772085),(1,.int .u64 3156516839386865358),(2,.int .u64 10297457778147434006),(3,.int .u64 5756518291402817435)]) rfl rfl (bldGy ·)) ?_;simp only [aP,lA,lZ,lS]
  refine zaa (qv Pt.gx Pt.gy false) rfl (zbb (vs:=[(0,nv Pt.gx),(1,nv Pt.gy)]) rfl rfl (fun W => bldT W _ _)) ?_;simp only [aP,lA,lZ,lS]
  exact zaj
 refine zbk _ rfl rfl rfl rfl rfl rfl b0 (iT _ _ _) rfl (zdr _ _ _) ?_
 intro w2 hB hb
 go_wp2
 exact bodyPost_ret (results_cell_row rfl _ _ (w.heap.size) 48 (qc Pt.gx Pt.gy false) (0,0) _ rfl hb Tryz.underlying48 rfl (by kernel_rfl)) rfl ⟨rfl,hx.new hB (by omega)⟩
end Go.Proofs.YtedehdbajiaaiaaGreatDoor
