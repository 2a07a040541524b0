/-
  Of Lf Made2 SMath SSpec SBits HBase SWords HRot HWords.
-/
import Derived.WalkKit
import Derived.Test.YthlbemnbmbmjhaaGreatDoorRows
import Derived.Deep.MidRow
import Derived.Deep.WholeRow
import Derived.ChangeKeysEq
import Derived.WalkSpells
import Derived.WalkLawsBesides
import Derived.Deep.LoopGhost
import Derived.BigQuiet
import Derived.Deep.QuietTactic
import Derived.Deep.RegionWith
import Derived.Deep.Cut
import Derived.Deep.CutRange
import Derived.Deep.RegionHeld3
import Derived.StillTailTactics
import Derived.IntWalk
import Derived.Test.YthlbemnbmbmjhaaGreatDoorZM6
import Derived.Test.YthlbemnbmbmjhaaGreatDoorZM2
import Derived.Test.YthlbemnbmbmjhaaGreatDoorZM1
set_option maxRecDepth 1000000
set_option maxHeartbeats 20000000
namespace Go.Proofs.YthlbemnbmbmjhaaGreatDoor
open Go.RowKit
open Go.Value renaming int → vI
open Go.IntKind renaming u64 → vU
open Go.Act renaming put → aP
open List renaming setIfInBounds_toArray → lA, set_cons_zero → lZ, set_cons_succ → lS
theorem eqNN10 (w : World) : (binOp .eql 35 .nilIface .nilIface).run Tryz.prog w = .ok (.bool true) w:=by kernel_rfl
theorem neNN10 (w : World) : (binOp .neq 35 .nilIface .nilIface).run Tryz.prog w = .ok (.bool false) w:=by kernel_rfl
theorem eqNil1 (w : World) : (binOp .eql 35 .nilIface (.iface 39 (.int .i64 1))).run Tryz.prog w = .ok (.bool false) w:=by kernel_rfl
theorem eq1Nil (w : World) : (binOp .eql 35 (.iface 39 (.int .i64 1)) .nilIface).run Tryz.prog w = .ok (.bool false) w:=by kernel_rfl
theorem neKNil (k : Int) (w : World) : (binOp .neq 35 (.iface 39 (.int .i64 k)) .nilIface).run Tryz.prog w = .ok (.bool true) w:=by kernel_rfl
theorem keysB_len {l : List Ky} : (keysB l).length ≤ l.length * 91:=by
 have h:=zfa (kyFs 1 l) 88 fun f hf => by
  obtain ⟨i,hi,e⟩:=List.mem_iff_getElem.1 hf
  rw [zbr] at hi
  have:=(zgt 1 l i hi).2
  unfold bsF at this
  rw [List.getD_eq_getElem?_getD,List.getElem?_eq_getElem (by rw [zbr]; exact hi),Option.getD_some,e] at this
  rw [this,zdp]
  exact Nat.le_refl _
 rwa [zbr] at h
theorem kparse_back {w : World} {l : List Ky} {x ev : Value} (hm : mayK l = true) (h : KParseA w (keysB l) x ev) : Ks w x l ∧ ev = .nilIface:=by
 rcases h with ⟨h,_⟩ | ⟨l',h,hx,he⟩
 ·
  rw [zja hm] at h; cases h
 ·
  rw [zja hm] at h
  injection h with h
  subst h
  exact ⟨hx,he⟩
theorem kmore_walk {L : Low} {I : World → Prop} (C : Code10 L I) (v : Value) (l : List Ky) (mk : Ky) (A : Option Addr) (m c' : Nat) (bs : List Nat) (at_ : Int) (hm : m = bs.length) (hmc : m ≤ c') (w : World) (hI : I w) (hF : Ks w v l) (hT : TopK l) (hW : WfK l) (hk : mk.x < top ∧ mk.y < top) (hS : Bs w A bs) :
  Calls Tryz.prog 6 #[v,.agg (kyC mk).toArray,.slice A m c',.int .i64 at_] w fun e w' => e = .returned (.bool true) ∧ Ext w w':=by
 have HF:=veil (And.intro hF (And.intro hT hW))
 have HS:=veil (And.intro hm (And.intro hmc (And.intro hI hS)))
 have HC:=veil C
 have HK:=veil hk
 obtain ⟨AL,c,rfl,hc,_⟩:=hF
 obtain ⟨n,hn⟩ : ∃ n,n = l.length:=⟨_,rfl⟩
 rw [← hn] at hc HF ⊢
 have HN:=veil hn
 obtain ⟨K,hK⟩ : ∃ K,K = (kyC mk).toArray:=⟨_,rfl⟩
 have HKK:=veil (And.intro hK (show (Tryz.prog.info? 55).map (·.size) = some K.size by rw [hK]; exact iKyA mk))
 have hci : K[0]? = some (.int .i64 mk.i):=by rw [hK]; rfl
 rw [← hK]
 clear hT hW C hn hm hmc hI hS hk hK
 go_enter Tryz.func6,Tryz.ntmps6
 go_upto_region 1 with (fail)
 obtain ⟨g5,hg5⟩ : ∃ g,g = w.heap.size:=⟨_,rfl⟩
 have h5:=zaj w (.cells K 55)
 have hE0:=Ext.alloc w (.cells K 55)
 rw [← hg5] at h5 ⊢
 generalize w.alloc (.cells K 55) = w0 at *
 have KU:=veil (up10 HC.out w0)
 have H0:=veil (And.intro hE0 (And.intro h5 hci))
 clear hE0 h5 hg5 hci
 go_upto_region 2 with (go_at_call 7; refine KU.out.mono ?_; rintro e w1 ⟨rfl,hE1⟩)
 have H1:=veil (And.intro (H0.out.1.trans hE1) (And.intro (hE1.block H0.out.2.1) H0.out.2.2))
 clear hE1 H0 KU
 by_cases g0 : (31 : Int) < (n : Int)
 ·
  have hd : decide ((31 : Int) < (n : Int)) = true:=decide_eq_true g0
  go_wp2
  go_ret
  exact ⟨rfl,H1.out.1⟩
 ·
  have hd : decide ((31 : Int) < (n : Int)) = false:=decide_eq_false g0
  by_cases g1 : (5000 : Int) < (m : Int)
  ·
   have hd2 : decide ((5000 : Int) < (m : Int)) = true:=decide_eq_true g1
   go_wp2
   go_ret
   exact ⟨rfl,H1.out.1⟩
  ·
   have hd2 : decide ((5000 : Int) < (m : Int)) = false:=decide_eq_false g1
   have hle : l.length ≤ 31:=by have:=HN.out; omega
   have hm5 : m ≤ 5000:=by omega
   have hn31 : n ≤ 31:=by omega
   have hbs0:=bslK0
   have HW1:=veil (ky_empty (base:=w1.heap.size) w1 (Nat.le_refl _))
   go_upto_region 5 with ((with_reducible refine zam 33 ?_); refine zcc (l:=[]) (ys:=l) rfl rfl rfl rfl HW1.out HN.out (HF.out.1.ext (H1.out.1.trans (Ext.alloc w1 _))) (by simp; omega) (Below.size (Ext.alloc w1 _)) ?_; intro v2 w2 hO2 hG2)
   have hE2 : Ext w1 w2:=(Ext.alloc w1 (.cells #[] 55)).grown hG2 (Below.size (Ext.alloc w1 (.cells #[] 55))) fun j hj => (HW1.out.lt hj).1
   rw [List.nil_append] at hO2
   have H2:=veil (And.intro (H1.out.1.trans hE2) (And.intro hO2.ks (And.intro (hE2.block H1.out.2.1) H1.out.2.2)))
   clear hbs0 HW1 hO2 hG2 hE2 H1 g0
   have KB:=veil (HC.out.bytes v2 l w2 H2.out.2.1 HF.out.2.1 (by omega))
   have KS:=veil (fun W (_ : World) (h : Ext w2 W) => zhs v2 (.slice AL n c) l W (H2.out.2.1.ext h) (HF.out.1.ext (H2.out.1.trans h)) HF.out.2.2 (by omega))
   have KC:=veil (fun W (h : Ext w2 W) => HC.out.check v2 l at_ A m c' bs W (HC.out.keep _ _ HS.out.2.2.1 (H2.out.1.trans h)) (H2.out.2.1.ext h) HF.out.2.1 (by omega) HS.out.1 HS.out.2.1 hm5 (HS.out.2.2.2.ext (H2.out.1.trans h)))
   go_upto_region 6 with (go_at_call 12; refine KB.out.mono ?_; rintro e w3 ⟨x,ev,rfl,hE3,hA⟩)
   rcases hA with ⟨hmay,⟨A2,c2,rfl⟩,rfl⟩ | ⟨hmay,⟨A2,c2,rfl,hc2,hB2⟩,rfl⟩
   ·
    have hcc : checkC L l bs at_ = (⟨0,0,0,0,0⟩,1):=by unfold checkC; rw [hmay]; rfl
    rw [hcc] at KC
    unfold tkV at KC
    have k1:=eq1Nil
    have k2:=neKNil 1
    have HE3:=veil hE3
    clear hmay hcc hE3 KB
    rw [show errV 1 = .iface 39 (.int .i64 1) from rfl] at KC
    go_upto_region 11 with (first
     | (go_at_call 17; refine (KC.out _ HE3.out).mono ?_; rintro e w4 ⟨rfl,hE4⟩)
     | ((with_reducible refine zan ?_); refine wpList_store_row rfl 47 _ _ rfl w4.heap.size (tkC ⟨0,0,0,0,0⟩) rfl rfl 47 _ (zaj w4 _) (iTk _) rfl (zbp _) ?_; rw [World.setRow_alloc_new]))
    have hE5:=HE3.out.trans (hE4.trans (Ext.alloc w4 (.cells (tkC ⟨0,0,0,0,0⟩) 47)))
    generalize w4.alloc (.cells (tkC ⟨0,0,0,0,0⟩) 47) = w5 at *
    generalize w4.heap.size = g15 at *
    have HE5:=veil hE5
    clear hE4 hE5
    go_wp2_with (go_at_call 16; refine (KS.out _ w5 HE5.out).mono ?_; rintro e w6 ⟨rfl,hE6⟩)
    go_ret
    exact ⟨rfl,H2.out.1.trans (HE5.out.trans hE6)⟩
   ·
    have hlenB:=keysB_len (l:=l)
    obtain ⟨N,hN⟩ : ∃ N,N = (keysB l).length:=⟨_,rfl⟩
    rw [← hN] at hc2 hlenB ⊢
    have KP:=veil (HC.out.parse A2 N c2 (keysB l) w3 hN hc2 (by omega) hB2)
    have HM:=veil hmay
    have HE3:=veil hE3
    have k1:=eqNN10
    have k2:=neNN10
    clear hmay hB2 hN hlenB hc2 hE3 KB
    go_upto_region 8 with (go_at_call 14; refine KP.out.mono ?_; rintro e w4 ⟨x,ev,rfl,hE4,hA⟩; obtain ⟨hx,rfl⟩:=kparse_back HM.out hA)
    have HE4:=veil (HE3.out.trans hE4)
    have KS2:=veil (zhs x (.slice AL n c) l w4 hx (HF.out.1.ext (H2.out.1.trans HE4.out)) HF.out.2.2 (by omega))
    clear hA hx hE4 HE3 KP
    obtain ⟨u,hu⟩ : ∃ u,u = (kcheckB L l bs at_).1:=⟨_,rfl⟩
    obtain ⟨k,hk⟩ : ∃ k,k = (kcheckB L l bs at_).2:=⟨_,rfl⟩
    have hcc : checkC L l bs at_ = (u,k):=by
     unfold checkC
     rw [if_pos HM.out,hu,hk]
    rw [hcc] at KC
    unfold tkV at KC
    have hok : u.ok:=by rw [hu]; exact (kcheckB_ok HS.out.2.2.2.1).1
    have HU0:=veil (And.intro (show kcheckB L l bs at_ = (u,k) by rw [hu,hk]) hok)
    clear hcc hu hk hok
    go_upto_region 10 with (go_at_call 16; refine KS2.out.mono ?_; rintro e w45 ⟨rfl,hE45⟩)
    have HE45:=veil (HE4.out.trans hE45)
    clear hE45 KS2
    go_upto_region 11 with (first
     | (go_at_call 17; refine (KC.out _ HE45.out).mono ?_; rintro e w46 ⟨rfl,hE46⟩)
     | ((with_reducible refine zan ?_); refine wpList_store_row rfl 47 _ _ rfl w46.heap.size (tkC u) rfl rfl 47 _ (zaj w46 _) (iTk _) rfl (zbp _) ?_; rw [World.setRow_alloc_new]))
    have hE47:=HE45.out.trans (hE46.trans (Ext.alloc w46 (.cells (tkC u) 47)))
    have h15:=zaj w46 (.cells (tkC u) 47)
    generalize w46.alloc (.cells (tkC u) 47) = w47 at *
    generalize w46.heap.size = g15 at *
    have H47:=veil (And.intro hE47 h15)
    clear hE46 hE47 h15 HE4 HE45 KC
    go_upto_region 13 with (go_at_call 16; refine (KS.out _ w47 H47.out.1).mono ?_; rintro e w5 ⟨rfl,hE5⟩)
    have H5:=veil (And.intro (H2.out.1.trans (H47.out.1.trans hE5)) (And.intro ((H47.out.1.trans hE5).block H2.out.2.2.1) (hE5.block H47.out.2)))
    have HI:=veil H2.out.2.2.2
    clear hE5 H47 KS H2
    by_cases hk0 : k = 0
    ·
     subst hk0
     rw [show errV 0 = .nilIface from rfl]
     have HU : Hid (kcheckB L l bs at_ = (u,0) ∧ u.ok):=HU0
     clear HU0 k1
     go_upto_region 15 with (fail)
     go_wp2
     go_loopw [17] (fun s wr => ∃ p : Nat,p ≤ n ∧ s = .int .i64 (p : Int) ∧ Ext w5 wr)
      (fun s _ => n - (intOf s).toNat)
     case atStart => exact ⟨0,by omega,rfl,Ext.refl _⟩
     case round =>
      obtain ⟨p,hp,rfl,hE⟩:=hrel
      clear k2
      have hp31 : (p : Int) ≤ 31:=by omega
      by_cases hlt : p < n
      ·
       have hd1 : decide ((p : Int) < (n : Int)) = true:=by simp; omega
       have hii : (p : Int) < (n : Int):=by omega
       have hil : p < l.length:=by have:=HN.out; omega
       obtain ⟨A9,c9,e9,_,hx9⟩:=HF.out.1
       injection e9 with e91 e92 e93
       obtain ⟨b,o,hAL,hb,hcl⟩:=hx9.resolve_left (by omega)
       have c0:=ky_i (zcf (H5.out.1.trans hE) hb (hcl p _ (zee hil)))
       have c5 : wr.cell? ⟨g5,0,none⟩ = some (.int .i64 mk.i):=by
        rw [cell_of_row wr g5 0 _ _ _ (hE.block H5.out.2.1)]
        exact HI.out
       rw [← e91] at hAL
       subst hAL
       clear hcl hb hil e91 e92 e93 hx9
       generalize (l.getD p ky0).i = z at *
       generalize mk.i = z2 at *
       by_cases gi : z < z2
       ·
        have hd3 : decide (z < z2) = true:=decide_eq_true gi
        clear gi
        go_upto_region 16 with (fail)
        refine zdf 14 [(true,List.range 14)] (by kernel_rfl) (by kernel_rfl) fun Q' hQ' => ?_
        refine' zbz (A:=_) _ rfl (by kernel_rfl) ?_ ?_
        rotate_left
        ·
         intro D hD hN
         have e0:=hD.cell c0
         have e5:=hD.cell c5
         simp only [List.range,List.range.loop,pickI,consO,List.getElem?_cons_zero,List.getElem?_cons_succ]
         repeat (go_big_quiet_step (fail))
         exact zcz
        refine zct hQ' fun wx hEq => ?_
        have hEx : Ext w5 wx:=hE.trans hEq
        clear hE hEq
        go_wp2
        go_roundw
        case rel => exact ⟨p + 1,by omega,by go_num,hEx⟩
        case measure => simp [intOf]; omega
       ·
        have hd3 : decide (z < z2) = false:=decide_eq_false gi
        clear gi
        go_upto_region 16 with (fail)
        refine zdf 14 [(true,List.range 14)] (by kernel_rfl) (by kernel_rfl) fun Q' hQ' => ?_
        refine' zbz (A:=_) _ rfl (by kernel_rfl) ?_ ?_
        rotate_left
        ·
         intro D hD hN
         have e0:=hD.cell c0
         have e5:=hD.cell c5
         simp only [List.range,List.range.loop,pickI,consO,List.getElem?_cons_zero,List.getElem?_cons_succ]
         repeat (go_big_quiet_step (fail))
         exact zcz
        refine zct hQ' fun wx hEq => ?_
        have hEx : Ext w5 wx:=hE.trans hEq
        clear hE hEq
        clear c0 c5 hd3 hii hd1 hlt HI
        have hpc : p ≤ c:=Nat.le_trans hp hc
        have hbs0:=bslK0
        have HX:=veil (And.intro hEx (H5.out.1.trans hEx))
        have hw:=(ky_empty (base:=wx.heap.size) wx (Nat.le_refl _))
        have HW:=veil hw
        clear hEx hw
        go_upto_region 19 with (first
         | ((with_reducible refine zam 87 ?_); refine zbf (.slice (some ⟨b,o,none⟩) p c) rfl (zeh rfl rfl rfl (cut_to_ky (some ⟨b,o,none⟩) n c p hpc _ rfl)) ?_)
         | ((with_reducible refine zam 88 ?_); refine zcc (l:=[]) (ys:=l.take p) rfl rfl rfl rfl HW.out (by rw [List.length_take]; have:=HN.out; omega) (Ks.take (HF.out.1.ext (HX.out.2.trans (Ext.alloc wx _))) hp) (by simp; omega) (Below.size (Ext.alloc wx _)) ?_; intro v6 w6 hO6 hG6))
        clear hbs0
        have hE6 : Ext wx w6:=(Ext.alloc wx (.cells #[] 55)).grown hG6 (Below.size (Ext.alloc wx (.cells #[] 55))) fun j hj => (HW.out.lt hj).1
        rw [List.nil_append] at hO6
        have h56:=(HX.out.1.trans hE6).block H5.out.2.1
        have H6:=veil (And.intro (HX.out.2.trans hE6) (And.intro hO6 (And.intro ((HX.out.1.trans hE6).block H5.out.2.2) hE6)))
        clear hG6 hO6 hE6
        have hbs1 : ∀ W,(Instr.buildSlice 22 1 #[(0,.agg K)]).run Tryz.prog W = .ok (.slice (some ⟨W.heap.size,0,none⟩) 1 1) (W.alloc (.cells K 55)):=fun W => by rw [HKK.out.1]; exact bslKy mk W
        have t1 : OwnK (w6.alloc (.cells K 55)) wx.heap.size v6 (l.take p):=H6.out.2.1.keep (Ext.alloc w6 _)
        have t2 : Ks (w6.alloc (.cells K 55)) (.slice (some ⟨w6.heap.size,0,none⟩) 1 1) [mk]:=ls_one (by rw [← HKK.out.1]; exact zaj w6 _)
        have t3 : (l.take p).length + 1 ≤ 1000000000:=by rw [List.length_take]; have:=HN.out; omega
        have t4 : wx.heap.size ≤ (w6.alloc (.cells K 55)).heap.size:=Nat.le_trans (Below.size H6.out.2.2.2) (Below.size (Ext.alloc w6 _))
        have T1:=veil (And.intro t1 (And.intro t2 (And.intro t3 t4)))
        clear t1 t2 t3 t4
        go_upto_region 20 with (first
         | ((with_reducible refine zam 90 ?_); refine wpList_load_row rfl 55 _ rfl g5 rfl 55 K (0,0) _ h56 Tryz.underlying55 rfl HKK.out.2 ?_)
         | ((with_reducible refine zam 91 ?_); refine zfx rfl rfl rfl (hbs1 _) ?_)
         | ((with_reducible refine zam 92 ?_); refine zcc (ys:=[mk]) rfl rfl rfl rfl T1.out.1 rfl T1.out.2.1 T1.out.2.2.1 T1.out.2.2.2 ?_; intro v7 w7 hO7 hG7))
        clear hbs1 h56
        have hE7 : Ext wx w7:=(H6.out.2.2.2.trans (Ext.alloc w6 (.cells K 55))).grown hG7 (Nat.le_trans (Below.size H6.out.2.2.2) (Below.size (Ext.alloc w6 (.cells K 55)))) fun j hj => (T1.out.1.lt hj).1
        have H7:=veil (And.intro (HX.out.2.trans hE7) (And.intro hO7 (And.intro (hE7.block (HX.out.1.block H5.out.2.2)) hE7)))
        clear hG7 hO7 hE7 H6 T1
        go_upto_region 21 with (first
         | ((with_reducible refine zam 96 ?_); refine zbf (.slice (cutK (some ⟨b,o,none⟩) p c) (n - p) (c - p)) rfl (zcn rfl rfl rfl (cut_from_ky (some ⟨b,o,none⟩) n c p hp _ rfl)) ?_)
         | ((with_reducible refine zam 97 ?_); refine zcc (ys:=l.drop p) rfl rfl rfl rfl H7.out.2.1 (by rw [List.length_drop]; have:=HN.out; omega) (Ks.drop (HF.out.1.ext H7.out.1) hp) (by rw [List.length_append,List.length_take]; have:=HN.out; simp; omega) (Below.size H7.out.2.2.2) ?_; intro v8 w8 hO8 hG8))
        have hE8 : Ext wx w8:=H7.out.2.2.2.grown hG8 (Below.size H7.out.2.2.2) fun j hj => (H7.out.2.1.lt hj).1
        rw [List.append_assoc,List.singleton_append] at hO8
        have h15:=(hE8.trans (Ext.refl _))
        have hT15 : w8.heap[g15]? = some (.cells (tkC u) 47 (0,0)):=hE8.block (HX.out.1.block H5.out.2.2)
        have H8:=veil (And.intro (HX.out.2.trans hE8) (And.intro hO8.ks hT15))
        clear hG8 hO8 hE8 h15 hT15 H7 HX HW
        obtain ⟨l2,hl2⟩ : ∃ l2,l2 = l.take p ++ mk :: l.drop p:=⟨_,rfl⟩
        rw [← hl2] at H8
        have hT2 : TopK l2:=fun k hk => by
         rw [hl2] at hk
         rcases List.mem_append.1 hk with hk | hk
         ·
          exact HF.out.2.1 k (List.mem_of_mem_take hk)
         ·
          rcases List.mem_cons.1 hk with rfl | hk
          ·
           exact HK.out
          ·
           exact HF.out.2.1 k (List.mem_of_mem_drop hk)
        have hlen2 : l2.length ≤ 1000:=by
         rw [hl2,List.length_append,List.length_cons,List.length_take,List.length_drop]
         have:=HN.out
         omega
        have KC2:=veil (HC.out.check v8 l2 at_ A m c' bs w8 (HC.out.keep _ _ HS.out.2.2.1 H8.out.1) H8.out.2.1 hT2 hlen2 HS.out.1 HS.out.2.1 (by omega) (HS.out.2.2.2.ext H8.out.1))
        have KN:=veil (fun W (hW : Ext w8 W) => HC.out.may v8 l2 W (H8.out.2.1.ext hW) hT2 hlen2)
        unfold tkV at KC2
        have HL2:=veil hl2
        clear hl2 hT2 hlen2
        cases hm2 : mayK l2 with
        | false =>
         have hcc : checkC L l2 bs at_ = (⟨0,0,0,0,0⟩,1):=by unfold checkC; rw [hm2]; rfl
         rw [hcc] at KC2
         rw [hm2] at KN
         clear hcc hm2
         have kc:=eqC11
         go_upto_region 22 with (first
          | (go_at_call 17; refine KC2.out.mono ?_; rintro e w9 ⟨rfl,hE9⟩)
          | ((with_reducible refine zan ?_); refine wpList_store_row rfl 47 _ _ rfl w9.heap.size (tkC ⟨0,0,0,0,0⟩) rfl rfl 47 _ (zaj w9 _) (iTk _) rfl (zbp _) ?_; rw [World.setRow_alloc_new]))
         have hE10:=hE9.trans (Ext.alloc w9 (.cells (tkC ⟨0,0,0,0,0⟩) 47))
         generalize w9.alloc (.cells (tkC ⟨0,0,0,0,0⟩) 47) = w10 at *
         generalize w9.heap.size = g19 at *
         have H10:=veil (And.intro (H8.out.1.trans hE10) hE10)
         clear hE9 hE10
         rw [show errV 1 = .iface 39 (.int .i64 1) from rfl]
         go_wp2_with (go_at_call 10; refine (KN.out _ H10.out.2).mono ?_; rintro e w11 ⟨rfl,hE11⟩)
         go_ret
         exact ⟨rfl,H10.out.1.trans hE11⟩
        | true =>
         have hcc : checkC L l2 bs at_ = (u,0):=by
          have h1 : checkC L l2 bs at_ = kcheckB L l2 bs at_:=by unfold checkC; rw [if_pos hm2]
          have h2 : kcheckB L (l.take p ++ l.drop p) bs at_ = (u,0):=by rw [List.take_append_drop]; exact HU.out.1
          rw [HL2.out] at hm2
          rw [h1,HL2.out,zjb hm2 (by rw [h2]),h2]
         rw [hcc] at KC2
         rw [hm2] at KN
         have ke : ∀ W,(binOp .eql 47 (.agg (tkC u)) (.agg (tkC u))).run Tryz.prog W = .ok (.bool true) W:=fun W => eqT9 HU.out.2 W
         have kg : ∀ op x y W,(eqGuard op 47 x y (.agg (tkC u)) (.agg (tkC u))).run Tryz.prog W = .ok () W:=fun op x y W => gT9 u u op x y W
         clear hcc hm2
         go_upto_region 22 with (first
          | (go_at_call 17; refine KC2.out.mono ?_; rintro e w9 ⟨rfl,hE9⟩)
          | ((with_reducible refine zan ?_); refine wpList_store_row rfl 47 _ _ rfl w9.heap.size (tkC u) rfl rfl 47 _ (zaj w9 _) (iTk _) rfl (zbp _) ?_; rw [World.setRow_alloc_new]))
         have hE10:=hE9.trans (Ext.alloc w9 (.cells (tkC u) 47))
         have h19:=zaj w9 (.cells (tkC u) 47)
         generalize w9.alloc (.cells (tkC u) 47) = w10 at *
         generalize w9.heap.size = g19 at *
         have H10:=veil (And.intro (H8.out.1.trans hE10) (And.intro hE10 (And.intro h19 (hE10.block H8.out.2.2))))
         clear hE9 hE10 h19
         have kn:=eqNN10
         have kc:=eqNil1
         rw [show errV 0 = .nilIface from rfl]
         go_wp2_with (first
          | (go_at_call 10; refine (KN.out _ H10.out.2.1).mono ?_; rintro e w11 ⟨rfl,hE11⟩)
          | ((with_reducible refine zam 119 ?_); refine zii rfl 47 _ rfl g19 rfl 47 (tkC u) (0,0) _ (hE11.block H10.out.2.2.1) Tryz.underlying47 rfl (iTk u) ?_)
          | ((with_reducible refine zam 120 ?_); refine zii rfl 47 _ rfl g15 rfl 47 (tkC u) (0,0) _ (hE11.block H10.out.2.2.2) Tryz.underlying47 rfl (iTk u) ?_))
         go_ret
         exact ⟨rfl,H10.out.1.trans hE11⟩
      ·
       have hd1 : decide ((p : Int) < (n : Int)) = false:=by simp; omega
       go_upto_region 16 with (fail)
       refine zdf 14 [(true,List.range 14)] (by kernel_rfl) (by kernel_rfl) fun Q' hQ' => ?_
       refine' zbz (A:=_) _ rfl (by kernel_rfl) ?_ ?_
       rotate_left
       ·
        intro D hD hN
        simp only [List.range,List.range.loop,pickI,consO,List.getElem?_cons_zero,List.getElem?_cons_succ]
        repeat (go_big_quiet_step (fail))
        exact zcz
       refine zct hQ' fun wx hEq => ?_
       have hEx : Ext w5 wx:=hE.trans hEq
       clear hE hEq
       clear hd1 hlt HI
       have hpc : p ≤ c:=Nat.le_trans hp hc
       have hbs0:=bslK0
       have HX:=veil (And.intro hEx (H5.out.1.trans hEx))
       have hw:=(ky_empty (base:=wx.heap.size) wx (Nat.le_refl _))
       have HW:=veil hw
       clear hEx hw
       go_upto_region 19 with (first
        | ((with_reducible refine zam 87 ?_); refine zbf (.slice AL p c) rfl (zeh rfl rfl rfl (cut_to_ky AL n c p hpc _ rfl)) ?_)
        | ((with_reducible refine zam 88 ?_); refine zcc (l:=[]) (ys:=l.take p) rfl rfl rfl rfl HW.out (by rw [List.length_take]; have:=HN.out; omega) (Ks.take (HF.out.1.ext (HX.out.2.trans (Ext.alloc wx _))) hp) (by simp; omega) (Below.size (Ext.alloc wx _)) ?_; intro v6 w6 hO6 hG6))
       clear hbs0
       have hE6 : Ext wx w6:=(Ext.alloc wx (.cells #[] 55)).grown hG6 (Below.size (Ext.alloc wx (.cells #[] 55))) fun j hj => (HW.out.lt hj).1
       rw [List.nil_append] at hO6
       have h56:=(HX.out.1.trans hE6).block H5.out.2.1
       have H6:=veil (And.intro (HX.out.2.trans hE6) (And.intro hO6 (And.intro ((HX.out.1.trans hE6).block H5.out.2.2) hE6)))
       clear hG6 hO6 hE6
       have hbs1 : ∀ W,(Instr.buildSlice 22 1 #[(0,.agg K)]).run Tryz.prog W = .ok (.slice (some ⟨W.heap.size,0,none⟩) 1 1) (W.alloc (.cells K 55)):=fun W => by rw [HKK.out.1]; exact bslKy mk W
       have t1 : OwnK (w6.alloc (.cells K 55)) wx.heap.size v6 (l.take p):=H6.out.2.1.keep (Ext.alloc w6 _)
       have t2 : Ks (w6.alloc (.cells K 55)) (.slice (some ⟨w6.heap.size,0,none⟩) 1 1) [mk]:=ls_one (by rw [← HKK.out.1]; exact zaj w6 _)
       have t3 : (l.take p).length + 1 ≤ 1000000000:=by rw [List.length_take]; have:=HN.out; omega
       have t4 : wx.heap.size ≤ (w6.alloc (.cells K 55)).heap.size:=Nat.le_trans (Below.size H6.out.2.2.2) (Below.size (Ext.alloc w6 _))
       have T1:=veil (And.intro t1 (And.intro t2 (And.intro t3 t4)))
       clear t1 t2 t3 t4
       go_upto_region 20 with (first
        | ((with_reducible refine zam 90 ?_); refine wpList_load_row rfl 55 _ rfl g5 rfl 55 K (0,0) _ h56 Tryz.underlying55 rfl HKK.out.2 ?_)
        | ((with_reducible refine zam 91 ?_); refine zfx rfl rfl rfl (hbs1 _) ?_)
        | ((with_reducible refine zam 92 ?_); refine zcc (ys:=[mk]) rfl rfl rfl rfl T1.out.1 rfl T1.out.2.1 T1.out.2.2.1 T1.out.2.2.2 ?_; intro v7 w7 hO7 hG7))
       clear hbs1 h56
       have hE7 : Ext wx w7:=(H6.out.2.2.2.trans (Ext.alloc w6 (.cells K 55))).grown hG7 (Nat.le_trans (Below.size H6.out.2.2.2) (Below.size (Ext.alloc w6 (.cells K 55)))) fun j hj => (T1.out.1.lt hj).1
       have H7:=veil (And.intro (HX.out.2.trans hE7) (And.intro hO7 (And.intro (hE7.block (HX.out.1.block H5.out.2.2)) hE7)))
       clear hG7 hO7 hE7 H6 T1
       go_upto_region 21 with (first
        | ((with_reducible refine zam 96 ?_); refine zbf (.slice (cutK AL p c) (n - p) (c - p)) rfl (zcn rfl rfl rfl (cut_from_ky AL n c p hp _ rfl)) ?_)
        | ((with_reducible refine zam 97 ?_); refine zcc (ys:=l.drop p) rfl rfl rfl rfl H7.out.2.1 (by rw [List.length_drop]; have:=HN.out; omega) (Ks.drop (HF.out.1.ext H7.out.1) hp) (by rw [List.length_append,List.length_take]; have:=HN.out; simp; omega) (Below.size H7.out.2.2.2) ?_; intro v8 w8 hO8 hG8))
       have hE8 : Ext wx w8:=H7.out.2.2.2.grown hG8 (Below.size H7.out.2.2.2) fun j hj => (H7.out.2.1.lt hj).1
       rw [List.append_assoc,List.singleton_append] at hO8
       have h15:=(hE8.trans (Ext.refl _))
       have hT15 : w8.heap[g15]? = some (.cells (tkC u) 47 (0,0)):=hE8.block (HX.out.1.block H5.out.2.2)
       have H8:=veil (And.intro (HX.out.2.trans hE8) (And.intro hO8.ks hT15))
       clear hG8 hO8 hE8 h15 hT15 H7 HX HW
       obtain ⟨l2,hl2⟩ : ∃ l2,l2 = l.take p ++ mk :: l.drop p:=⟨_,rfl⟩
       rw [← hl2] at H8
       have hT2 : TopK l2:=fun k hk => by
        rw [hl2] at hk
        rcases List.mem_append.1 hk with hk | hk
        ·
         exact HF.out.2.1 k (List.mem_of_mem_take hk)
        ·
         rcases List.mem_cons.1 hk with rfl | hk
         ·
          exact HK.out
         ·
          exact HF.out.2.1 k (List.mem_of_mem_drop hk)
       have hlen2 : l2.length ≤ 1000:=by
        rw [hl2,List.length_append,List.length_cons,List.length_take,List.length_drop]
        have:=HN.out
        omega
       have KC2:=veil (HC.out.check v8 l2 at_ A m c' bs w8 (HC.out.keep _ _ HS.out.2.2.1 H8.out.1) H8.out.2.1 hT2 hlen2 HS.out.1 HS.out.2.1 (by omega) (HS.out.2.2.2.ext H8.out.1))
       have KN:=veil (fun W (hW : Ext w8 W) => HC.out.may v8 l2 W (H8.out.2.1.ext hW) hT2 hlen2)
       unfold tkV at KC2
       have HL2:=veil hl2
       clear hl2 hT2 hlen2
       cases hm2 : mayK l2 with
       | false =>
        have hcc : checkC L l2 bs at_ = (⟨0,0,0,0,0⟩,1):=by unfold checkC; rw [hm2]; rfl
        rw [hcc] at KC2
        rw [hm2] at KN
        clear hcc hm2
        have kc:=eqC11
        go_upto_region 22 with (first
         | (go_at_call 17; refine KC2.out.mono ?_; rintro e w9 ⟨rfl,hE9⟩)
         | ((with_reducible refine zan ?_); refine wpList_store_row rfl 47 _ _ rfl w9.heap.size (tkC ⟨0,0,0,0,0⟩) rfl rfl 47 _ (zaj w9 _) (iTk _) rfl (zbp _) ?_; rw [World.setRow_alloc_new]))
        have hE10:=hE9.trans (Ext.alloc w9 (.cells (tkC ⟨0,0,0,0,0⟩) 47))
        generalize w9.alloc (.cells (tkC ⟨0,0,0,0,0⟩) 47) = w10 at *
        generalize w9.heap.size = g19 at *
        have H10:=veil (And.intro (H8.out.1.trans hE10) hE10)
        clear hE9 hE10
        rw [show errV 1 = .iface 39 (.int .i64 1) from rfl]
        go_wp2_with (go_at_call 10; refine (KN.out _ H10.out.2).mono ?_; rintro e w11 ⟨rfl,hE11⟩)
        go_ret
        exact ⟨rfl,H10.out.1.trans hE11⟩
       | true =>
        have hcc : checkC L l2 bs at_ = (u,0):=by
         have h1 : checkC L l2 bs at_ = kcheckB L l2 bs at_:=by unfold checkC; rw [if_pos hm2]
         have h2 : kcheckB L (l.take p ++ l.drop p) bs at_ = (u,0):=by rw [List.take_append_drop]; exact HU.out.1
         rw [HL2.out] at hm2
         rw [h1,HL2.out,zjb hm2 (by rw [h2]),h2]
        rw [hcc] at KC2
        rw [hm2] at KN
        have ke : ∀ W,(binOp .eql 47 (.agg (tkC u)) (.agg (tkC u))).run Tryz.prog W = .ok (.bool true) W:=fun W => eqT9 HU.out.2 W
        have kg : ∀ op x y W,(eqGuard op 47 x y (.agg (tkC u)) (.agg (tkC u))).run Tryz.prog W = .ok () W:=fun op x y W => gT9 u u op x y W
        clear hcc hm2
        go_upto_region 22 with (first
         | (go_at_call 17; refine KC2.out.mono ?_; rintro e w9 ⟨rfl,hE9⟩)
         | ((with_reducible refine zan ?_); refine wpList_store_row rfl 47 _ _ rfl w9.heap.size (tkC u) rfl rfl 47 _ (zaj w9 _) (iTk _) rfl (zbp _) ?_; rw [World.setRow_alloc_new]))
        have hE10:=hE9.trans (Ext.alloc w9 (.cells (tkC u) 47))
        have h19:=zaj w9 (.cells (tkC u) 47)
        generalize w9.alloc (.cells (tkC u) 47) = w10 at *
        generalize w9.heap.size = g19 at *
        have H10:=veil (And.intro (H8.out.1.trans hE10) (And.intro hE10 (And.intro h19 (hE10.block H8.out.2.2))))
        clear hE9 hE10 h19
        have kn:=eqNN10
        have kc:=eqNil1
        rw [show errV 0 = .nilIface from rfl]
        go_wp2_with (first
         | (go_at_call 10; refine (KN.out _ H10.out.2.1).mono ?_; rintro e w11 ⟨rfl,hE11⟩)
         | ((with_reducible refine zam 119 ?_); refine zii rfl 47 _ rfl g19 rfl 47 (tkC u) (0,0) _ (hE11.block H10.out.2.2.1) Tryz.underlying47 rfl (iTk u) ?_)
         | ((with_reducible refine zam 120 ?_); refine zii rfl 47 _ rfl g15 rfl 47 (tkC u) (0,0) _ (hE11.block H10.out.2.2.2) Tryz.underlying47 rfl (iTk u) ?_))
        go_ret
        exact ⟨rfl,H10.out.1.trans hE11⟩
    ·
     have hke : errV k = .iface 39 (.int .i64 (k : Int)):=if_neg hk0
     have k3:=neKNil (k : Int)
     rw [hke]
     clear hke hk0 HU0
     go_wp2
     go_ret
     exact ⟨rfl,H5.out.1⟩
section
variable {P : Program} {Q : Exit → Act → World → Prop} {l : List Oper} {m : Nat} {a : Act} {w : World} {ty t : TypeId} {zs cells : Array Value} {d de : Tmp} {y : Operand}
theorem run_ext {o : Oper} {x : Operand} {i : Nat} {vs : Array Value} {v : Value} (ho : o.op = .extract x i) (hx : a.eval x = .tuple vs) (hv : vs[i]? = some v) (W : World) : (execOp a.eval o).run P W = .ok (.value v) W:=by
 unfold execOp
 simp only [ho]
 generalize a.eval = ρ at *
 rw [hx]
 simp [Instr.extract,go_sem,hv]
theorem zij {i : Nat} {o : Oper} {ops : Array Oper} {v : Value} {K : Act → World → Prop} {a : Act} {w : World} (ho : ops[i]? = some o) (hg : o.guard = none) (he : (execOp a.eval o).run P w = .ok (.value v) w) (h : K (a.put o.dst v) w) : wpOp P ops Q i K a w:=by
 refine zbd ho hg ?_
 unfold Oper.wp
 rw [he,Oper.upon_value]
 exact h
theorem rest_var2 {v vx : Value} {z : Operand} {dx : Tmp} (ox oa os oe : Oper) (hlen : l.length = m + 4) (hox : l.toArray[m]? = some ox) (hoa : l.toArray[m + 1]? = some oa) (hos : l.toArray[m + 2]? = some os) (hoe : l.toArray[m + 3]? = some oe) (hoa2 : oa.op = .alloc ty) (ho : os.op = .store ty (.tmp d) y) (hoe2 : oe.op = .assign z)
  (hdx : ox.dst = some dx) (hda : oa.dst = some d) (hd : os.dst = none) (hde : oe.dst = some de) (hgx : ox.guard = none) (hga : oa.guard = none) (hg : os.guard = none) (hge : oe.guard = none) (hne : dx ≠ d)
  (hr : Region.ready .any l.toArray (marked m 0 (Array.replicate l.length false)) = [m,m + 1]) (hr1 : Region.ready .any l.toArray (marked (m + 1) 0 (Array.replicate l.length false)) = [m + 1]) (hr2 : Region.ready .any l.toArray (marked (m + 2) 0 (Array.replicate l.length false)) = [m + 2]) (hr3 : Region.ready .any l.toArray (marked (m + 3) 0 (Array.replicate l.length false)) = [m + 3]) (hr4 : Region.ready .any l.toArray (marked (m + 4) 0 (Array.replicate l.length false)) = [])
  (hrb : Region.ready .any l.toArray ((marked m 0 (Array.replicate l.length false)).setIfInBounds (m + 1) true) = [m,m + 2])
  (hrc : Region.ready .any l.toArray (((marked m 0 (Array.replicate l.length false)).setIfInBounds (m + 1) true).setIfInBounds (m + 2) true) = [m])
  (hmk : (marked m 0 (Array.replicate l.length false)).setIfInBounds m true = marked (m + 1) 0 (Array.replicate l.length false))
  (hmk1 : (marked (m + 1) 0 (Array.replicate l.length false)).setIfInBounds (m + 1) true = marked (m + 2) 0 (Array.replicate l.length false))
  (hmkb : ((marked m 0 (Array.replicate l.length false)).setIfInBounds (m + 1) true).setIfInBounds m true = marked (m + 2) 0 (Array.replicate l.length false))
  (hmk2 : (marked (m + 2) 0 (Array.replicate l.length false)).setIfInBounds (m + 2) true = marked (m + 3) 0 (Array.replicate l.length false))
  (hmkc : (((marked m 0 (Array.replicate l.length false)).setIfInBounds (m + 1) true).setIfInBounds (m + 2) true).setIfInBounds m true = marked (m + 3) 0 (Array.replicate l.length false))
  (hmk3 : (marked (m + 3) 0 (Array.replicate l.length false)).setIfInBounds (m + 3) true = marked (m + 4) 0 (Array.replicate l.length false))
  (hz : ∀ W,(Instr.alloc ty true (.tuple #[])).run P W = .ok (ptrTo W.heap.size) (W.alloc (.cells zs t)))
  (hxv : ∀ W,(execOp a.eval ox).run P W = .ok (.value vx) W) (hxv2 : ∀ g W,(execOp (a.put (some d) (ptrTo g)).eval ox).run P W = .ok (.value vx) W)
  (hx : ∀ g,(a.put (some d) (ptrTo g)).eval (.tmp d) = ptrTo g) (hx2 : ∀ g,((a.put (some dx) vx).put (some d) (ptrTo g)).eval (.tmp d) = ptrTo g)
  (hy : ∀ g,(a.put (some d) (ptrTo g)).eval y = .agg cells) (hy2 : ∀ g,((a.put (some dx) vx).put (some d) (ptrTo g)).eval y = .agg cells) (hze : ∀ g,((a.put (some dx) vx).put (some d) (ptrTo g)).eval z = v)
  (hi : (P.info? ty).map (·.size) = some cells.size) (hold : zs.size = cells.size) (h1 : cells.all (·.oneCell') = true)
  (h : ∀ g W,w.heap.size ≤ g → W.heap[g]? = some (.cells cells t (0,0)) → Ext w W → Q .normal (((a.put (some dx) vx).put (some d) (ptrTo g)).put (some de) v) W) : Rest P l Q m (m + 2) a w:=by
 have comm : ∀ g,(a.put (some d) (ptrTo g)).put (some dx) vx = (a.put (some dx) vx).put (some d) (ptrTo g):=fun g => (Act.put_comm a vx (ptrTo g) (by simpa using hne.symm)).symm
 -- the assign,at last
 have fin : ∀ (f : Nat) (g : Nat) (W : World),w.heap.size ≤ g → W.heap[g]? = some (.cells cells t (0,0)) → Ext w W → wpG P .any l.toArray Q (m + 2) (f + 1) (marked (m + 3) 0 (Array.replicate l.length false)) ((a.put (some dx) vx).put (some d) (ptrTo g)) W:=fun f g W hg' hb hE => by
  refine ⟨fun h0 => (by rw [hr3] at h0; cases h0),fun j hj W3 hW3 => ?_⟩
  rw [hr3] at hj
  obtain rfl : j = m + 3:=by simpa using hj
  refine zij (v:=v) hoe hge (by unfold execOp; simp only [hoe2,hze,Sem.run_pure]) ⟨fun h0 => by omega,?_⟩
  rw [hmk3,hde]
  cases f with
  | zero => exact ⟨hr4,fun W4 hW4 => h g W4 hg' ((hW3.trans hW4).block hb) (hE.trans (hW3.trans hW4))⟩
  | succ f => exact ⟨fun _ W4 hW4 => h g W4 hg' ((hW3.trans hW4).block hb) (hE.trans (hW3.trans hW4)),fun j hj => by rw [hr4] at hj; cases hj⟩
 unfold Rest
 rw [show l.length - m = 0 + 1 + 1 + 1 + 1 by omega]
 refine ⟨fun h0 => (by rw [hr] at h0; cases h0),fun i hi' W hW => ?_⟩
 rw [hr] at hi'
 obtain rfl | rfl : i = m ∨ i = m + 1:=by simpa using hi'
 ·
  -- the result first
  refine zij hox hgx (hxv W) ⟨fun _ => Ext.refl _,?_⟩
  rw [hmk,hdx]
  refine ⟨fun h0 => (by rw [hr1] at h0; cases h0),fun j hj W1 hW1 => ?_⟩
  rw [hr1] at hj
  obtain rfl : j = i + 1:=by simpa using hj
  refine zbd hoa hga (zcy hoa2 hz ⟨fun _ => Ext.alloc _ _,?_⟩)
  rw [hmk1,hda]
  refine ⟨fun h0 => (by rw [hr2] at h0; cases h0),fun j hj W2 hW2 => ?_⟩
  rw [hr2] at hj
  obtain rfl : j = i + 2:=by simpa using hj
  refine zbd hos hg (wp_store_row ty _ y ho W1.heap.size cells (hx2 _) (hy2 _) t zs (hW2.block (zaj _ _)) hi hold h1 ⟨fun h0 => absurd h0 (Nat.lt_irrefl _),?_⟩)
  rw [hmk2,hd]
  exact fin _ _ _ (Nat.le_trans (Below.size hW) (Below.size hW1)) (setRow_heap W2 _ zs cells t (0,0) (hW2.block (zaj _ _))) (zas ((hW.trans hW1).trans ((Ext.alloc _ _).trans hW2)) (Nat.le_trans (Below.size hW) (Below.size hW1)) cells)
 ·
  -- the variable first
  refine zbd hoa hga (zcy hoa2 hz ⟨fun _ => Ext.alloc _ _,?_⟩)
  rw [hda]
  refine ⟨fun h0 => (by rw [hrb] at h0; cases h0),fun j hj W1 hW1 => ?_⟩
  rw [hrb] at hj
  obtain rfl | rfl : j = m ∨ j = m + 2:=by simpa using hj
  ·
   refine zij hox hgx (hxv2 _ W1) ⟨fun _ => Ext.refl _,?_⟩
   rw [hmkb,hdx,comm]
   refine ⟨fun h0 => (by rw [hr2] at h0; cases h0),fun k hk W2 hW2 => ?_⟩
   rw [hr2] at hk
   obtain rfl : k = j + 2:=by simpa using hk
   refine zbd hos hg (wp_store_row ty _ y ho W.heap.size cells (hx2 _) (hy2 _) t zs ((hW1.trans hW2).block (zaj _ _)) hi hold h1 ⟨fun h0 => absurd h0 (Nat.lt_irrefl _),?_⟩)
   rw [hmk2,hd]
   exact fin _ _ _ (Below.size hW) (setRow_heap W2 _ zs cells t (0,0) ((hW1.trans hW2).block (zaj _ _))) (zas (hW.trans ((Ext.alloc _ _).trans (hW1.trans hW2))) (Below.size hW) cells)
  ·
   refine zbd hos hg (wp_store_row ty _ y ho W.heap.size cells (hx _) (hy _) t zs (hW1.block (zaj _ _)) hi hold h1 ⟨fun h0 => absurd h0 (Nat.lt_irrefl _),?_⟩)
   rw [hd]
   have hb2:=setRow_heap W1 W.heap.size zs cells t (0,0) (hW1.block (zaj _ _))
   have hE2 : Ext w (W1.setRow W.heap.size cells):=zas (hW.trans ((Ext.alloc _ _).trans hW1)) (Below.size hW) cells
   refine ⟨fun h0 => (by rw [hrc] at h0; cases h0),fun k hk W2 hW2 => ?_⟩
   rw [hrc] at hk
   obtain rfl : k = m:=by simpa using hk
   refine zij hox hgx (hxv2 _ W2) ⟨fun _ => Ext.refl _,?_⟩
   rw [hmkc,hdx]
   show wpG P .any l.toArray Q (k + 2) (0 + 1) _ ((a.put (some d) (ptrTo W.heap.size)).put (some dx) vx) W2
   rw [comm]
   exact fin _ _ _ (Below.size hW) (hW2.block hb2) (hE2.trans hW2)
end
end Go.Proofs.YthlbemnbmbmjhaaGreatDoor
namespace Go.Proofs.YthlbemnbmbmjhaaGreatDoor
def rot (x n : Nat) : Nat:=x / 2 ^ n + 2 ^ (32 - n) * (x % 2 ^ n)
theorem zcj {x n : Nat} (hn : n ≤ 32) (hx : x < 2 ^ 32) : rot x n < 2 ^ 32:=by
 have hp : 0 < 2 ^ n:=Nat.pow_pos (by omega)
 have e : 2 ^ 32 = 2 ^ (32 - n) * 2 ^ n:=by rw [← Nat.pow_add]; congr 1; omega
 have hq : x / 2 ^ n < 2 ^ (32 - n):=by rw [Nat.div_lt_iff_lt_mul hp,← e]; exact hx
 have hr:=Nat.mod_lt x hp
 unfold rot
 rw [e]
 have : 2 ^ (32 - n) * (x % 2 ^ n + 1) ≤ 2 ^ (32 - n) * 2 ^ n:=Nat.mul_le_mul_left _ hr
 rw [Nat.mul_add] at this
 omega
end Go.Proofs.YthlbemnbmbmjhaaGreatDoor
namespace Go.Proofs.YthlbemnbmbmjhaaGreatDoor
def kList : List Nat:=[1116352408,1899447441,3049323471,3921009573,961987163,1508970993,2453635748,2870763221,3624381080,310598401,607225278,1426881987,1925078388,2162078206,2614888103,3248222580,3835390401,4022224774,264347078,604807628,770255983,1249150122,1555081692,1996064986,2554220882,2821834349,2952996808,3210313671,3336571891,3584528711,113926993,338241895,666307205,773529912,1294757372,1396182291,1695183700,1986661051,2177026350,2456956037,2730485921,2820302411,3259730800,3345764771,3516065817,3600352804,4094571909,275423344,430227734,506948616,659060556,883997877,958139571,1322822218,1537002063,1747873779,1955562222,2024104815,2227730452,2361852424,2428436474,2756734187,3204031479,3329325298]
def kc (t : Nat) : Nat:=kList.getD t 0
def ad (x y : Nat) : Nat:=(x + y) % 4294967296
def sg0 (x : Nat) : Nat:=rot x 7 ^^^ rot x 18 ^^^ (x / 2 ^ 3)
def sg1 (x : Nat) : Nat:=rot x 17 ^^^ rot x 19 ^^^ (x / 2 ^ 10)
def bs0 (x : Nat) : Nat:=rot x 2 ^^^ rot x 13 ^^^ rot x 22
def bs1 (x : Nat) : Nat:=rot x 6 ^^^ rot x 11 ^^^ rot x 25
def chN (x y z : Nat) : Nat:=(x &&& y) ^^^ ((4294967295 - x) &&& z)
def majN (x y z : Nat) : Nat:=(x &&& y) ^^^ (x &&& z) ^^^ (y &&& z)
theorem getD_lo (l r : List Nat) {t : Nat} (h : t < l.length) : (l ++ r).getD t 0 = l.getD t 0:=by simp [List.getD,List.getElem?_append_left h]
theorem getD_at (l : List Nat) (x : Nat) {t : Nat} (h : l.length = t) : (l ++ [x]).getD t 0 = x:=by subst h; simp [List.getD]
def sched (m : Nat → Nat) : Nat → List Nat
 | 0 => []
 | t + 1 => let l:=sched m t
  l ++ [if t < 16 then m t else ad (ad (ad (sg1 (l.getD (t - 2) 0)) (l.getD (t - 7) 0)) (sg0 (l.getD (t - 15) 0))) (l.getD (t - 16) 0)]
theorem zhg (m : Nat → Nat) : ∀ t,(sched m t).length = t
 | 0 => rfl
 | t + 1 => by simp [sched,zhg m t]
def wt (m : Nat → Nat) (t : Nat) : Nat:=(sched m (t + 1)).getD t 0
theorem zeu (m : Nat → Nat) (t : Nat) : ∀ n,t < n → (sched m n).getD t 0 = wt m t
 | 0,h => by omega
 | n + 1,h => by
  by_cases e : t = n
  ·
   subst e; rfl
  ·
   have ih:=zeu m t n (by omega)
   rw [← ih]
   show (sched m n ++ _).getD t 0 = _
   rw [getD_lo _ _ (by rw [zhg]; omega)]
theorem wt_lo (m : Nat → Nat) {t : Nat} (h : t < 16) : wt m t = m t:=by
 unfold wt
 show (sched m t ++ _).getD t 0 = _
 rw [getD_at _ _ (zhg m t),if_pos h]
theorem wt_hi (m : Nat → Nat) {t : Nat} (h : ¬ t < 16) : wt m t = ad (ad (ad (sg1 (wt m (t - 2))) (wt m (t - 7))) (sg0 (wt m (t - 15)))) (wt m (t - 16)):=by
 conv => lhs; unfold wt
 show (sched m t ++ _).getD t 0 = _
 rw [getD_at _ _ (zhg m t),if_neg h,zeu m _ t (by omega),zeu m _ t (by omega),zeu m _ t (by omega),zeu m _ t (by omega)]
structure St where
 a : Nat
 b : Nat
 c : Nat
 d : Nat
 e : Nat
 f : Nat
 g : Nat
 h : Nat
def t1N (s : St) (k w : Nat) : Nat:=ad (ad (ad (ad s.h (bs1 s.e)) (chN s.e s.f s.g)) k) w
def t2N (s : St) : Nat:=ad (bs0 s.a) (majN s.a s.b s.c)
def stepN (s : St) (k w : Nat) : St:=⟨ad (t1N s k w) (t2N s),s.a,s.b,s.c,ad s.d (t1N s k w),s.e,s.f,s.g⟩
def roundsN (m : Nat → Nat) (s : St) : Nat → St
 | 0 => s
 | t + 1 => stepN (roundsN m s t) (kc t) (wt m t)
def addSt (x y : St) : St:=⟨ad x.a y.a,ad x.b y.b,ad x.c y.c,ad x.d y.d,ad x.e y.e,ad x.f y.f,ad x.g y.g,ad x.h y.h⟩
def blockN (m : Nat → Nat) (s : St) : St:=addSt s (roundsN m s 64)
def word (text : Nat → Nat) (i : Nat) : Nat:=text i * 16777216 + text (i + 1) * 65536 + text (i + 2) * 256 + text (i + 3)
def blocksN (text : Nat → Nat) : Nat → St
 | 0 => ⟨1779033703,3144134277,1013904242,2773480762,1359893119,2600822924,528734635,1541459225⟩
 | n + 1 => blockN (fun t => word text (64 * n + 4 * t)) (blocksN text n)
def nBlocks (len : Nat) : Nat:=(len + 9 + 63) / 64
def padded (b : Nat → Nat) (len : Nat) : Nat → Nat:=fun i =>
 if i < len then b i else if i = len then 128 else if i < 64 * nBlocks len - 8 then 0 else 8 * len / 256 ^ (64 * nBlocks len - 1 - i) % 256
def shaSt (b : Nat → Nat) (len : Nat) : St:=blocksN (padded b len) (nBlocks len)
end Go.Proofs.YthlbemnbmbmjhaaGreatDoor
namespace Go.Proofs.YthlbemnbmbmjhaaGreatDoor
theorem wrap32 (n : Int) : IntKind.u32.wrap n = n % 4294967296:=by simp [IntKind.wrap,IntKind.signed,IntKind.bits]
section
variable (a b : Nat) (ha : a < 4294967296) (hb : b < 4294967296)
include ha hb
theorem ofInt32 : (BitVec.ofInt 32 (a : Int)).toNat = a ∧ (BitVec.ofInt 32 (b : Int)).toNat = b:=by
 constructor <;> (rw [BitVec.ofInt_natCast,BitVec.toNat_ofNat]; exact Nat.mod_eq_of_lt (by omega))
theorem and32 : bits .and .u32 (a : Int) (b : Int) = ((a &&& b : Nat) : Int):=by
 have hx : a &&& b < 2 ^ 32:=Nat.and_lt_two_pow _ (by omega)
 show IntKind.u32.wrap ((BitVec.ofInt 32 (a : Int) &&& BitVec.ofInt 32 (b : Int)).toNat : Int) = _
 rw [BitVec.toNat_and,(ofInt32 a b ha hb).1,(ofInt32 a b ha hb).2,wrap32]
 omega
theorem or32 : bits .or .u32 (a : Int) (b : Int) = ((a ||| b : Nat) : Int):=by
 have hx : a ||| b < 2 ^ 32:=Nat.or_lt_two_pow (by omega) (by omega)
 show IntKind.u32.wrap ((BitVec.ofInt 32 (a : Int) ||| BitVec.ofInt 32 (b : Int)).toNat : Int) = _
 rw [BitVec.toNat_or,(ofInt32 a b ha hb).1,(ofInt32 a b ha hb).2,wrap32]
 omega
theorem xor32 : bits .xor .u32 (a : Int) (b : Int) = ((a ^^^ b : Nat) : Int):=by
 have hx : a ^^^ b < 2 ^ 32:=Nat.xor_lt_two_pow (by omega) (by omega)
 show IntKind.u32.wrap ((BitVec.ofInt 32 (a : Int) ^^^ BitVec.ofInt 32 (b : Int)).toNat : Int) = _
 rw [BitVec.toNat_xor,(ofInt32 a b ha hb).1,(ofInt32 a b ha hb).2,wrap32]
 omega
end
theorem not_bit {x : Nat} (hx : x < 2 ^ 32) (i : Nat) : (4294967295 - x).testBit i = (decide (i < 32) && !x.testBit i):=by
 have h:=Nat.testBit_two_pow_sub_succ hx i
 rwa [show 2 ^ 32 - (x + 1) = 4294967295 - x by omega] at h
theorem rot_or {x n : Nat} (hn : n ≤ 32) (hx : x < 2 ^ 32) : rot x n = (x / 2 ^ n) ||| (x * 2 ^ (32 - n) % 2 ^ 32):=by
 have hp : 0 < 2 ^ n:=Nat.pow_pos (by omega)
 have e : 2 ^ 32 = 2 ^ (32 - n) * 2 ^ n:=by rw [← Nat.pow_add]; congr 1; omega
 have hq : x / 2 ^ n < 2 ^ (32 - n):=by rw [Nat.div_lt_iff_lt_mul hp,← e]; exact hx
 have h1 : x * 2 ^ (32 - n) % 2 ^ 32 = 2 ^ (32 - n) * (x % 2 ^ n):=by rw [e,Nat.mul_comm x,Nat.mul_mod_mul_left]
 rw [h1,Nat.or_comm,← Nat.two_pow_add_eq_or_of_lt hq]
 unfold rot
 omega
/-! ### all is below 2^32 -/
theorem ad_lt (x y : Nat) : ad x y < 2 ^ 32:=Nat.mod_lt _ (by decide)
theorem shr_lt {x : Nat} (n : Nat) (hx : x < 2 ^ 32) : x / 2 ^ n < 2 ^ 32:=Nat.lt_of_le_of_lt (Nat.div_le_self _ _) hx
theorem wt_lt {m : Nat → Nat} (hm : ∀ t,t < 16 → m t < 2 ^ 32) (t : Nat) : wt m t < 2 ^ 32:=by
 by_cases h : t < 16
 ·
  rw [wt_lo m h]; exact hm t h
 ·
  rw [wt_hi m h]; exact ad_lt _ _
structure St.Ok (s : St) : Prop where
 a : s.a < 2 ^ 32
 b : s.b < 2 ^ 32
 c : s.c < 2 ^ 32
 d : s.d < 2 ^ 32
 e : s.e < 2 ^ 32
 f : s.f < 2 ^ 32
 g : s.g < 2 ^ 32
 h : s.h < 2 ^ 32
theorem stepN_ok {s : St} (h : s.Ok) (k w : Nat) : (stepN s k w).Ok:=⟨ad_lt _ _,h.a,h.b,h.c,ad_lt _ _,h.e,h.f,h.g⟩
theorem roundsN_ok {m : Nat → Nat} {s : St} (h : s.Ok) : ∀ t,(roundsN m s t).Ok
 | 0 => h
 | t + 1 => stepN_ok (roundsN_ok h t) _ _
theorem blockN_ok (m : Nat → Nat) (s : St) : (blockN m s).Ok:=⟨ad_lt _ _,ad_lt _ _,ad_lt _ _,ad_lt _ _,ad_lt _ _,ad_lt _ _,ad_lt _ _,ad_lt _ _⟩
theorem blocksN_ok (text : Nat → Nat) : ∀ n,(blocksN text n).Ok
 | 0 => by constructor <;> (show _ < _; simp [blocksN])
 | n + 1 => blockN_ok _ _
theorem zht {f g : Nat → Nat} : ∀ n,(∀ i,i < 64 * n → f i = g i) → blocksN f n = blocksN g n
 | 0,_ => rfl
 | n + 1,h => by
  have ih:=zht n fun i hi => h i (by omega)
  have hw : ∀ t,t < 16 → word f (64 * n + 4 * t) = word g (64 * n + 4 * t):=by
   intro t ht
   unfold word
   rw [h _ (by omega),h _ (by omega),h _ (by omega),h _ (by omega)]
  have hs : ∀ k,sched (fun t => word f (64 * n + 4 * t)) k = sched (fun t => word g (64 * n + 4 * t)) k:=by
   intro k
   induction k with
   | zero => simp only [sched]
   | succ k ihk =>
    simp only [sched]
    rw [ihk]
    by_cases hk : k < 16
    ·
     simp only [if_pos hk]; rw [hw k hk]
    ·
     simp only [if_neg hk]
  have hr : ∀ s k,roundsN (fun t => word f (64 * n + 4 * t)) s k = roundsN (fun t => word g (64 * n + 4 * t)) s k:=by
   intro s k
   induction k with
   | zero => simp only [roundsN]
   | succ k ihk =>
    simp only [roundsN]
    rw [ihk]; unfold wt; rw [hs]
  simp only [blocksN]
  rw [ih]; unfold blockN; rw [hr]
end Go.Proofs.YthlbemnbmbmjhaaGreatDoor
namespace Go.Proofs.YthlbemnbmbmjhaaGreatDoor
open Go.RowKit
open Go.Value renaming int → vI
open Go.IntKind renaming u64 → vU
open Go.Act renaming put → aP
open List renaming setIfInBounds_toArray → lA, set_cons_zero → lZ, set_cons_succ → lS
def St.at (s : St) (j : Nat) : Nat:=match j with | 0 => s.a | 1 => s.b | 2 => s.c | 3 => s.d | 4 => s.e | 5 => s.f | 6 => s.g | _ => s.h
def hcells (s : St) (blk : Nat → Nat) (len : Nat) : Nat → Value:=fun j => if j < 8 then .int .u32 (s.at j : Nat) else if j < 72 then .int .u8 (blk (j - 8) : Nat) else .int .i64 (len : Int)
def HRow (w : World) (g : Nat) (s : St) (blk : Nat → Nat) (len : Nat) : Prop:=w.rowIs g 170 73 (hcells s blk len)
section
variable {w w' : World} {g B len : Nat} {s : St} {blk : Nat → Nat}
theorem HRow.lt (h : HRow w g s blk len) : g < w.heap.size:=World.rowIs.lt h
theorem HRow.below (h : HRow w g s blk len) (hb : Below B w w') (hlt : g < B) : HRow w' g s blk len:=zad h hb hlt
theorem HRow.call (h : HRow w g s blk len) (hb : Below w.heap.size w w') : HRow w' g s blk len:=zad h hb h.lt
theorem HRow.alloc (h : HRow w g s blk len) (o : Obj) : HRow (w.alloc o) g s blk len:=World.rowIs.alloc h o
theorem HRow.drew (h : HRow w g s blk len) : HRow w.drew g s blk len:=h
theorem HRow.drewN (h : HRow w g s blk len) (k : Nat) : HRow (w.drewN k) g s blk len:=h
theorem HRow.of_block (h : HRow w g s blk len) (e : w'.heap[g]? = w.heap[g]?) : HRow w' g s blk len:=World.rowIs.of_block h e
theorem HRow.state (h : HRow w g s blk len) {j : Nat} (hj : j < 8) : w.cell? ⟨g,j,none⟩ = some (.int .u32 (s.at j : Nat)):=by
 rw [World.rowIs.cell h (show j < 73 by omega),hcells,if_pos hj]
theorem HRow.byte (h : HRow w g s blk len) {j : Nat} (hj : j < 64) : w.cell? ⟨g,8 + j,none⟩ = some (.int .u8 (blk j : Nat)):=by
 rw [World.rowIs.cell h (show 8 + j < 73 by omega),hcells,if_neg (by omega),if_pos (by omega),show 8 + j - 8 = j by omega]
theorem HRow.length (h : HRow w g s blk len) : w.cell? ⟨g,72,none⟩ = some (.int .i64 (len : Int)):=by
 rw [World.rowIs.cell h (show 72 < 73 by omega),hcells,if_neg (by omega),if_neg (by omega)]
theorem HRow.block (h : HRow w g s blk len) : w.rangeAt g 8 ((List.range 64).map fun j => Value.int .u8 (blk j : Nat)):=by
 intro j v hv
 have hj : j < 64:=by simpa using (List.getElem?_eq_some_iff.1 hv).1
 rw [h.byte hj,← hv]
 simp [hj]
theorem HRow.words (h : HRow w g s blk len) : w.rangeAt g 0 ((List.range 8).map fun j => Value.int .u32 (s.at j : Nat)):=by
 intro j v hv
 have hj : j < 8:=by simpa using (List.getElem?_eq_some_iff.1 hv).1
 rw [Nat.zero_add,h.state hj,← hv]
 simp [hj]
end
structure KT (w : World) : Prop where
 lt : 0 < w.heap.size
 cell : ∀ j,j < 64 → w.cell? ⟨0,j,none⟩ = some (.int .u32 (kc j : Nat))
section
variable {w w' : World} {B : Nat}
theorem KT.of_block (h : KT w) (e : w'.heap[0]? = w.heap[0]?) (hs : w.heap.size ≤ w'.heap.size) : KT w' :=
 ⟨Nat.lt_of_lt_of_le h.lt hs,fun j hj => (World.cell?_of_block (w:=w) (a:=⟨0,j,none⟩) e).trans (h.cell j hj)⟩
theorem KT.below (h : KT w) (hb : Below B w w') (hB : 0 < B) : KT w':=h.of_block (hb.block 0 hB) hb.size
theorem KT.call (h : KT w) (hb : Below w.heap.size w w') : KT w':=h.below hb h.lt
theorem KT.alloc (h : KT w) (o : Obj) : KT (w.alloc o):=h.of_block (Below.heap_alloc _ _ _ h.lt) (by simp)
theorem KT.drew (h : KT w) : KT w.drew:=⟨h.lt,h.cell⟩
theorem KT.drewN (h : KT w) (k : Nat) : KT (w.drewN k):=⟨h.lt,h.cell⟩
theorem KT.far {b i : Nat} (h : KT w) (hne : 0 ≠ b) (v : Value) : KT (w.setCell ⟨b,i,none⟩ v):=h.of_block (Below.heap_setCell _ _ _ _ hne) (by simp [World.setCell])
theorem KT.grown {r : Nat} (h : KT w) (hg : w.grownBy w' (some r)) (hne : 0 ≠ r) : KT w':=h.of_block (hg.block 0 h.lt (by simpa using hne)) hg.size
end
theorem veil32 {p : Prop} (h : p) : Hid p:=h
theorem neg_and : ∀ n : Fin 32,n.1 ≠ 0 → bits .and .u64 (IntKind.u64.wrap (-(n.1 : Int))) 31 = 32 - (n.1 : Int):=by decide
theorem rot_bits {x n : Nat} (hx : x < 2 ^ 32) (hn : n < 32) : bits .or .u32 ((x : Int) * 2 ^ (32 - n) % 4294967296) ((x : Int) / 2 ^ (32 - (32 - n))) = ((rot x n : Nat) : Int):=by
 have e : 32 - (32 - n) = n:=by omega
 have e1 : (x : Int) * 2 ^ (32 - n) % 4294967296 = ((x * 2 ^ (32 - n) % 2 ^ 32 : Nat) : Int):=by
  rw [Int.natCast_emod,Int.natCast_mul,Int.natCast_pow]; rfl
 have e2 : (x : Int) / 2 ^ n = ((x / 2 ^ n : Nat) : Int):=by
  rw [Int.natCast_ediv,Int.natCast_pow]; rfl
 rw [e,e1,e2,or32 _ _ (Nat.mod_lt _ (by decide)) (shr_lt n hx),rot_or (by omega) hx,Nat.or_comm]
theorem ret_u32 {a : Int} {b : Nat} (h : a = (b : Int)) : Ending.returned (.int .u32 a) = .returned (.int .u32 (b : Nat)):=by rw [h]
theorem rotl_calls (x n : Nat) (hx : x < 2 ^ 32) (h0 : n ≠ 0) (hn : n < 32) (w : World) :
  Calls Tryz.prog 164 #[.int .u32 (x : Int),.int .i64 (-(n : Int))] w fun e w' => e = .returned (.int .u32 (rot x n : Nat)) ∧ w' = w:=by
 have k1:=neg_and ⟨n,hn⟩ h0
 simp only at k1
 go_enter Tryz.func164,Tryz.ntmps164
 go_wp2
 go_ret
 exact ⟨ret_u32 (rot_bits hx hn),rfl⟩
theorem zbn (x n : Nat) (hx : x < 2 ^ 32) (h0 : n ≠ 0) (hn : n < 32) (w : World) :
  Calls Tryz.prog 163 #[.int .u32 (x : Int),.int .i64 (n : Int)] w fun e w' => e = .returned (.int .u32 (rot x n : Nat)) ∧ w' = w:=by
 go_enter Tryz.func163,Tryz.ntmps163
 go_wp2_with (go_at_call 164; refine (rotl_calls x n hx h0 hn _).mono ?_; rintro e w' ⟨rfl,rfl⟩)
 go_ret
 exact ⟨rfl,rfl⟩
theorem bigOne_calls (x : Nat) (hx : x < 2 ^ 32) (w : World) :
  Calls Tryz.prog 152 #[.int .u32 (x : Int)] w fun e w' => e = .returned (.int .u32 (bs1 x : Nat)) ∧ w' = w:=by
 have k1:=xor32 (rot x 6) (rot x 11) (zcj (by omega) hx) (zcj (by omega) hx)
 have k2:=xor32 (rot x 6 ^^^ rot x 11) (rot x 25) (Nat.xor_lt_two_pow (n:=32) (zcj (by omega) hx) (zcj (by omega) hx)) (zcj (by omega) hx)
 have H1 : Hid (∀ W,Calls Tryz.prog 163 #[.int .u32 (x : Int),.int .i64 6] W fun e w' => e = .returned (.int .u32 (rot x 6 : Nat)) ∧ w' = W):=veil32 (fun W => zbn x 6 hx (by decide) (by decide) W)
 have H2 : Hid (∀ W,Calls Tryz.prog 163 #[.int .u32 (x : Int),.int .i64 11] W fun e w' => e = .returned (.int .u32 (rot x 11 : Nat)) ∧ w' = W):=veil32 (fun W => zbn x 11 hx (by decide) (by decide) W)
 have H3 : Hid (∀ W,Calls Tryz.prog 163 #[.int .u32 (x : Int),.int .i64 25] W fun e w' => e = .returned (.int .u32 (rot x 25 : Nat)) ∧ w' = W):=veil32 (fun W => zbn x 25 hx (by decide) (by decide) W)
 go_enter Tryz.func152,Tryz.ntmps152
 go_wp2_with (go_at_call 163; (first | ((with_reducible refine (H1.out _).mono ?_); rintro e w' ⟨rfl,rfl⟩) | ((with_reducible refine (H2.out _).mono ?_); rintro e w' ⟨rfl,rfl⟩) | ((with_reducible refine (H3.out _).mono ?_); rintro e w' ⟨rfl,rfl⟩)))
 go_ret
 exact ⟨rfl,rfl⟩
theorem bigZero_calls (x : Nat) (hx : x < 2 ^ 32) (w : World) :
  Calls Tryz.prog 154 #[.int .u32 (x : Int)] w fun e w' => e = .returned (.int .u32 (bs0 x : Nat)) ∧ w' = w:=by
 have k1:=xor32 (rot x 2) (rot x 13) (zcj (by omega) hx) (zcj (by omega) hx)
 have k2:=xor32 (rot x 2 ^^^ rot x 13) (rot x 22) (Nat.xor_lt_two_pow (n:=32) (zcj (by omega) hx) (zcj (by omega) hx)) (zcj (by omega) hx)
 have H1 : Hid (∀ W,Calls Tryz.prog 163 #[.int .u32 (x : Int),.int .i64 2] W fun e w' => e = .returned (.int .u32 (rot x 2 : Nat)) ∧ w' = W):=veil32 (fun W => zbn x 2 hx (by decide) (by decide) W)
 have H2 : Hid (∀ W,Calls Tryz.prog 163 #[.int .u32 (x : Int),.int .i64 13] W fun e w' => e = .returned (.int .u32 (rot x 13 : Nat)) ∧ w' = W):=veil32 (fun W => zbn x 13 hx (by decide) (by decide) W)
 have H3 : Hid (∀ W,Calls Tryz.prog 163 #[.int .u32 (x : Int),.int .i64 22] W fun e w' => e = .returned (.int .u32 (rot x 22 : Nat)) ∧ w' = W):=veil32 (fun W => zbn x 22 hx (by decide) (by decide) W)
 go_enter Tryz.func154,Tryz.ntmps154
 go_wp2_with (go_at_call 163; (first | ((with_reducible refine (H1.out _).mono ?_); rintro e w' ⟨rfl,rfl⟩) | ((with_reducible refine (H2.out _).mono ?_); rintro e w' ⟨rfl,rfl⟩) | ((with_reducible refine (H3.out _).mono ?_); rintro e w' ⟨rfl,rfl⟩)))
 go_ret
 exact ⟨rfl,rfl⟩
theorem smallOne_calls (x : Nat) (hx : x < 2 ^ 32) (w : World) :
  Calls Tryz.prog 161 #[.int .u32 (x : Int)] w fun e w' => e = .returned (.int .u32 (sg1 x : Nat)) ∧ w' = w:=by
 obtain ⟨q,hq⟩ : ∃ q,q = x / 2 ^ 10:=⟨_,rfl⟩
 have hql : q < 2 ^ 32:=by rw [hq]; exact shr_lt 10 hx
 have k3 : (x : Int) / 1024 = (q : Int):=by rw [hq,Int.natCast_ediv]; rfl
 have HQ:=veil32 hq
 clear hq
 have k1:=xor32 (rot x 17) (rot x 19) (zcj (by omega) hx) (zcj (by omega) hx)
 have k2:=xor32 (rot x 17 ^^^ rot x 19) (q) (Nat.xor_lt_two_pow (n:=32) (zcj (by omega) hx) (zcj (by omega) hx)) (hql)
 have H1 : Hid (∀ W,Calls Tryz.prog 163 #[.int .u32 (x : Int),.int .i64 17] W fun e w' => e = .returned (.int .u32 (rot x 17 : Nat)) ∧ w' = W):=veil32 (fun W => zbn x 17 hx (by decide) (by decide) W)
 have H2 : Hid (∀ W,Calls Tryz.prog 163 #[.int .u32 (x : Int),.int .i64 19] W fun e w' => e = .returned (.int .u32 (rot x 19 : Nat)) ∧ w' = W):=veil32 (fun W => zbn x 19 hx (by decide) (by decide) W)
 go_enter Tryz.func161,Tryz.ntmps161
 go_wp2_with (go_at_call 163; (first | ((with_reducible refine (H1.out _).mono ?_); rintro e w' ⟨rfl,rfl⟩) | ((with_reducible refine (H2.out _).mono ?_); rintro e w' ⟨rfl,rfl⟩)))
 go_ret
 exact ⟨by unfold sg1; rw [← HQ.out]; rfl,rfl⟩
theorem smallZero_calls (x : Nat) (hx : x < 2 ^ 32) (w : World) :
  Calls Tryz.prog 162 #[.int .u32 (x : Int)] w fun e w' => e = .returned (.int .u32 (sg0 x : Nat)) ∧ w' = w:=by
 obtain ⟨q,hq⟩ : ∃ q,q = x / 2 ^ 3:=⟨_,rfl⟩
 have hql : q < 2 ^ 32:=by rw [hq]; exact shr_lt 3 hx
 have k3 : (x : Int) / 8 = (q : Int):=by rw [hq,Int.natCast_ediv]; rfl
 have HQ:=veil32 hq
 clear hq
 have k1:=xor32 (rot x 7) (rot x 18) (zcj (by omega) hx) (zcj (by omega) hx)
 have k2:=xor32 (rot x 7 ^^^ rot x 18) (q) (Nat.xor_lt_two_pow (n:=32) (zcj (by omega) hx) (zcj (by omega) hx)) (hql)
 have H1 : Hid (∀ W,Calls Tryz.prog 163 #[.int .u32 (x : Int),.int .i64 7] W fun e w' => e = .returned (.int .u32 (rot x 7 : Nat)) ∧ w' = W):=veil32 (fun W => zbn x 7 hx (by decide) (by decide) W)
 have H2 : Hid (∀ W,Calls Tryz.prog 163 #[.int .u32 (x : Int),.int .i64 18] W fun e w' => e = .returned (.int .u32 (rot x 18 : Nat)) ∧ w' = W):=veil32 (fun W => zbn x 18 hx (by decide) (by decide) W)
 go_enter Tryz.func162,Tryz.ntmps162
 go_wp2_with (go_at_call 163; (first | ((with_reducible refine (H1.out _).mono ?_); rintro e w' ⟨rfl,rfl⟩) | ((with_reducible refine (H2.out _).mono ?_); rintro e w' ⟨rfl,rfl⟩)))
 go_ret
 exact ⟨by unfold sg0; rw [← HQ.out]; rfl,rfl⟩
theorem xor_all {x : Nat} (hx : x < 2 ^ 32) : bits .xor .u32 IntKind.u32.max (x : Int) = ((4294967295 - x : Nat) : Int):=by
 have h:=xor32 4294967295 x (by decide) hx
 have e : 4294967295 ^^^ x = 4294967295 - x:=by
  apply Nat.eq_of_testBit_eq
  intro i
  rw [Nat.testBit_xor,not_bit hx,show (4294967295 : Nat) = 2 ^ 32 - 1 from rfl,Nat.testBit_two_pow_sub_one]
  by_cases h : i < 32
  ·
   simp [h]
  ·
   have h32 : 2 ^ 32 ≤ 2 ^ i:=Nat.pow_le_pow_right (by omega) (by omega)
   rw [Nat.testBit_lt_two_pow (Nat.lt_of_lt_of_le hx h32)]
   simp [h]
 rw [e] at h
 exact h
theorem choice_calls (x y z : Nat) (hx : x < 2 ^ 32) (hy : y < 2 ^ 32) (hz : z < 2 ^ 32) (w : World) :
  Calls Tryz.prog 153 #[.int .u32 (x : Int),.int .u32 (y : Int),.int .u32 (z : Int)] w fun e w' => e = .returned (.int .u32 (chN x y z : Nat)) ∧ w' = w:=by
 have k1:=and32 x y hx hy
 have k2:=xor_all hx
 have k3:=and32 (4294967295 - x) z (by omega) hz
 have k4:=xor32 (x &&& y) ((4294967295 - x) &&& z) (Nat.lt_of_le_of_lt Nat.and_le_left hx) (Nat.lt_of_le_of_lt Nat.and_le_left (by omega))
 go_enter Tryz.func153,Tryz.ntmps153
 go_wp2
 go_ret
 exact ⟨rfl,rfl⟩
theorem majority_calls (x y z : Nat) (hx : x < 2 ^ 32) (hy : y < 2 ^ 32) (hz : z < 2 ^ 32) (w : World) :
  Calls Tryz.prog 155 #[.int .u32 (x : Int),.int .u32 (y : Int),.int .u32 (z : Int)] w fun e w' => e = .returned (.int .u32 (majN x y z : Nat)) ∧ w' = w:=by
 have k1:=and32 x y hx hy
 have k2:=and32 x z hx hz
 have k3:=and32 y z hy hz
 have l1 : x &&& y < 2 ^ 32:=Nat.lt_of_le_of_lt Nat.and_le_left hx
 have l2 : x &&& z < 2 ^ 32:=Nat.lt_of_le_of_lt Nat.and_le_left hx
 have l3 : y &&& z < 2 ^ 32:=Nat.lt_of_le_of_lt Nat.and_le_left hy
 have k4:=xor32 (x &&& y) (x &&& z) l1 l2
 have k5:=xor32 ((x &&& y) ^^^ (x &&& z)) (y &&& z) (Nat.xor_lt_two_pow (n:=32) l1 l2) l3
 clear l1 l2 l3 hx hy hz
 go_enter Tryz.func155,Tryz.ntmps155
 go_wp2
 go_ret
 exact ⟨rfl,rfl⟩
theorem info8 : (Tryz.prog.info? 168).map (·.size) = some 64:=by kernel_rfl
theorem info32 : (Tryz.prog.info? 183).map (·.size) = some 64:=by kernel_rfl
theorem zeros64 : (#[.int .u32 0,.int .u32 0,.int .u32 0,.int .u32 0,.int .u32 0,.int .u32 0,.int .u32 0,.int .u32 0,.int .u32 0,.int .u32 0,.int .u32 0,.int .u32 0,.int .u32 0,.int .u32 0,.int .u32 0,.int .u32 0,.int .u32 0,.int .u32 0,.int .u32 0,.int .u32 0,.int .u32 0,.int .u32 0,.int .u32 0,.int .u32 0,.int .u32 0,.int .u32 0,.int .u32 0,.int .u32 0,.int .u32 0,.int .u32 0,.int .u32 0,.int .u32 0,.int .u32 0,.int .u32 0,.int .u32 0,.int .u32 0,.int .u32 0,.int .u32 0,.int .u32 0,.int .u32 0,.int .u32 0,.int .u32 0,.int .u32 0,.int .u32 0,.int .u32 0,.int .u32 0,.int .u32 0,.int .u32 0,.int .u32 0,.int .u32 0,.int .u32 0,.int .u32 0,.int .u32 0,.int .u32 0,.int .u32 0,.int .u32 0,.int .u32 0,.int .u32 0,.int .u32 0,.int .u32 0,.int .u32 0,.int .u32 0,.int .u32 0,.int .u32 0] : Array Value) = arrOf 64 (fun _ => .int .u32 0):=rfl
def pwb (blk : Nat → Nat) (j : Nat) : Nat → Nat
 | 0 => 0
 | m + 1 => pwb blk j m * 256 + blk (4 * j + m)
theorem pwb_lt {blk : Nat → Nat} (h : ∀ j,blk j < 256) (j : Nat) : ∀ m,pwb blk j m < 256 ^ m
 | 0 => by simp [pwb]
 | m + 1 => by
  have ih:=pwb_lt h j m
  have hb:=h (4 * j + m)
  show pwb blk j m * 256 + blk (4 * j + m) < 256 ^ (m + 1)
  rw [Nat.pow_succ]; omega
def pw (blk : Nat → Nat) (k j : Nat) : Nat:=pwb blk j (min (k - 4 * j) 4)
theorem pw_zero (blk : Nat → Nat) (j : Nat) : pw blk 0 j = 0:=by unfold pw; rw [Nat.zero_sub,Nat.zero_min]; rfl
theorem pw_step {blk : Nat → Nat} {k : Nat} (j : Nat) : pw blk (k + 1) j = if j = k / 4 then pw blk k j * 256 + blk k else pw blk k j:=by
 unfold pw
 by_cases h : j = k / 4
 ·
  rw [if_pos h,show min (k + 1 - 4 * j) 4 = min (k - 4 * j) 4 + 1 by omega]
  show pwb blk j _ * 256 + blk (4 * j + _) = _
  rw [show 4 * j + min (k - 4 * j) 4 = k by omega]
 ·
  rw [if_neg h,show min (k + 1 - 4 * j) 4 = min (k - 4 * j) 4 by omega]
theorem pw_lt {blk : Nat → Nat} (h : ∀ j,blk j < 256) (k : Nat) : pw blk k (k / 4) < 16777216:=by
 unfold pw
 have:=pwb_lt h (k / 4) (min (k - 4 * (k / 4)) 4)
 have h2 : 256 ^ min (k - 4 * (k / 4)) 4 ≤ 256 ^ 3:=Nat.pow_le_pow_right (by omega) (by omega)
 have h3 : (256 : Nat) ^ 3 = 16777216:=by decide
 omega
theorem pw_all {blk : Nat → Nat} {j : Nat} (hj : j < 16) : pw blk 64 j = word blk (4 * j):=by
 unfold pw
 rw [show min (64 - 4 * j) 4 = 4 by omega]
 show (((0 * 256 + blk (4 * j + 0)) * 256 + blk (4 * j + 1)) * 256 + blk (4 * j + 2)) * 256 + blk (4 * j + 3) = _
 unfold word
 rw [Nat.add_zero]
 omega
theorem pw_none {blk : Nat → Nat} {j : Nat} (hj : 16 ≤ j) : pw blk 64 j = 0:=by
 unfold pw
 rw [show min (64 - 4 * j) 4 = 0 by omega]; rfl
theorem or_byte {x y : Nat} (hx : x < 16777216) (hy : y < 256) : bits .or .u32 ((x : Int) * 256) (y : Int) = ((x * 256 + y : Nat) : Int):=by
 have h:=or32 (x * 256) y (by omega) (by omega)
 rw [show x * 256 = 2 ^ 8 * x by omega,← Nat.two_pow_add_eq_or_of_lt (show y < 2 ^ 8 by omega)] at h
 rw [show x * 256 = 2 ^ 8 * x by omega,← h]
 rw [Int.natCast_mul,Int.mul_comm]; rfl
theorem words_calls (g : Nat) (s : St) (blk : Nat → Nat) (len : Nat) (hblk : ∀ j,blk j < 256) (w : World) (hH : HRow w g s blk len) :
  Calls Tryz.prog 151 #[.pointer (some ⟨g,0,none⟩)] w fun e w' => e = .returned (.agg (arrOf 64 fun t => .int .u32 (wt (fun t => word blk (4 * t)) t : Nat))) ∧ Below w.heap.size w w':=by
 go_enter Tryz.func151,Tryz.ntmps151
 go_upto_region 2 with (fail)
 rw [zeros64]
 have hN0 : ((w.alloc (.cells (arrOf 64 (fun _ => .int .u32 0)) 183)).alloc (.cells (arrOf 64 (fun _ => .int .u32 0)) 183)).rowIs w.heap.size 183 64 (fun _ => .int .u32 0):=(zdz w 64 183 (fun _ => .int .u32 0) rfl).alloc _
 have hR : ((w.alloc (.cells (arrOf 64 (fun _ => .int .u32 0)) 183)).alloc (.cells (arrOf 64 (fun _ => .int .u32 0)) 183)).rowIs (w.heap.size + 1) 183 64 (fun _ => .int .u32 0):=zdz _ 64 183 (fun _ => .int .u32 0) (by simp)
 have hb : Below w.heap.size w ((w.alloc (.cells (arrOf 64 (fun _ => .int .u32 0)) 183)).alloc (.cells (arrOf 64 (fun _ => .int .u32 0)) 183)):=((Below.refl _ _).alloc (by simp) _).alloc (by simp) _
 have hH1:=(hH.alloc (.cells (arrOf 64 (fun _ => .int .u32 0)) 183)).alloc (.cells (arrOf 64 (fun _ => .int .u32 0)) 183)
 generalize ((w.alloc (.cells (arrOf 64 (fun _ => .int .u32 0)) 183)).alloc (.cells (arrOf 64 (fun _ => .int .u32 0)) 183)) = w1 at *
 have HB:=veil hH1.block
 obtain ⟨B,hB⟩ : ∃ B,B = ((List.range 64).map fun j => Value.int .u8 (blk j : Nat)).toArray:=⟨_,rfl⟩
 have HBB:=veil hB
 clear hB
 go_wp2_with ((with_reducible refine zam 10 ?_); refine wpList_load_mid rfl 168 _ rfl g 8 rfl ((List.range 64).map fun j => Value.int .u8 (blk j : Nat)) _ HB.out Tryz.underlying168 rfl info8 ?_; rw [← HBB.out])
 go_loopw [11] (fun c wr => ∃ k : Nat,k ≤ 64 ∧ c = .int .i64 k ∧ wr.rowIs (w.heap.size + 1) 183 64 (fun j => .int .u32 (pw blk k j : Nat)) ∧ wr.rowIs w.heap.size 183 64 (fun _ => .int .u32 0) ∧ Below w.heap.size w wr)
  (fun c _ => 64 - (intOf c).toNat)
 case atStart => exact ⟨0,by omega,rfl,hR.congr fun j _ => by rw [pw_zero]; rfl,hN0,hb⟩
 case round =>
  obtain ⟨k,hk,rfl,hR,hN0,hb⟩:=hrel
  by_cases hlt : k < 64
  ·
   have hBk : B[k]? = some (.int .u8 (blk k : Nat)):=by rw [HBB.out]; simp [hlt]
   have hst:=fun j => pw_step (blk:=blk) (k:=k) j
   have hx:=pw_lt hblk k
   have hy:=hblk k
   obtain ⟨q,hq⟩ : ∃ q,q = k / 4:=⟨_,rfl⟩
   rw [← hq] at hst hx
   have hq16 : q < 16:=by omega
   have hqi : (k : Int) / 4 = (q : Int):=by omega
   obtain ⟨x,hxx⟩ : ∃ x,x = pw blk k q:=⟨_,rfl⟩
   obtain ⟨y,hyy⟩ : ∃ y,y = blk k:=⟨_,rfl⟩
   have c1:=hR.cell (show q < 64 by omega)
   have f1:=hR.frozen q
   rw [← hxx] at hx c1
   rw [← hyy] at hy hBk
   have ko:=or_byte hx hy
   have HS:=veil hst
   have HX:=veil hxx
   have HY:=veil hyy
   have HQ:=veil hq
   have kx:=fun W => zdu (P:=Tryz.prog) (t:=168) (cs:=B) (v:=.int .u8 (y : Int)) Tryz.underlying168 (by kernel_rfl) (fun W => run_part_plain (P:=Tryz.prog) W (e:=5) (by kernel_rfl) (xs:=B) (off:=k) hBk) hlt .i64 W
   clear hst hxx hyy hq hBk
   go_wp2
   go_roundw
   case rel =>
    refine ⟨k + 1,by omega,by go_num,(hR.set q _).congr fun j hj => ?_,zbi hN0 (by omega) _,zap hb (by omega) _⟩
    by_cases h : j = q
    ·
     subst h
     rw [if_pos rfl,HS.out,if_pos rfl,← HX.out,← HY.out]
     rfl
    ·
     rw [if_neg h,HS.out,if_neg h]
   case measure => simp [intOf]; omega
  ·
   have e64 : k = 64:=by omega
   have hR:=e64 ▸ hR
   have HK:=veil e64
   have hkf : decide ((k : Int) < 64) = false:=by simp; omega
   clear e64 hlt hk
   have hm : ∀ t,t < 16 → word blk (4 * t) < 2 ^ 32:=fun t _ => by
    unfold word
    have h0:=hblk (4 * t); have h1:=hblk (4 * t + 1); have h2:=hblk (4 * t + 2); have h3:=hblk (4 * t + 3)
    omega
   have hR : wr.rowIs (w.heap.size + 1) 183 64 (fun j => .int .u32 ((if j < 16 then wt (fun t => word blk (4 * t)) j else 0 : Nat) : Int)):=hR.congr fun j _ => by
    by_cases h : j < 16
    ·
     rw [if_pos h,wt_lo _ h,pw_all h]
    ·
     rw [if_neg h,pw_none (by omega)]
   have hW:=fun t => wt_lt (m:=fun t => word blk (4 * t)) hm t
   obtain ⟨m,hm0⟩ : ∃ m,m = fun t => word blk (4 * t):=⟨_,rfl⟩
   rw [← hm0] at hR hW
   have HM0:=veil hm0
   clear hm0
   have HM:=veil hm
   have HW:=veil hW
   have HBL:=veil hblk
   clear hm hW hblk
   go_wp2
   go_loopw [6] (fun c wr => ∃ t : Nat,16 ≤ t ∧ t ≤ 64 ∧ c = .int .i64 t ∧ wr.rowIs (w.heap.size + 1) 183 64 (fun j => .int .u32 ((if j < t then wt m j else 0 : Nat) : Int)) ∧ wr.rowIs w.heap.size 183 64 (fun _ => .int .u32 0) ∧ Below w.heap.size w wr)
    (fun c _ => 64 - (intOf c).toNat)
   case atStart => exact ⟨16,by omega,by omega,rfl,hR,hN0,hb⟩
   case round =>
    obtain ⟨t,ht16,ht,rfl,hR,hN0,hb⟩:=hrel
    by_cases hlt : t < 64
    ·
     obtain ⟨t16,e16⟩ : ∃ t16,t = t16 + 16:=⟨t - 16,by omega⟩
     have cell : ∀ d,0 < d → d ≤ 16 → wr.cell? ⟨w.heap.size + 1,t - d,none⟩ = some (.int .u32 (wt m (t - d) : Nat)):=fun d h0 h1 => by
      rw [hR.cell (show t - d < 64 by omega),if_pos (by omega)]
     have c2:=cell 2 (by omega) (by omega)
     have c7:=cell 7 (by omega) (by omega)
     have c15:=cell 15 (by omega) (by omega)
     have c16:=cell 16 (by omega) (by omega)
     have cT : wr.cell? ⟨w.heap.size + 1,t,none⟩ = some (.int .u32 0):=by
      rw [hR.cell hlt,if_neg (by omega)]; rfl
     have fT:=hR.frozen t
     have hwt:=wt_hi m (show ¬ t < 16 by omega)
     have l2:=HW.out (t - 2)
     have l7:=HW.out (t - 7)
     have l15:=HW.out (t - 15)
     have l16:=HW.out (t - 16)
     obtain ⟨x2,hx2⟩ : ∃ x,x = wt m (t - 2):=⟨_,rfl⟩
     obtain ⟨x7,hx7⟩ : ∃ x,x = wt m (t - 7):=⟨_,rfl⟩
     obtain ⟨x15,hx15⟩ : ∃ x,x = wt m (t - 15):=⟨_,rfl⟩
     obtain ⟨x16,hx16⟩ : ∃ x,x = wt m (t - 16):=⟨_,rfl⟩
     rw [← hx2] at c2 hwt l2
     rw [← hx7] at c7 hwt l7
     rw [← hx15] at c15 hwt l15
     rw [← hx16] at c16 hwt l16
     have i2 : (t : Int) - 2 = ((t - 2 : Nat) : Int):=by omega
     have i7 : (t : Int) - 7 = ((t - 7 : Nat) : Int):=by omega
     have i15 : (t : Int) - 15 = ((t - 15 : Nat) : Int):=by omega
     have i16 : (t : Int) - 16 = ((t - 16 : Nat) : Int):=by omega
     have b2 : t - 2 < 64:=by omega
     have b7 : t - 7 < 64:=by omega
     have b15 : t - 15 < 64:=by omega
     have b16 : t - 16 < 64:=by omega
     generalize t - 2 = t2 at *
     generalize t - 7 = t7 at *
     generalize t - 15 = t15 at *
     generalize t - 16 = t16' at *
     have a1 : ∀ x y : Nat,((x : Int) + (y : Int)) % 4294967296 = ((ad x y : Nat) : Int):=fun x y => by unfold ad; rw [Int.natCast_emod,Int.natCast_add]; rfl
     have a2 : ∀ x y : Nat,IntKind.u32.wrap ((x : Int) + (y : Int)) = ((ad x y : Nat) : Int):=fun x y => by rw [wrap32]; exact a1 x y
     have w2 : IntKind.i64.wrap (t2 : Int) = (t2 : Int):=IntWalk.i64_in _ (by omega)
     have w7 : IntKind.i64.wrap (t7 : Int) = (t7 : Int):=IntWalk.i64_in _ (by omega)
     have w15 : IntKind.i64.wrap (t15 : Int) = (t15 : Int):=IntWalk.i64_in _ (by omega)
     have w16 : IntKind.i64.wrap (t16' : Int) = (t16' : Int):=IntWalk.i64_in _ (by omega)
     have j2 : (t2 : Int) < 64:=by omega
     have j7 : (t7 : Int) < 64:=by omega
     have j15 : (t15 : Int) < 64:=by omega
     have j16 : (t16' : Int) < 64:=by omega
     have jT : (t : Int) < 64:=by omega
     have K1:=veil (fun W => smallOne_calls x2 l2 W)
     have K2:=veil (fun W => smallZero_calls x15 l15 W)
     have HT:=veil hwt
     have HH:=veil (And.intro hx2 (And.intro hx7 (And.intro hx15 hx16)))
     have E16:=veil e16
     clear cell hwt hx2 hx7 hx15 hx16 e16 l2 l15 l7 l16
     go_wp2
     go_still_tail 23,(by kernel_rfl)
     still_call (by first | ((with_reducible refine (K1.out _).mono ?_); rintro e w' ⟨rfl,rfl⟩; exact ⟨rfl,rfl⟩))
     repeat still_step
     still_call (by first | ((with_reducible refine (K2.out _).mono ?_); rintro e w' ⟨rfl,rfl⟩; exact ⟨rfl,rfl⟩))
     repeat still_step
     refine wpStill_nil ?_
     have hR2:=hR.drew
     have hN2:=hN0.drew
     have hb2:=hb.drew
     have cT2 : wr.drew.cell? ⟨w.heap.size + 1,t,none⟩ = some (.int .u32 0):=cT
     have fT2 : wr.drew.frozen? ⟨w.heap.size + 1,t,none⟩ = false:=fT
     change wpList _ _ _ _ _ wr.drew
     generalize wr.drew = w2 at *
     clear c2 c7 c15 c16 cT fT hR hN0 hb
     go_wp2
     go_roundw
     case rel =>
      refine ⟨t + 1,by omega,by omega,by go_num,(hR2.set t _).congr fun j hj => ?_,zbi hN2 (by omega) _,zap hb2 (by omega) _⟩
      by_cases h : j = t
      ·
       subst h
       rw [if_pos rfl,if_pos (by omega),HT.out]
      ·
       rw [if_neg h]
       by_cases h2 : j < t
       ·
        rw [if_pos h2,if_pos (by omega)]
       ·
        rw [if_neg h2,if_neg (by omega)]
     case measure => simp [intOf]; omega
    ·
     have e64 : t = 64:=by omega
     have hR:=e64 ▸ hR
     have hR : wr.rowIs (w.heap.size + 1) 183 64 (fun j => .int .u32 (wt m j : Nat)):=hR.congr fun j hj => by rw [if_pos hj]
     have htf : decide ((t : Int) < 64) = false:=by simp; omega
     clear HM HB HBB e64 hlt ht ht16
     have hA:=veil (blkOf hR)
     have hN:=veil (blkOf hN0)
     obtain ⟨A,hA2⟩ : ∃ A,A = arrOf 64 (fun j => .int .u32 (wt m j : Nat)):=⟨_,rfl⟩
     rw [← hA2] at hA
     have HE:=veil hA2
     have hs : A.size = 64:=by rw [hA2,zbk]
     have h1 : A.all (·.oneCell') = true:=by rw [hA2]; exact zeq fun _ _ => rfl
     have h2 : (Tryz.prog.info? 183).map (·.size) = some A.size:=by rw [hs]; exact info32
     have HZ:=veil (And.intro hs (And.intro h1 h2))
     clear hs h1 h2 hA2
     go_wp2_with (first
      | ((with_reducible refine zam 54 ?_); refine wpList_load_row rfl 183 _ rfl (w.heap.size + 1) rfl 183 A (0,0) _ hA.out Tryz.underlying183 rfl HZ.out.2.2 ?_)
      | ((with_reducible refine zan ?_); refine wpList_store_row rfl 183 _ _ rfl w.heap.size A rfl rfl 183 _ hN.out HZ.out.2.2 (by rw [HZ.out.1,zbk]) HZ.out.2.1 ?_))
     exact bodyPost_ret (results_cell_row rfl _ _ w.heap.size 183 A (0,0) _ rfl (setRow_heap wr w.heap.size _ A 183 (0,0) hN.out) Tryz.underlying183 rfl HZ.out.2.2) rfl ⟨by rw [HE.out,HM0.out],zen hb (Nat.le_refl _) _⟩
end Go.Proofs.YthlbemnbmbmjhaaGreatDoor
