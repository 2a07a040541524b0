/-
  Of L4 Lc SMath SSpec HBase HWords HWrite HSum SSumA M1 HLaid HLaw MDef N1 N2 NK G8 Q7 Q9 Bit PS S4 FMath FBase Mul64 MulMath ArgB FrameN QArg ArgK.
-/
import Derived.WalkKit
import Derived.Test.YthlbemnbmbmjhaaGreatDoorRows
import Derived.Deep.MidRow
import Derived.Deep.WholeRow
import Derived.ChangeKeysEq
import Derived.WalkSpells
import Derived.WalkLawsBesides
import Derived.Deep.LoopGhost
import Derived.Deep.RegionWith
import Derived.Deep.Cut
import Derived.Deep.CutRange
import Derived.Deep.RegionHeld3
import Derived.Deep.QuietTactic
import Derived.BigQuiet
import Derived.StillTailTactics
import Derived.IntWalk
import Derived.Laws.CopyOwn
import Derived.Deep.OwnRows
import Derived.Deep.CutBlock
import Derived.ProofKit
import Derived.LaidMore
import Derived.OpenShut
import Derived.Stop.Joined
import Derived.MakeChecks
import Derived.Carry
import Derived.Laws.BytesString
import Derived.BigFrame
import Derived.Deep.Matrix
import Derived.Laws.OwnMore
import Derived.ChangeSlices
import Derived.Lib.SmallJoins
import Derived.Laws.IdiomArrays
import Derived.Deep.Strs
import Derived.Test.YthlbemnbmbmjhaaGreatDoorZB7
import Derived.Test.YthlbemnbmbmjhaaGreatDoorZB8
import Derived.Test.YthlbemnbmbmjhaaGreatDoorZB1
import Derived.Test.YthlbemnbmbmjhaaGreatDoorZB2
import Derived.Test.YthlbemnbmbmjhaaGreatDoorZB5
import Derived.Test.YthlbemnbmbmjhaaGreatDoorZB6
import Derived.Test.YthlbemnbmbmjhaaGreatDoorZB4
import Derived.Test.YthlbemnbmbmjhaaGreatDoorZB3
set_option maxRecDepth 1000000
set_option maxHeartbeats 20000000
namespace Go.Proofs.YthlbemnbmbmjhaaGreatDoor
open Go.RowKit
open Go.Value renaming int → vI
open Go.IntKind renaming u64 → vU
open Go.Act renaming put → aP
open List renaming setIfInBounds_toArray → lA, set_cons_zero → lZ, set_cons_succ → lS
theorem str_ky (k : Ky) : strL (numB k.i) ++ strL (sigB k.x k.y) ++ strL (numB k.a) ++ strL (numB k.b) = strL (kyB k):=by
 unfold kyB
 rw [zcv,zcv,zcv,ByteArray.append_assoc,ByteArray.append_assoc]
theorem num_bound {n : Nat} {z : Int} (h : z = (n : Int)) (h2 : z ≤ 2147483647) : n ≤ 9223372036854775807:=by omega
theorem rbytes10_calls (v : Value) (l : List Ky) (w : World) (hF : Ks w v l) (hM : mayK l = true) :
  Calls Tryz.prog 13 #[v] w fun e w' => e = .returned (.string (strL (keysB l))) ∧ Ext w w':=by
 obtain ⟨AL,c,rfl,hc,hx⟩:=hF
 obtain ⟨n,hn⟩ : ∃ n,n = l.length:=⟨_,rfl⟩
 rw [← hn] at hx hc ⊢
 have hnL : n ≤ 32:=by rw [hn]; exact mayK_32 hM
 have HX:=veil (And.intro hx (And.intro hn hM))
 clear hx hn hM
 go_enter Tryz.func13,Tryz.ntmps13
 go_wp2
 go_loopw [3,4,5] (fun v u _ wr => ∃ i : Nat,i ≤ n ∧ u = .int .i64 (i : Int) ∧ OwnFs wr w.heap.size v (kyFs 1 (l.take i)) ∧ Ext w wr)
  (fun _ v _ _ => n - (intOf v).toNat)
 case atStart => exact ⟨0,by omega,rfl,OwnFs.nil _ _,Ext.refl _⟩
 case round =>
  obtain ⟨i,hi,rfl,hO,hE⟩:=hrel
  by_cases hlt : i < n
  ·
   have hd1 : decide ((i : Int) < (n : Int)) = true:=by simp; omega
   have hii : (i : Int) < (n : Int):=by omega
   have hil : i < l.length:=by have:=HX.out.2.1; omega
   obtain ⟨b,o,hAL,hb,hcl⟩:=HX.out.1.resolve_left (by omega)
   have HRG:=veil (And.intro (zbd hE hb (hcl i _ (zcn hil))) (Nat.lt_of_lt_of_le hb (Below.size hE)))
   have hok:=mayK_each HX.out.2.2 (l.getD i ky0) (List.mem_of_getElem? (zcn hil))
   have htk : kyFs 1 (l.take (i + 1)) = kyFs 1 (l.take i) ++ [((i : Int) + 1,kyB (l.getD i ky0))]:=by
    have e : l.take (i + 1) = l.take i ++ [l.getD i ky0]:=by rw [List.take_add_one,zcn hil]; rfl
    rw [e,kyFs_snoc,List.length_take,show min i l.length = i by omega,show (1 : Int) + (i : Int) = (i : Int) + 1 by omega]
   have hfl : (kyFs 1 (l.take i)).length ≤ 1000000000:=by rw [zbn,List.length_take]; omega
   generalize l.getD i ky0 = k at *
   obtain ⟨ki,hki⟩ : ∃ m : Nat,k.i = (m : Int):=⟨k.i.toNat,by omega⟩
   obtain ⟨ka,hka⟩ : ∃ m : Nat,k.a = (m : Int):=⟨k.a.toNat,by omega⟩
   obtain ⟨kb,hkb⟩ : ∃ m : Nat,k.b = (m : Int):=⟨k.b.toNat,by omega⟩
   have c0:=ky_i HRG.out.1
   have c10:=ky_a HRG.out.1
   have c11:=ky_b HRG.out.1
   rw [hki] at c0
   rw [hka] at c10
   rw [hkb] at c11
   have HS:=veil (show strL (numB (ki : Int)) ++ strL (sigB k.x k.y) ++ strL (numB (ka : Int)) ++ strL (numB (kb : Int)) = strL (kyB k) by rw [← hki,← hka,← hkb]; exact str_ky k)
   have K1:=veil (fun W => zeu ki (num_bound hki (by omega)) W)
   have K2:=veil (fun W => zeu ka (by omega) W)
   have K3:=veil (fun W => zeu kb (by omega) W)
   have HH:=veil (And.intro htk (And.intro hO (And.intro hE hfl)))
   have hlen:=zdn k
   subst hAL
   clear htk hO hE hfl hcl hb hok hki hka hkb
   go_upto_region 5 with (fail)
   refine zcj 29 [(true,[0,1,2,3,4,5,6,7,8,9,10,14,15,16,17,18,21,22,23,24,25]),(false,[11]),(true,[12,13,19,20,26,27,28])] (by kernel_rfl) (by kernel_rfl) fun Q' hQ' => ?_
   refine' zbc (A:=_) _ rfl (by kernel_rfl) ?_ ?_
   rotate_left
   ·
    intro D hD hN
    have e0:=hD.cell c0
    have e10:=hD.cell c10
    have e11:=hD.cell c11
    have k1:=veil (fun x : Gw D => hD.calls (v:=.string (strL (numB (ki : Int)))) (fun W _ => K1.out W) x)
    simp only [pickI,consO,List.getElem?_cons_zero,List.getElem?_cons_succ]
    iterate 6 (go_big_quiet_step (exact k1.out _))
    iterate 4 (go_big_quiet_step (fail))
    go_big_quiet_want
    refine zdg (.agg (qc k.x k.y k.f)) (fun x => zes rfl rfl (hD.range HRG.out.2 (ky_q HRG.out.1) x) Tryz.underlying29 rfl (iT k.x k.y k.f)) ?_
    simp only [aP,lA,lZ,lS]
    go_big_quiet_on
    repeat (go_big_quiet_step (fail))
    exact zbu
   refine zdf (R:=fun v W => ∃ A c,v = .slice A 64 c ∧ 64 ≤ c ∧ Bs W A (sigB k.x k.y)) _ rfl rfl rfl rfl rfl (zce Tryz.func29 rfl rfl _) (fun W _ => rptb_bs k.x k.y k.f W) ?_
   rintro _ W2 hE2 ⟨A2,c2,rfl,hc2,hB2⟩
   simp only [aP,lA,lZ,lS]
   have hl64:=zcw k.x k.y
   have z1 : (strL (numB (ki : Int))).size = 8:=by rw [zca,zbm]
   have z2 : (strL (sigB k.x k.y)).size = 64:=by rw [zca,zcw]
   have z3 : (strL (numB (ka : Int))).size = 8:=by rw [zca,zbm]
   have z4 : (strL (numB (kb : Int))).size = 8:=by rw [zca,zbm]
   have z12 : (strL (numB (ki : Int)) ++ strL (sigB k.x k.y)).size = 72:=by rw [ByteArray.size_append,z1,z2]
   have z123 : (strL (numB (ki : Int)) ++ strL (sigB k.x k.y) ++ strL (numB (ka : Int))).size = 80:=by rw [ByteArray.size_append,z12,z3]
   refine' zbc (A:=_) _ rfl (by kernel_rfl) ?_ ?_
   rotate_left
   ·
    intro D hD hN
    have k0 : ∀ x : Gw D,(convert 33 9 (.slice A2 64 c2)).run Tryz.prog x.val = .ok (.string (strL (sigB k.x k.y))) x.val:=fun x => str_of (hB2.ext (hD.grown _ x.property)) hl64.symm
    have k2:=veil (fun x : Gw D => hD.calls (v:=.string (strL (numB (ka : Int)))) (fun W _ => K2.out W) x)
    have k3:=veil (fun x : Gw D => hD.calls (v:=.string (strL (numB (kb : Int)))) (fun W _ => K3.out W) x)
    simp only [pickI,consO,List.getElem?_cons_zero,List.getElem?_cons_succ]
    go_big_quiet_step (fail)
    go_big_quiet_step (fail)
    go_big_quiet_step (exact k2.out _)
    go_big_quiet_step (fail)
    go_big_quiet_step (exact k3.out _)
    go_big_quiet_step (fail)
    go_big_quiet_step (fail)
    exact zbu
   refine zcb hQ' fun W3 hE3 => ?_
   have hEE:=hE2.trans hE3
   have HO:=veil (HH.out.2.1.keep hEE)
   have HE:=veil (HH.out.2.2.1.trans hEE)
   clear z1 z2 z3 z4 z12 z123 hE2 hE3 hEE hB2 hc2 c0 c10 c11 hl64 K1 K2 K3 HRG
   go_wp2_with (first
    | ((with_reducible refine zah 44 ?_); refine wpl_bytes (bs:=kyB k) rfl rfl (by show Value.string _ = _; rw [← HS.out]) (kyB_byt k) ?_; intro A' c' w2 hE2 hc' hB2 hF2)
    | ((with_reducible refine zah 47 ?_); refine wpl_append_fd (f:=((i : Int) + 1,kyB k)) (al:=(A',c')) rfl rfl rfl rfl (HO.out.keep (hE2.trans (Ext.alloc w2 _))) (zag w2 _) hc' (hB2.ext (Ext.alloc w2 _)) (hF2.off fun j hj => (HO.out.lt hj).2) HH.out.2.2.2 (Nat.le_trans (Below.size HE.out) (Below.size (hE2.trans (Ext.alloc w2 _)))) ?_; intro v' w5 hO5 hG5))
   have hEw:=HE.out.trans (hE2.trans (Ext.alloc w2 (.cells #[.int .i64 ((i : Int) + 1),.slice A' (kyB k).length c'] 64)))
   go_roundw
   case rel =>
    refine ⟨i + 1,by omega,by go_num,?_,hEw.grown hG5 (Below.size hEw) fun j hj => (HO.out.lt hj).1⟩
    rw [HH.out.1]
    exact hO5
   case measure => simp [intOf]; omega
  ·
   obtain rfl : i = n:=by omega
   have hd1 : decide ((i : Int) < (i : Int)) = false:=by simp
   have e : l.take i = l:=by rw [HX.out.2.1,List.take_length]
   rw [e] at hO
   have KP:=veil (rput8_calls _ (kyFs 1 l) wr hO.fl (kyFs_may (by have:=HX.out.2.1; omega)))
   have HE:=veil hE
   clear hO e hE
   go_wp2_with (go_at_call 30; refine KP.out.mono ?_; rintro e w1 ⟨rfl,hE1⟩)
   go_ret
   exact ⟨rfl,HE.out.trans hE1⟩
theorem eqNN (w : World) : (binOp .eql 35 .nilIface .nilIface).run Tryz.prog w = .ok (.bool true) w:=by kernel_rfl
theorem neNN (w : World) : (binOp .neq 35 .nilIface .nilIface).run Tryz.prog w = .ok (.bool false) w:=by kernel_rfl
theorem keys_both {w w' : World} {bs : List Nat} {x ev x' y' : Value} (h : KParseA w bs x ev) (hE : Ext w w') (h' : RKeysA w' bs x' y') :
  ((∃ A c,x = .slice A 0 c) ∧ ev = .iface 39 (.int .i64 2) ∧ y' = .bool false) ∨ (∃ l,WfK l ∧ l.length ≤ 1000000000 ∧ Ks w' x l ∧ Ks w' x' l ∧ ev = .nilIface ∧ y' = .bool true):=by
 rcases h with ⟨h,hx,he⟩ | ⟨l,h,hx,he⟩
 ·
  rcases h' with ⟨_,_,hy⟩ | ⟨l,k,_⟩
  ·
   exact .inl ⟨hx,he,hy⟩
  ·
   rw [h] at k; cases k
 ·
  rcases h' with ⟨k,_⟩ | ⟨l',k,hm,hl,hx',hy⟩
  ·
   rw [h] at k; cases k
  ·
   rw [h] at k
   injection k with k
   subst k
   exact .inr ⟨l,mayK_wf hm,by omega,hx.ext hE,hx',he,hy⟩
theorem kbytes_walk {L : Low} {I : World → Prop} (C : Code10 L I) (v : Value) (l : List Ky) (A : Option Addr) (m c' : Nat) (bs : List Nat) (hm : m = bs.length) (hmc : m ≤ c') (w : World) (hF : Ks w v l) (hT : TopK l) (hS : Bs w A bs) :
  Calls Tryz.prog 4 #[v,.slice A m c'] w fun e w' => e = .returned (.bool true) ∧ Ext w w':=by
 have HF:=veil (And.intro hF hT)
 have HS:=veil (And.intro hm (And.intro hmc hS))
 have HC:=veil C
 obtain ⟨AL,c,rfl,hc,_⟩:=hF
 obtain ⟨n,hn⟩ : ∃ n,n = l.length:=⟨_,rfl⟩
 rw [← hn] at hc HF ⊢
 have HN:=veil hn
 have KU:=veil (up10 HC.out w)
 clear hT C hn hm hmc hS
 go_enter Tryz.func4,Tryz.ntmps4
 go_upto_region 2 with (go_at_call 7; refine KU.out.mono ?_; rintro e w1 ⟨rfl,hE1⟩)
 have H1:=veil hE1
 clear hE1 KU
 by_cases g0 : (60 : Int) < (n : Int)
 ·
  have hd : decide ((60 : Int) < (n : Int)) = true:=decide_eq_true g0
  go_wp2
  go_ret
  exact ⟨rfl,H1.out⟩
 ·
  have hd : decide ((60 : Int) < (n : Int)) = false:=decide_eq_false g0
  by_cases g1 : (8000 : Int) < (m : Int)
  ·
   have hd2 : decide ((8000 : Int) < (m : Int)) = true:=decide_eq_true g1
   go_wp2
   go_ret
   exact ⟨rfl,H1.out⟩
  ·
   have hd2 : decide ((8000 : Int) < (m : Int)) = false:=decide_eq_false g1
   have hle : l.length ≤ 1000:=by have:=HN.out; omega
   have KM:=veil (fun W (hW : Ext w W) => zhc _ l W (HF.out.1.ext hW) HF.out.2 (by omega))
   have KB:=veil (HC.out.bytes _ l w1 (HF.out.1.ext H1.out) HF.out.2 hle)
   have KP:=veil (fun W (hW : Ext w W) => HC.out.parse A m c' bs W HS.out.1 HS.out.2.1 (by omega) (HS.out.2.2.ext hW))
   have KQ:=veil (fun W (hW : Ext w W) => rparse10_calls A m c' bs HS.out.1 HS.out.2.1 (by omega) W (HS.out.2.2.ext hW))
   clear hle g0 g1
   go_upto_region 5 with (go_at_call 12; refine KB.out.mono ?_; rintro e w2 ⟨x,ev,rfl,hE2,hA⟩)
   have H2:=veil (H1.out.trans hE2)
   have HA:=veil hA
   clear hE2 hA H1 KB
   go_upto_region 6 with (go_at_call 8; refine (KM.out _ H2.out).mono ?_; rintro e w3 ⟨rfl,hE3⟩)
   have H3:=veil (And.intro (H2.out.trans hE3) hE3)
   clear hE3 H2 KM
   rcases HA.out with ⟨hmay,⟨A2,c2,rfl⟩,rfl⟩ | ⟨hmay,⟨A2,c2,rfl,hc2,hB2⟩,rfl⟩
   all_goals rw [hmay]
   ·
    have kn:=neErr1
    clear hmay HA
    refine zcj 26 [(true,List.range 26)] (by kernel_rfl) (by kernel_rfl) fun Q' hQ' => ?_
    refine' zbc (A:=_) _ rfl (by kernel_rfl) ?_ ?_
    rotate_left
    ·
     intro D hD hN
     simp only [List.range,List.range.loop,pickI,consO,List.getElem?_cons_zero,List.getElem?_cons_succ]
     repeat (go_big_quiet_step (fail))
     exact zbu
    refine zcb hQ' fun w5 hE5 => ?_
    have H5:=veil (H3.out.1.trans hE5)
    clear hE5 H3 kn
    go_upto_region 9 with (go_at_call 14; refine (KP.out _ H5.out).mono ?_; rintro e w6 ⟨x,ev,rfl,hE6,hA⟩)
    have H6:=veil (And.intro (H5.out.trans hE6) hA)
    clear hE6 hA H5 KP
    go_upto_region 10 with (go_at_call 15; refine (KQ.out _ H6.out.1).mono ?_; rintro e w7 ⟨x',y',rfl,hE7,hA⟩)
    have hb:=keys_both H6.out.2 hE7 hA
    have H7:=veil (H6.out.1.trans hE7)
    clear hE7 hA H6 KQ
    rcases hb with ⟨⟨A3,c3,rfl⟩,rfl,rfl⟩ | ⟨l',hw,hl,h1,h2,rfl,rfl⟩
    ·
     have k2:=eqCode22
     go_wp2
     go_ret
     exact ⟨rfl,H7.out⟩
    ·
     have KS:=veil (zgf x x' l' w7 h1 h2 hw hl)
     have k2:=eqNN
     clear h1 h2 hw hl
     go_wp2_with (go_at_call 16; refine KS.out.mono ?_; rintro e w8 ⟨rfl,hE8⟩)
     go_ret
     exact ⟨rfl,H7.out.trans hE8⟩
   ·
    have kn:=neNN
    have KR:=veil (fun W (hW : Ext w W) => rbytes10_calls _ l W (HF.out.1.ext hW) hmay)
    obtain ⟨N,hN0⟩ : ∃ N,N = (keysB l).length:=⟨_,rfl⟩
    rw [← hN0] at hc2 ⊢
    have HB:=veil (And.intro hN0 (hB2.ext H3.out.2))
    clear hmay HA hN0 hB2
    refine zcj 26 [(true,List.range 26)] (by kernel_rfl) (by kernel_rfl) fun Q' hQ' => ?_
    refine' zbc (A:=_) _ rfl (by kernel_rfl) ?_ ?_
    rotate_left
    ·
     intro D hD hN
     have k1 : ∀ x : Gw D,(convert 33 9 (.slice A2 N c2)).run Tryz.prog x.val = .ok (.string (strL (keysB l))) x.val:=fun x => str_of (HB.out.2.ext (hD.grown _ x.property)) HB.out.1
     have KS:=veil (fun x : Gw D => hD.calls (f:=13) (args:=#[.slice AL n c]) (v:=.string (strL (keysB l))) (fun W hW => KR.out W (H3.out.1.trans hW)) x)
     simp only [List.range,List.range.loop,pickI,consO,List.getElem?_cons_zero,List.getElem?_cons_succ]
     repeat (go_big_quiet_step (exact KS.out _))
     exact zbu
    refine zcb hQ' fun w5 hE5 => ?_
    have H5:=veil (H3.out.1.trans hE5)
    clear hE5 H3 kn HB KR
    go_upto_region 9 with (go_at_call 14; refine (KP.out _ H5.out).mono ?_; rintro e w6 ⟨x,ev,rfl,hE6,hA⟩)
    have H6:=veil (And.intro (H5.out.trans hE6) hA)
    clear hE6 hA H5 KP
    go_upto_region 10 with (go_at_call 15; refine (KQ.out _ H6.out.1).mono ?_; rintro e w7 ⟨x',y',rfl,hE7,hA⟩)
    have hb:=keys_both H6.out.2 hE7 hA
    have H7:=veil (H6.out.1.trans hE7)
    clear hE7 hA H6 KQ
    rcases hb with ⟨⟨A3,c3,rfl⟩,rfl,rfl⟩ | ⟨l',hw,hl,h1,h2,rfl,rfl⟩
    ·
     have k2:=eqCode22
     go_wp2
     go_ret
     exact ⟨rfl,H7.out⟩
    ·
     have KS:=veil (zgf x x' l' w7 h1 h2 hw hl)
     have k2:=eqNN
     clear h1 h2 hw hl
     go_wp2_with (go_at_call 16; refine KS.out.mono ?_; rintro e w8 ⟨rfl,hE8⟩)
     go_ret
     exact ⟨rfl,H7.out.trans hE8⟩
end Go.Proofs.YthlbemnbmbmjhaaGreatDoor
namespace Go.Proofs.YthlbemnbmbmjhaaGreatDoor
def rot (x n : Nat) : Nat:=x / 2 ^ n + 2 ^ (32 - n) * (x % 2 ^ n)
end Go.Proofs.YthlbemnbmbmjhaaGreatDoor
namespace Go.Proofs.YthlbemnbmbmjhaaGreatDoor
def kList : List Nat:=[1116352408,1899447441,3049323471,3921009573,961987163,1508970993,2453635748,2870763221,3624381080,310598401,607225278,1426881987,1925078388,2162078206,2614888103,3248222580,3835390401,4022224774,264347078,604807628,770255983,1249150122,1555081692,1996064986,2554220882,2821834349,2952996808,3210313671,3336571891,3584528711,113926993,338241895,666307205,773529912,1294757372,1396182291,1695183700,1986661051,2177026350,2456956037,2730485921,2820302411,3259730800,3345764771,3516065817,3600352804,4094571909,275423344,430227734,506948616,659060556,883997877,958139571,1322822218,1537002063,1747873779,1955562222,2024104815,2227730452,2361852424,2428436474,2756734187,3204031479,3329325298]
def kc (t : Nat) : Nat:=kList.getD t 0
def ad (x y : Nat) : Nat:=(x + y) % 4294967296
def sg0 (x : Nat) : Nat:=rot x 7 ^^^ rot x 18 ^^^ (x / 2 ^ 3)
def sg1 (x : Nat) : Nat:=rot x 17 ^^^ rot x 19 ^^^ (x / 2 ^ 10)
def bs0 (x : Nat) : Nat:=rot x 2 ^^^ rot x 13 ^^^ rot x 22
def bs1 (x : Nat) : Nat:=rot x 6 ^^^ rot x 11 ^^^ rot x 25
def chN (x y z : Nat) : Nat:=(x &&& y) ^^^ ((4294967295 - x) &&& z)
def majN (x y z : Nat) : Nat:=(x &&& y) ^^^ (x &&& z) ^^^ (y &&& z)
def sched (m : Nat → Nat) : Nat → List Nat
 | 0 => []
 | t + 1 => let l:=sched m t
  l ++ [if t < 16 then m t else ad (ad (ad (sg1 (l.getD (t - 2) 0)) (l.getD (t - 7) 0)) (sg0 (l.getD (t - 15) 0))) (l.getD (t - 16) 0)]
def wt (m : Nat → Nat) (t : Nat) : Nat:=(sched m (t + 1)).getD t 0
structure St where
 a : Nat
 b : Nat
 c : Nat
 d : Nat
 e : Nat
 f : Nat
 g : Nat
 h : Nat
def t1N (s : St) (k w : Nat) : Nat:=ad (ad (ad (ad s.h (bs1 s.e)) (chN s.e s.f s.g)) k) w
def t2N (s : St) : Nat:=ad (bs0 s.a) (majN s.a s.b s.c)
def stepN (s : St) (k w : Nat) : St:=⟨ad (t1N s k w) (t2N s),s.a,s.b,s.c,ad s.d (t1N s k w),s.e,s.f,s.g⟩
def roundsN (m : Nat → Nat) (s : St) : Nat → St
 | 0 => s
 | t + 1 => stepN (roundsN m s t) (kc t) (wt m t)
def addSt (x y : St) : St:=⟨ad x.a y.a,ad x.b y.b,ad x.c y.c,ad x.d y.d,ad x.e y.e,ad x.f y.f,ad x.g y.g,ad x.h y.h⟩
def blockN (m : Nat → Nat) (s : St) : St:=addSt s (roundsN m s 64)
def word (text : Nat → Nat) (i : Nat) : Nat:=text i * 16777216 + text (i + 1) * 65536 + text (i + 2) * 256 + text (i + 3)
def blocksN (text : Nat → Nat) : Nat → St
 | 0 => ⟨1779033703,3144134277,1013904242,2773480762,1359893119,2600822924,528734635,1541459225⟩
 | n + 1 => blockN (fun t => word text (64 * n + 4 * t)) (blocksN text n)
def nBlocks (len : Nat) : Nat:=(len + 9 + 63) / 64
def padded (b : Nat → Nat) (len : Nat) : Nat → Nat:=fun i =>
 if i < len then b i else if i = len then 128 else if i < 64 * nBlocks len - 8 then 0 else 8 * len / 256 ^ (64 * nBlocks len - 1 - i) % 256
def shaSt (b : Nat → Nat) (len : Nat) : St:=blocksN (padded b len) (nBlocks len)
end Go.Proofs.YthlbemnbmbmjhaaGreatDoor
namespace Go.Proofs.YthlbemnbmbmjhaaGreatDoor
open Go.RowKit
open Go.Value renaming int → vI
open Go.IntKind renaming u64 → vU
open Go.Act renaming put → aP
open List renaming setIfInBounds_toArray → lA, set_cons_zero → lZ, set_cons_succ → lS
def St.at (s : St) (j : Nat) : Nat:=match j with | 0 => s.a | 1 => s.b | 2 => s.c | 3 => s.d | 4 => s.e | 5 => s.f | 6 => s.g | _ => s.h
section
variable {w w' : World} {g B len : Nat} {s : St} {blk : Nat → Nat}
end
structure KT (w : World) : Prop where
 lt : 0 < w.heap.size
 cell : ∀ j,j < 64 → w.cell? ⟨0,j,none⟩ = some (.int .u32 (kc j : Nat))
section
variable {w w' : World} {B : Nat}
theorem KT.of_block (h : KT w) (e : w'.heap[0]? = w.heap[0]?) (hs : w.heap.size ≤ w'.heap.size) : KT w' :=
 ⟨Nat.lt_of_lt_of_le h.lt hs,fun j hj => (World.cell?_of_block (w:=w) (a:=⟨0,j,none⟩) e).trans (h.cell j hj)⟩
theorem KT.below (h : KT w) (hb : Below B w w') (hB : 0 < B) : KT w':=h.of_block (hb.block 0 hB) hb.size
theorem KT.call (h : KT w) (hb : Below w.heap.size w w') : KT w':=h.below hb h.lt
theorem KT.alloc (h : KT w) (o : Obj) : KT (w.alloc o):=h.of_block (Below.heap_alloc _ _ _ h.lt) (by simp)
theorem KT.drew (h : KT w) : KT w.drew:=⟨h.lt,h.cell⟩
theorem KT.drewN (h : KT w) (k : Nat) : KT (w.drewN k):=⟨h.lt,h.cell⟩
theorem KT.far {b i : Nat} (h : KT w) (hne : 0 ≠ b) (v : Value) : KT (w.setCell ⟨b,i,none⟩ v):=h.of_block (Below.heap_setCell _ _ _ _ hne) (by simp [World.setCell])
theorem KT.grown {r : Nat} (h : KT w) (hg : w.grownBy w' (some r)) (hne : 0 ≠ r) : KT w':=h.of_block (hg.block 0 h.lt (by simpa using hne)) hg.size
end
def pwb (blk : Nat → Nat) (j : Nat) : Nat → Nat
 | 0 => 0
 | m + 1 => pwb blk j m * 256 + blk (4 * j + m)
def pw (blk : Nat → Nat) (k j : Nat) : Nat:=pwb blk j (min (k - 4 * j) 4)
section
variable {w w' : World} {g B L : Nat} {b b' : Nat → Nat}
end
def cat (b : Nat → Nat) (len : Nat) (y : Nat → Nat) : Nat → Nat:=fun i => if i < len then b i else y (i - len)
section
variable {w w' : World} {A : Option Addr} {n g B : Nat} {y : Nat → Nat}
end
def lenOf : Value → Nat | .slice _ r _ => r | _ => 0
def dByte (s : St) (i : Nat) : Nat:=s.at (i / 4) / 256 ^ (3 - i % 4) % 256
section
variable {w wr w' : World} {gR gT gH gK N : Nat} {tx : Nat → Value} {st st' : Nat → Value}
end
def hst (s : St) : Nat → Value:=fun j => .int .u32 (s.at j : Nat)
def upTo (y : Nat → Nat) (n j : Nat) : Nat:=if j < n then y j else 0
def kb (y : Nat → Nat) (n : Nat) : Nat → Nat:=if n > 64 then upTo (fun j => dByte (shaSt y n) j) 32 else upTo y n
def kx (k : Nat → Nat) (x : Nat) (j : Nat) : Value:=.int .u8 ((k j ^^^ x : Nat) : Int)
end Go.Proofs.YthlbemnbmbmjhaaGreatDoor
namespace Go.Proofs.YthlbemnbmbmjhaaGreatDoor
open Go.ChangeShapes Go.WideShapes Go.ChangeAt Go.RowKit
open Go.Value renaming int → vI
open Go.IntKind renaming u64 → vU
open Go.Act renaming put → aP
open List renaming setIfInBounds_toArray → lA, set_cons_zero → lZ, set_cons_succ → lS
theorem own : ownKnob Tryz.prog.godebug = none:=by kernel_rfl
def laidL : List (String × DataW Unit):=[("clapper/sha.roundWords",Rows.laid_clapper_sha_roundWords)]
theorem door_met (os : Os) (args : Array Value) : laidMetH Tryz.prog laidL ((World.doorLaid Tryz.prog 14 os).forCall (fun _ _ => 0) ⟨#[],args,[]⟩).memory :=
 laidMetH_of_parts3 (fuel:=8) (laidMet_of_run' 8 (by kernel_rfl) (by kernel_rfl)) (by kernel_rfl) (by kernel_rfl)
end Go.Proofs.YthlbemnbmbmjhaaGreatDoor
namespace Go.Proofs.YthlbemnbmbmjhaaGreatDoor
open Go.ChangeShapes Go.WideShapes Go.ChangeAt Go.RowKit
open Go.Value renaming int → vI
open Go.IntKind renaming u64 → vU
open Go.Act renaming put → aP
open List renaming setIfInBounds_toArray → lA, set_cons_zero → lZ, set_cons_succ → lS
/-! ### a text -/
/-! ### '==' between sums -/
/-! ### slices cut anywhere -/
theorem kt_now {w wr : World} (h : KT w) (hb : Below w.heap.size w wr) : KT wr:=h.call hb
theorem Own.but {w w' : World} {base e n r : Nat} {v : Value} {f : Nat → Value} (o : Own w base e v n f) (hb : But r w w') (hr : r < base) : Own w' base e v n f :=
 o.kept hb (by
  cases h : v.ownBlock with
  | none => exact .inl rfl
  | some k => exact .inr (fun e => by have:=(o.lt h).1; simp at e; omega))
theorem Own.call {w w' : World} {base e n : Nat} {v : Value} {f : Nat → Value} (o : Own w base e v n f) (hb : Below w.heap.size w w') : Own w' base e v n f:=o.below hb (Nat.le_refl _)
/-! ### arguments -/
end Go.Proofs.YthlbemnbmbmjhaaGreatDoor
namespace Go.Proofs.YthlbemnbmbmjhaaGreatDoor
open Go.RowKit
open Go.Value renaming int → vI
open Go.IntKind renaming u64 → vU
open Go.Act renaming put → aP
open List renaming setIfInBounds_toArray → lA, set_cons_zero → lZ, set_cons_succ → lS
def macIn (y : Nat → Nat) (n : Nat) (t : Nat → Nat) : Nat → Nat:=cat (fun j => kb y n j ^^^ 54) 64 t
def macOut (y : Nat → Nat) (n : Nat) (t : Nat → Nat) (m : Nat) : Nat → Nat:=cat (fun j => kb y n j ^^^ 92) 64 (fun j => dByte (shaSt (macIn y n t) (64 + m)) j)
/-! ### steps of a region that draws its order -/
def nb (k : Nat → Nat) (n : Nat) (t : Nat → Nat) (m : Nat) : Nat → Nat:=fun j => dByte (shaSt (macOut k n t m) 96) j
section
variable {P : Program} {o : Oper} {a : Act} {w : World}
end
def mayB (X : Nat) : Bool:=decide (X ≠ 0) && decide (X < Pt.nn)
structure KV where
 k : Nat → Nat
 v : Nat → Nat
def tx (v : Nat → Nat) (b : Nat) (t : Nat → Nat) : Nat → Nat:=cat v 32 (cat (fun _ => b) 1 t)
def KV.step (s : KV) : KV:=⟨s.k,nb s.k 32 s.v 32⟩
def none0 : Nat → Nat:=fun _ => 0
def be (X j : Nat) : Nat:=dg 256 X (31 - j)
def two (D M : Nat) : Nat → Nat:=cat (be D) 32 (be M)
def hf (X M : Nat) : Nat:=if X % 2 = 0 then X / 2 else (X + M) / 2
def x3 (U T X1 X2 : Nat) : Nat:=((U * T % Pt.pp * (U * T % Pt.pp) % Pt.pp + Pt.pp - X1) % Pt.pp + Pt.pp - X2) % Pt.pp
def y3 (U T X1 Y1 X2 : Nat) : Nat:=(U * T % Pt.pp * ((X1 + Pt.pp - x3 U T X1 X2) % Pt.pp) % Pt.pp + Pt.pp - Y1) % Pt.pp
theorem v_three : ((3 : Fin Pt.pp)).val = 3:=by
 rw [← Pt.F_three]
 exact Nat.mod_eq_of_lt three_lt
theorem p_top (p : Pt.P Pt.pp) : Pt.pX p < top ∧ Pt.pY p < top:=⟨Nat.lt_trans (Pt.pX_lt p) zbt,Nat.lt_trans (Pt.pY_lt p) zbt⟩
theorem right_val (x : Fin Pt.pp) : rightN x.val = (x * x * x - 3 * x + Pt.F Pt.bb).val:=by
 unfold rightN
 have e3 : 3 * x.val % Pt.pp = (3 * x).val:=by rw [← Pt.v_mul,v_three]
 have eb : Pt.bb = (Pt.F Pt.bb : Fin Pt.pp).val:=(Nat.mod_eq_of_lt bb_lt).symm
 rw [e3,Pt.v_mul,Pt.v_mul,Pt.v_sub]
 conv => lhs; rw [eb]
 rw [Pt.v_add]
theorem onB_iff (X Y : Nat) (f : Bool) : onB X Y f = true ↔ Pt.isOn X Y f:=by
 unfold onB Pt.isOn
 cases f with
 | true => simp
 | false =>
  simp only [Bool.false_eq_true,if_false,Bool.and_eq_true,decide_eq_true_eq]
  constructor
  ·
   rintro ⟨hx,hy,h⟩
   refine ⟨hx,hy,(Pt.on_iff _ _).2 (Fin.ext ?_)⟩
   have ex : X = (Pt.F X : Fin Pt.pp).val:=(Nat.mod_eq_of_lt hx).symm
   have ey : Y = (Pt.F Y : Fin Pt.pp).val:=(Nat.mod_eq_of_lt hy).symm
   rw [← Pt.v_mul,← right_val,← ex,← ey]
   exact h
  ·
   rintro ⟨hx,hy,h⟩
   refine ⟨hx,hy,?_⟩
   have ex : X = (Pt.F X : Fin Pt.pp).val:=(Nat.mod_eq_of_lt hx).symm
   have ey : Y = (Pt.F Y : Fin Pt.pp).val:=(Nat.mod_eq_of_lt hy).symm
   have h2:=congrArg Fin.val ((Pt.on_iff _ _).1 h)
   rw [← Pt.v_mul,← right_val,← ex,← ey] at h2
   exact h2
theorem onB_some {X Y : Nat} {f : Bool} (h : onB X Y f = true) : ∃ q : Pt.Q,X = Pt.pX q.1 ∧ Y = Pt.pY q.1 ∧ f = Pt.pFar q.1:=(Pt.isOn_iff X Y f).1 ((onB_iff X Y f).1 h)
theorem onB_of (q : Pt.Q) : onB (Pt.pX q.1) (Pt.pY q.1) (Pt.pFar q.1) = true:=(onB_iff _ _ _).2 ((Pt.isOn_iff _ _ _).2 ⟨q,rfl,rfl,rfl⟩)
def bit (X n : Nat) : Bool:=X / 2 ^ n % 2 == 1
theorem w64_two : w64 = 2 ^ 64:=by decide
theorem bit_dg (a n r m : Nat) (hr : r < m) : a / (2 ^ m) ^ n % 2 ^ m / 2 ^ r % 2 = a / 2 ^ (m * n + r) % 2:=by
 have h:=zcg (B:=2) (a / (2 ^ m) ^ n) m r hr
 unfold dg at h
 rw [h,← Nat.pow_mul,Nat.div_div_eq_div_mul,← Nat.pow_add]
theorem bit_word (X n : Nat) : (bits BinOp.and IntKind.u64 (wd X (n / 64) / 2 ^ (n % 64)) 1 == 1) = bit X n:=by
 have e : wd X (n / 64) / 2 ^ (n % 64) = ((dg w64 X (n / 64) / 2 ^ (n % 64) : Nat) : Int):=by
  unfold wd
  rw [Int.natCast_ediv]
  simp
 have hlt : dg w64 X (n / 64) / 2 ^ (n % 64) < 18446744073709551616:=Nat.lt_of_le_of_lt (Nat.div_le_self _ _) (dg_lt zaq X _)
 rw [e,show (1 : Int) = ((1 : Nat) : Int) from rfl,u64_and_nat _ _ hlt (by omega),Nat.and_one_is_mod]
 have h:=bit_dg X (n / 64) (n % 64) 64 (Nat.mod_lt _ (by omega))
 rw [Nat.div_add_mod] at h
 unfold bit dg
 rw [w64_two,h]
 rw [Bool.eq_iff_iff]
 simp only [beq_iff_eq]
 omega
theorem bit_in (X n : Nat) (hn : n < 256) (w : World) :
  Calls Tryz.prog 120 #[.agg #[vI vU (wd X 0),vI vU (wd X 1),vI vU (wd X 2),vI vU (wd X 3)],.int .i64 (n : Int)] w fun e w' => e = .returned (.bool (bit X n)) ∧ Below w.heap.size w w':=by
 have hq : n / 64 < 4:=by omega
 have h0 : ¬ (n : Int) < 0:=by omega
 have h1 : ¬ (256 : Int) ≤ (n : Int):=by omega
 have hR : (w.alloc (.cells #[vI vU (wd X 0),vI vU (wd X 1),vI vU (wd X 2),vI vU (wd X 3)] 27)).rowIs w.heap.size 27 4 (fun j => .int .u64 (wd X j)):=zac (n:=4) (by simp) rfl (arr4 fun j => .int .u64 (wd X j))
 have c1:=hR.cell hq
 have l1:=wd_lo X (n / 64)
 have u1:=wd_le X (n / 64)
 clear hR
 go_enter Tryz.func120,Tryz.ntmps120
 go_wp2
 go_ret
 rw [← bit_word]
 exact ⟨rfl,(Below.refl _ _).alloc (Nat.le_refl _) _⟩
end Go.Proofs.YthlbemnbmbmjhaaGreatDoor
namespace Go.Proofs.YthlbemnbmbmjhaaGreatDoor.Pt
abbrev Ne:=Fin nn
section
variable {n : Nat} [NeZero n]
def gi (x : Fin n) : Fin n:=pf x (n - 2)
end
section
variable (n : Nat) [NeZero n]
def iG (a : Nat) : Nat:=(gi (F a : Fin n)).val
end
/-! ### multiples -/
/-! ### signatures -/
def rOf (k : Nat) : Nat:=pX (grp.mul k base).1 % nn
def sOf (d e k : Nat) : Nat:=iG nn k * ((e % nn + rOf k * d % nn) % nn) % nn
end Go.Proofs.YthlbemnbmbmjhaaGreatDoor.Pt
namespace Go.Proofs.YthlbemnbmbmjhaaGreatDoor
open Go.RowKit
open Go.Value renaming int → vI
open Go.IntKind renaming u64 → vU
open Go.Act renaming put → aP
open List renaming setIfInBounds_toArray → lA, set_cons_zero → lZ, set_cons_succ → lS
def pick (D E : Nat) : List Nat → Option (Nat × Nat)
 | [] => none
 | k :: l => if (mayB (Pt.rOf k) && mayB (Pt.sOf D E k)) = true then some (Pt.rOf k,Pt.sOf D E k) else pick D E l
end Go.Proofs.YthlbemnbmbmjhaaGreatDoor
namespace Go.Proofs.YthlbemnbmbmjhaaGreatDoor
def top8 : Nat:=w64 ^ 8
theorem zgz : top8 = top * top:=by unfold top8 top; rw [← Nat.pow_add]
theorem zgx : w64 = 18446744073709551616:=rfl
theorem div_succ' (B n i : Nat) : n / B ^ (i + 1) = n / B ^ i / B:=by rw [Nat.pow_succ,Nat.div_div_eq_div_mul]
theorem setw {B : Nat} (hB : 0 < B) (Z k n v : Nat) (hk : k < n) (hZ : Z < B ^ n) (hv : v < B) :
  ∃ Z',Z' < B ^ n ∧ (∀ m,dg B Z' m = if m = k then v else dg B Z m) ∧ Z' + B ^ k * dg B Z k = Z + B ^ k * v:=by
 have hP : 0 < B ^ k:=Nat.pow_pos hB
 have e1 : B ^ k * (Z / B ^ k) + Z % B ^ k = Z:=Nat.div_add_mod _ _
 have e2 : B * (Z / B ^ k / B) + Z / B ^ k % B = Z / B ^ k:=Nat.div_add_mod _ _
 have hr:=Nat.mod_lt Z hP
 have hq : Z / B ^ k / B < B ^ (n - (k + 1)):=by
  rw [← div_succ',Nat.div_lt_iff_lt_mul (Nat.pow_pos hB),← Nat.pow_add,show n - (k + 1) + (k + 1) = n by omega]; exact hZ
 have hn : B ^ n = B ^ k * (B * B ^ (n - (k + 1))):=by
  rw [← Nat.mul_assoc,← Nat.pow_succ,← Nat.pow_add]; congr 1; omega
 have hd : dg B Z k = Z / B ^ k % B:=rfl
 have hdm : ∀ j,dg B Z (k + 1 + j) = Z / B ^ k / B / B ^ j % B:=by
  intro j; unfold dg; rw [Nat.pow_add,← Nat.div_div_eq_div_mul,div_succ']
 have hlo : ∀ j,j < k → dg B Z j = dg B (Z % B ^ k) j:=fun j hj => (zcg Z k j hj).symm
 rw [hd,hn]
 clear hd hn hZ
 generalize Z / B ^ k / B = q at *
 generalize Z / B ^ k % B = d at *
 generalize Z / B ^ k = a at *
 generalize Z % B ^ k = r at *
 have hz : r + B ^ k * (v + B * q) = r + B ^ k * v + B ^ k * (B * q):=by rw [Nat.mul_add,Nat.add_assoc]
 refine ⟨r + B ^ k * (v + B * q),?_,?_,?_⟩
 ·
  have : v + B * q + 1 ≤ B * B ^ (n - (k + 1)):=by
   have : B * (q + 1) ≤ B * B ^ (n - (k + 1)):=Nat.mul_le_mul_left _ hq
   rw [Nat.mul_add] at this; omega
  have:=Nat.mul_le_mul_left (B ^ k) this
  rw [Nat.mul_add] at this; omega
 ·
  have hdiv : (r + B ^ k * (v + B * q)) / B ^ k = v + B * q:=by
   rw [Nat.add_mul_div_left _ _ hP,Nat.div_eq_of_lt hr,Nat.zero_add]
  intro m
  by_cases h : m = k
  ·
   rw [if_pos h,h]
   unfold dg
   rw [hdiv,Nat.add_mul_mod_self_left,Nat.mod_eq_of_lt hv]
  ·
   rw [if_neg h]
   by_cases hlt : m < k
   ·
    rw [← zcg _ k m hlt,Nat.add_mul_mod_self_left,Nat.mod_eq_of_lt hr,hlo m hlt]
   ·
    obtain ⟨j,rfl⟩ : ∃ j,m = k + 1 + j:=⟨m - (k + 1),by omega⟩
    rw [hdm]
    unfold dg
    rw [Nat.pow_add,← Nat.div_div_eq_div_mul,div_succ',hdiv,Nat.add_mul_div_left _ _ hB,Nat.div_eq_of_lt hv,Nat.zero_add]
 ·
  rw [hz,← e1,← e2,Nat.mul_add]
  omega
theorem setwd (Z k : Nat) (v : Int) (hk : k < 8) (hZ : Z < top8) (h0 : 0 ≤ v) (h1 : v ≤ 18446744073709551615) :
  ∃ Z',Z' < top8 ∧ (∀ m,wd Z' m = if m = k then v else wd Z m) ∧ Z' + w64 ^ k * dg w64 Z k = Z + w64 ^ k * v.toNat:=by
 obtain ⟨Z',a,b,c⟩:=setw zaq Z k 8 v.toNat hk hZ (by unfold w64; omega)
 refine ⟨Z',a,fun m => ?_,c⟩
 unfold wd
 rw [b m]
 split
 ·
  omega
 ·
  rfl
theorem col_step {B Z Z' Z0 t m c c' x i j M : Nat} (hM : m = dg B M j) (e : Z + c * B ^ (i + j) = Z0 + t * (M % B ^ j) * B ^ i)
  (hx : x + B * c' = t * m + c + dg B Z (i + j)) (hZ : Z' + B ^ (i + j) * dg B Z (i + j) = Z + B ^ (i + j) * x) :
  Z' + c' * B ^ (i + (j + 1)) = Z0 + t * (M % B ^ (j + 1)) * B ^ i:=by
 rw [zbk,← hM,← Nat.add_assoc i j 1,Nat.pow_succ B (i + j)]
 have h1 : t * (M % B ^ j + B ^ j * m) * B ^ i = t * (M % B ^ j) * B ^ i + B ^ (i + j) * (t * m):=by
  rw [Nat.mul_add,Nat.add_mul,Nat.pow_add]
  congr 1
  rw [Nat.mul_left_comm t,Nat.mul_comm (B ^ i),Nat.mul_comm (B ^ j * B ^ i),Nat.mul_comm (B ^ j),Nat.mul_assoc]
 have h2:=congrArg (fun z => B ^ (i + j) * z) hx
 simp only [Nat.mul_add] at h2
 rw [h1]
 have h3 : c' * (B ^ (i + j) * B) = B ^ (i + j) * (B * c'):=by rw [Nat.mul_comm c',Nat.mul_assoc]
 rw [h3]
 rw [Nat.mul_comm c] at e
 generalize B ^ (i + j) * (B * c') = p1 at *
 generalize B ^ (i + j) * (t * m) = p2 at *
 generalize B ^ (i + j) * c = p3 at *
 generalize B ^ (i + j) * dg B Z (i + j) = p4 at *
 generalize B ^ (i + j) * x = p5 at *
 omega
theorem low_dvd {B Z : Nat} {k : Nat} (h : Z % B ^ k = 0) : Z = B ^ k * (Z / B ^ k):=by
 have:=Nat.div_add_mod Z (B ^ k); omega
theorem row_done {B X M Z Z1 Z2 T t c o o' x k : Nat} (hlow : Z % B ^ k = 0) (hT : T < B ^ k) (ht : t < B) (hM : M < B ^ 4) (e : Z + o * B ^ (k + 4) = X + T * M)
  (ht0 : (dg B Z k + t * dg B M 0) % B = 0) (h1 : Z1 + c * B ^ (k + 4) = Z + t * (M % B ^ 4) * B ^ k) (hx : x + B * o' = dg B Z1 (k + 4) + c + o)
  (h2 : Z2 + B ^ (k + 4) * dg B Z1 (k + 4) = Z1 + B ^ (k + 4) * x) :
  Z2 % B ^ (k + 1) = 0 ∧ T + B ^ k * t < B ^ (k + 1) ∧ Z2 + o' * B ^ (k + 1 + 4) = X + (T + B ^ k * t) * M:=by
 have hz:=low_dvd hlow
 rw [Nat.mod_eq_of_lt hM] at h1
 have hp5 : B ^ (k + 1 + 4) = B ^ (k + 4) * B:=by rw [← Nat.pow_succ,show k + 1 + 4 = k + 4 + 1 by omega]
 have hq : B ^ (k + 4) = B ^ (k + 1) * B ^ 3:=by rw [← Nat.pow_add,show k + 1 + 3 = k + 4 by omega]
 have f : Z2 + o' * B ^ (k + 1 + 4) = Z + t * M * B ^ k + o * B ^ (k + 4):=by
  have h3:=congrArg (fun z => B ^ (k + 4) * z) hx
  simp only [Nat.mul_add] at h3
  rw [hp5,Nat.mul_comm o',Nat.mul_assoc (B ^ (k + 4)),Nat.mul_comm o]
  rw [Nat.mul_comm c] at h1
  generalize B ^ (k + 4) * dg B Z1 (k + 4) = p1 at *
  generalize B ^ (k + 4) * x = p2 at *
  generalize B ^ (k + 4) * c = p3 at *
  generalize B ^ (k + 4) * o = p4 at *
  generalize B ^ (k + 4) * (B * o') = p5 at *
  omega
 refine ⟨?_,?_,?_⟩
 ·
  have g : (Z2 + o' * B ^ (k + 1 + 4)) % B ^ (k + 1) = Z2 % B ^ (k + 1):=by
   rw [hp5,hq,Nat.mul_comm o',Nat.mul_assoc,Nat.mul_assoc,Nat.add_mul_mod_self_left]
  rw [← g,f,hq,Nat.mul_comm o,Nat.mul_assoc (B ^ (k + 1)),Nat.add_mul_mod_self_left]
  have hd : (Z / B ^ k + t * M) % B = 0:=by
   have : dg B Z k = Z / B ^ k % B:=rfl
   rw [this] at ht0
   have h0 : dg B M 0 = M % B:=by unfold dg; rw [Nat.pow_zero,Nat.div_one]
   rw [h0,Nat.mod_add_mod,Nat.add_mod,Nat.mul_mod,Nat.mod_mod,← Nat.mul_mod,← Nat.add_mod] at ht0
   exact ht0
  rw [hz,Nat.mul_comm (t * M),← Nat.mul_add,Nat.pow_succ,Nat.mul_mod_mul_left,hd,Nat.mul_zero]
 ·
  rw [Nat.pow_succ]
  have : B ^ k * (t + 1) ≤ B ^ k * B:=Nat.mul_le_mul_left _ ht
  rw [Nat.mul_add] at this; omega
 ·
  rw [f,Nat.add_mul,Nat.mul_right_comm t M,Nat.mul_comm (B ^ k) t]
  generalize t * B ^ k * M = p3 at *
  generalize o * B ^ (k + 4) = p1 at *
  generalize T * M = p2 at *
  omega
theorem times_zero {d n m : Int} (h : (18446744073709551616 : Int) ∣ m * n - 1) :
  (d + (-d % 18446744073709551616 * n) % 18446744073709551616 * m) % 18446744073709551616 = 0:=by
 have e1:=Int.emod_add_mul_ediv (-d) 18446744073709551616
 have e2:=Int.emod_add_mul_ediv (-d % 18446744073709551616 * n) 18446744073709551616
 generalize -d % 18446744073709551616 * n / 18446744073709551616 = q2 at *
 generalize -d % 18446744073709551616 * n % 18446744073709551616 = t at *
 generalize -d / 18446744073709551616 = q1 at *
 generalize -d % 18446744073709551616 = s at *
 obtain ⟨c,hc⟩:=h
 apply Int.emod_eq_zero_of_dvd
 refine ⟨-d * c - q1 * n * m - q2 * m,?_⟩
 have et : t = s * n - 18446744073709551616 * q2:=by omega
 have es : s = -d - 18446744073709551616 * q1:=by omega
 have hmn : m * n = 18446744073709551616 * c + 1:=by omega
 rw [et,es]
 have : (-d - 18446744073709551616 * q1) * n * m = (-d - 18446744073709551616 * q1) * (m * n):=by rw [Int.mul_assoc,Int.mul_comm n]
 simp only [Int.sub_mul,Int.mul_sub,Int.neg_mul,Int.mul_assoc] at *
 rw [Int.mul_comm n m,hmn]
 simp only [Int.mul_add,Int.mul_one]
 have e3 : d * (18446744073709551616 * c) = 18446744073709551616 * (d * c):=by rw [Int.mul_left_comm]
 rw [e3]
 have e4 : q1 * (18446744073709551616 * c) = 18446744073709551616 * (q1 * c):=by rw [Int.mul_left_comm]
 rw [e4]
 omega
/-! ### Newton's steps -/
theorem newton {D E m x : Int} (h : D ∣ m * x - 1) (hE : E ∣ D * D) (hW : E ∣ 18446744073709551616) :
  E ∣ m * (x * ((2 - m * x % 18446744073709551616) % 18446744073709551616) % 18446744073709551616) - 1:=by
 obtain ⟨a,ha⟩:=h
 have e1:=Int.emod_add_mul_ediv (m * x) 18446744073709551616
 have e2:=Int.emod_add_mul_ediv (2 - m * x % 18446744073709551616) 18446744073709551616
 have e3:=Int.emod_add_mul_ediv (x * ((2 - m * x % 18446744073709551616) % 18446744073709551616)) 18446744073709551616
 generalize x * ((2 - m * x % 18446744073709551616) % 18446744073709551616) / 18446744073709551616 = q3 at *
 generalize x * ((2 - m * x % 18446744073709551616) % 18446744073709551616) % 18446744073709551616 = t3 at *
 generalize (2 - m * x % 18446744073709551616) / 18446744073709551616 = q2 at *
 generalize (2 - m * x % 18446744073709551616) % 18446744073709551616 = t2 at *
 generalize m * x / 18446744073709551616 = q1 at *
 generalize m * x % 18446744073709551616 = t1 at *
 -- m x = 1 + D a; t2 = 2 - m x + W (q1 - q2); t3 = x t2 - W q3
 have h3 : t3 = x * t2 - 18446744073709551616 * q3:=by omega
 have h2 : t2 = 2 - m * x + 18446744073709551616 * (q1 - q2):=by omega
 have hk : m * t3 - 1 = -(D * D) * (a * a) + 18446744073709551616 * (m * x * (q1 - q2) - m * q3):=by
  rw [h3,h2]
  have hx : m * x = 1 + D * a:=by omega
  rw [Int.mul_sub,← Int.mul_assoc,Int.mul_add,hx,Int.mul_left_comm m,Int.mul_left_comm (1 + D * a) 18446744073709551616]
  have : (1 + D * a) * (2 - (1 + D * a)) = 1 - D * D * (a * a):=by
   rw [show (2 : Int) - (1 + D * a) = 1 - D * a by omega,Int.mul_sub,Int.mul_one,Int.add_mul,Int.one_mul]
   have : D * a * (D * a) = D * D * (a * a):=by rw [Int.mul_assoc,Int.mul_left_comm a,Int.mul_assoc]
   omega
  rw [this,Int.neg_mul,Int.mul_sub]
  omega
 rw [hk]
 exact Int.dvd_add (Int.dvd_trans (Int.dvd_neg.2 hE) (Int.dvd_mul_right _ _)) (Int.dvd_trans hW (Int.dvd_mul_right _ _))
def dv (k : Nat) : Int:=match k with | 0 => 8 | 1 => 64 | 2 => 4096 | 3 => 16777216 | 4 => 281474976710656 | _ => 18446744073709551616
theorem dv_start {m : Int} (h : m % 2 = 1) : dv 0 ∣ m * m - 1:=by
 show (8 : Int) ∣ m * m - 1
 obtain ⟨a,b,ha,hb⟩ : ∃ a b : Int,m = 8 * a + b ∧ (b = 1 ∨ b = 3 ∨ b = 5 ∨ b = 7):=⟨m / 8,m % 8,by omega,by omega⟩
 have : m * m = 8 * (a * (8 * a) + 2 * (a * b)) + b * b:=by
  rw [ha,Int.add_mul,Int.mul_add,Int.mul_add,Int.mul_assoc,Int.mul_assoc,Int.mul_comm b,Int.mul_assoc 8 a b]
  omega
 rw [this]
 rcases hb with rfl | rfl | rfl | rfl <;> omega
theorem dv_step {m x : Int} {k : Nat} (hk : k < 5) (h : dv k ∣ m * x - 1) :
  dv (k + 1) ∣ m * (x * ((2 - m * x % 18446744073709551616) % 18446744073709551616) % 18446744073709551616) - 1:=by
 refine newton h ?_ ?_
 ·
  match k,hk with
  | 0,_ => decide
  | 1,_ => decide
  | 2,_ => decide
  | 3,_ => decide
  | 4,_ => decide
 ·
  match k,hk with
  | 0,_ => decide
  | 1,_ => decide
  | 2,_ => decide
  | 3,_ => decide
  | 4,_ => decide
/-! ### modulo an odd number,2^256 can be taken away -/
theorem top_twoF : top = 2 ^ 256:=by decide
theorem cop_top {M : Nat} (h : M % 2 = 1) : Nat.Coprime top M:=by
 rw [top_twoF]
 apply Nat.Coprime.pow_left
 unfold Nat.Coprime
 rw [Nat.gcd_rec,h]; rfl
theorem cut_top {M A B : Nat} (hM : M % 2 = 1) (h : A * top % M = B * top % M) : A % M = B % M:=by
 have hc : Nat.Coprime M top:=(cop_top hM).symm
 have key : ∀ {a b : Nat},a ≤ b → a * top % M = b * top % M → a % M = b % M:=by
  intro a b hab h
  have h1 : M ∣ (b - a) * top:=by
   rw [Nat.sub_mul]
   exact Nat.dvd_of_mod_eq_zero (Nat.sub_mod_eq_zero_of_mod_eq h.symm)
  have h2 : M ∣ b - a:=Nat.Coprime.dvd_of_dvd_mul_right hc h1
  obtain ⟨c,hc2⟩:=h2
  rw [show b = a + M * c by omega,Nat.add_mul_mod_self_left]
 rcases Nat.le_total A B with hab | hab
 ·
  exact key hab h
 ·
  exact (key hab h.symm).symm
theorem shr_sum {X M Z T o : Nat} (hX : X < top8) (hT : T < top) (hM0 : 0 < M) (hlow : Z % top = 0) (e : Z + o * top8 = X + T * M) :
  (Z / top + o * top) * top = X + T * M ∧ Z / top + o * top < top + M ∧ (X < M * top → Z / top + o * top < 2 * M):=by
 have hp:=zbz
 have hz : top * (Z / top) + Z % top = Z:=Nat.div_add_mod _ _
 rw [zgz] at *
 have e2 : (Z / top + o * top) * top = X + T * M:=by
  rw [Nat.add_mul,Nat.mul_assoc,Nat.mul_comm (Z / top)]; omega
 have hTM : T * M < top * M:=Nat.mul_lt_mul_of_pos_right hT hM0
 refine ⟨e2,?_,fun h => ?_⟩
 ·
  apply Nat.lt_of_mul_lt_mul_right (a:=top)
  rw [e2,Nat.add_mul,Nat.mul_comm M]; omega
 ·
  apply Nat.lt_of_mul_lt_mul_right (a:=top)
  rw [e2,Nat.mul_assoc 2,Nat.mul_comm M] at *
  omega
end Go.Proofs.YthlbemnbmbmjhaaGreatDoor
namespace Go.Proofs.YthlbemnbmbmjhaaGreatDoor
open Go.RowKit
open Go.Value renaming int → vI
open Go.IntKind renaming u64 → vU
open Go.Act renaming put → aP
open List renaming setIfInBounds_toArray → lA, set_cons_zero → lZ, set_cons_succ → lS
def fdf (M : Nat) (N : Int) (Q : Nat) : Nat → Value:=fun j => if j < 4 then .int .u64 (wd M j) else if j = 4 then .int .u64 N else .int .u64 (wd Q (j - 5))
def Fb (w : World) (b M : Nat) (N : Int) (Q : Nat) : Prop:=w.rowIs b 159 9 (fdf M N Q)
structure Fok (M : Nat) (N : Int) (Q : Nat) : Prop where
 m2 : 2 < M
 odd : M % 2 = 1
 mt : M < top
 n0 : 0 ≤ N
 n1 : N ≤ 18446744073709551615
 inv : (18446744073709551616 : Int) ∣ wd M 0 * N - 1
 q : Q = top8 % M
theorem Fok.qm {M : Nat} {N : Int} {Q : Nat} (h : Fok M N Q) : Q < M:=by rw [h.q]; exact Nat.mod_lt _ (by have:=h.m2; omega)
section
variable {w w' : World} {b M Q B : Nat} {N : Int}
theorem Fb.lt (h : Fb w b M N Q) : b < w.heap.size:=World.rowIs.lt h
theorem Fb.below (h : Fb w b M N Q) (hb : Below B w w') (hlt : b < B) : Fb w' b M N Q:=zaa h hb hlt
theorem Fb.call (h : Fb w b M N Q) (hb : Below w.heap.size w w') : Fb w' b M N Q:=zaa h hb h.lt
theorem Fb.drew (h : Fb w b M N Q) : Fb w.drew b M N Q:=h
theorem Fb.alloc (h : Fb w b M N Q) (o : Obj) : Fb (w.alloc o) b M N Q:=World.rowIs.alloc h o
theorem Fb.far {b' i : Nat} (h : Fb w b M N Q) (hne : b ≠ b') (v : Value) : Fb (w.setCell ⟨b',i,none⟩ v) b M N Q:=zar h hne v
theorem Fb.mod (h : Fb w b M N Q) : w.cell? ⟨b,0,none⟩ = some (vI vU (wd M 0)) ∧ w.cell? ⟨b,1,none⟩ = some (vI vU (wd M 1)) ∧ w.cell? ⟨b,2,none⟩ = some (vI vU (wd M 2)) ∧ w.cell? ⟨b,3,none⟩ = some (vI vU (wd M 3)) :=
 ⟨World.rowIs.cell h (by omega),World.rowIs.cell h (by omega),World.rowIs.cell h (by omega),World.rowIs.cell h (by omega)⟩
theorem Fb.inv (h : Fb w b M N Q) : w.cell? ⟨b,4,none⟩ = some (vI vU N):=World.rowIs.cell h (by omega)
theorem Fb.sq (h : Fb w b M N Q) : w.cell? ⟨b,5,none⟩ = some (vI vU (wd Q 0)) ∧ w.cell? ⟨b,6,none⟩ = some (vI vU (wd Q 1)) ∧ w.cell? ⟨b,7,none⟩ = some (vI vU (wd Q 2)) ∧ w.cell? ⟨b,8,none⟩ = some (vI vU (wd Q 3)) :=
 ⟨World.rowIs.cell h (by omega),World.rowIs.cell h (by omega),World.rowIs.cell h (by omega),World.rowIs.cell h (by omega)⟩
end
theorem wide_num (X : Nat) (h : X < top) : wd X 4 = 0 ∧ wd X 5 = 0 ∧ wd X 6 = 0 ∧ wd X 7 = 0:=by
 have e : ∀ i,4 ≤ i → wd X i = 0:=by
  intro i hi
  unfold wd dg
  rw [Nat.div_eq_of_lt (Nat.lt_of_lt_of_le h (Nat.pow_le_pow_right zaq hi))]; rfl
 exact ⟨e 4 (by omega),e 5 (by omega),e 6 (by omega),e 7 (by omega)⟩
theorem wide_calls (X : Nat) (hX : X < top) (w : World) :
  Calls Tryz.prog 156 #[.agg #[vI vU (wd X 0),vI vU (wd X 1),vI vU (wd X 2),vI vU (wd X 3)]] w fun e w' => e = .returned (.agg #[vI vU (wd X 0),vI vU (wd X 1),vI vU (wd X 2),vI vU (wd X 3),vI vU (wd X 4),vI vU (wd X 5),vI vU (wd X 6),vI vU (wd X 7)]) ∧ Below w.heap.size w w':=by
 obtain ⟨e4,e5,e6,e7⟩:=wide_num X hX
 rw [e4,e5,e6,e7]
 have hA0 : ((w.alloc (.cells #[vI vU (wd X 0),vI vU (wd X 1),vI vU (wd X 2),vI vU (wd X 3)] 27)).alloc (.cells #[vI vU 0,vI vU 0,vI vU 0,vI vU 0,vI vU 0,vI vU 0,vI vU 0,vI vU 0] 165)).rowIs w.heap.size 27 4 (fun j => .int .u64 (wd X j)):=(zac (n:=4) (by simp) rfl (arr4 fun j => .int .u64 (wd X j))).alloc _
 have hR0 : ((w.alloc (.cells #[vI vU (wd X 0),vI vU (wd X 1),vI vU (wd X 2),vI vU (wd X 3)] 27)).alloc (.cells #[vI vU 0,vI vU 0,vI vU 0,vI vU 0,vI vU 0,vI vU 0,vI vU 0,vI vU 0] 165)).rowIs (w.heap.size + 1) 165 8 (fun _ => .int .u64 0):=zac (n:=8) (by simp) rfl (arr8 fun _ => .int .u64 0)
 obtain ⟨c0,c1,c2,c3⟩:=zad hA0
 obtain ⟨f0,f1,f2,f3,f4,f5,f6,f7⟩:=row_f8 hR0
 obtain ⟨d0,d1,d2,d3,d4,d5,d6,d7⟩:=row_c8 hR0
 clear e4 e5 e6 e7
 go_enter Tryz.func156,Tryz.ntmps156
 go_wp2
 exact bodyPost_ret (results_cell_row rfl _ _ (w.heap.size + 1) 165 #[vI vU (wd X 0),vI vU (wd X 1),vI vU (wd X 2),vI vU (wd X 3),vI vU 0,vI vU 0,vI vU 0,vI vU 0] (0,0) _ rfl (blk8 (zac (n:=8) (f:=fun j => if j < 4 then Value.int .u64 (wd X j) else .int .u64 0) (by simp) rfl (arr8 fun j => if j < 4 then Value.int .u64 (wd X j) else .int .u64 0))) Tryz.underlying165 rfl (by kernel_rfl)) rfl ⟨rfl,((Below.refl _ _).alloc (by simp) _).alloc (by simp) _⟩
theorem inverse_calls (m : Int) (h0 : 0 ≤ m) (h1 : m ≤ 18446744073709551615) (hodd : m % 2 = 1) (w : World) :
  Calls Tryz.prog 137 #[vI vU m] w fun e w' => ∃ n : Int,0 ≤ n ∧ n ≤ 18446744073709551615 ∧ (18446744073709551616 : Int) ∣ m * n - 1 ∧ e = .returned (.int .u64 n) ∧ w' = w:=by
 have hS:=veil (dv_start hodd)
 clear hodd
 go_enter Tryz.func137,Tryz.ntmps137
 go_wp2
 go_loopw [3,5] (fun x i wr => ∃ (k : Nat) (n : Int),k ≤ 5 ∧ i = .int .i64 (k : Int) ∧ x = .int .u64 n ∧ 0 ≤ n ∧ n ≤ 18446744073709551615 ∧ Hid (dv k ∣ m * n - 1) ∧ wr = w)
  (fun _ i _ => 5 - (intOf i).toNat)
 case atStart => exact ⟨0,m,by omega,rfl,rfl,h0,h1,hS,rfl⟩
 case round =>
  obtain ⟨k,n,hk,rfl,rfl,n0,n1,hD,rfl⟩:=hrel
  by_cases hlt : k < 5
  ·
   have hn:=veil (dv_step hlt hD.out)
   obtain ⟨y,hy⟩ : ∃ y,y = n * ((2 - m * n % 18446744073709551616) % 18446744073709551616) % 18446744073709551616:=⟨_,rfl⟩
   rw [← hy] at hn
   have y0 : 0 ≤ y:=by omega
   have y1 : y ≤ 18446744073709551615:=by omega
   have hY:=veil hy
   clear hy
   go_wp2
   go_roundw
   case rel => exact ⟨k + 1,y,by omega,by go_num,by simp only [IntKind.wrap_u64]; rw [hY.out],y0,y1,hn,trivial⟩
   case measure => simp [intOf]; omega
  ·
   obtain rfl : k = 5:=by omega
   go_wp2
   go_ret
   exact ⟨n,n0,n1,hD.out,rfl,rfl⟩
theorem ret_u2 {a b c d : Int} (h : a = b) (h2 : c = d) : Ending.returned (.tuple #[vI vU a,vI vU c]) = .returned (.tuple #[vI vU b,vI vU d]):=by rw [h,h2]
theorem mul64 (x y : Int) (hx : 0 ≤ x) (hx2 : x ≤ 18446744073709551615) (hy : 0 ≤ y) (hy2 : y ≤ 18446744073709551615) (w : World) :
  Calls Tryz.prog 160 #[vI vU x,vI vU y] w fun e w' => e = .returned (.tuple #[vI vU (x * y / 18446744073709551616),vI vU (x * y % 18446744073709551616)]) ∧ w' = w:=by
 have key:=mul64_arith x y hx (by omega) hy (by omega)
 have m1:=and_low32 x hx (by omega)
 have m2:=and_low32 y hy (by omega)
 have K:=veil key
 have M1:=veil m1
 have M2:=veil m2
 clear key m1 m2
 go_enter Tryz.func160,Tryz.ntmps160
 go_wp2
 go_ret2
 refine ⟨ret_u2 ?_ ?_,rfl⟩
 ·
  simp only [M1.out,M2.out,IntKind.wrap_u64]
  rw [and_low32 _ (by omega) (by omega)]
  exact K.out
 ·
  exact IntKind.wrap_u64 _
theorem ma_bound {x y : Int} (hx : 0 ≤ x) (hx2 : x ≤ 18446744073709551615) (hy : 0 ≤ y) (hy2 : y ≤ 18446744073709551615) : 0 ≤ x * y ∧ x * y ≤ 340282366920938463426481119284349108225:=by
 refine ⟨Int.mul_nonneg hx hy,?_⟩
 have:=Int.mul_le_mul hx2 hy2 hy (by omega : (0 : Int) ≤ 18446744073709551615)
 omega
theorem mulAdd_calls (x y u v : Int) (hx : 0 ≤ x) (hx2 : x ≤ 18446744073709551615) (hy : 0 ≤ y) (hy2 : y ≤ 18446744073709551615) (hu : 0 ≤ u) (hu2 : u ≤ 18446744073709551615) (hv : 0 ≤ v) (hv2 : v ≤ 18446744073709551615) (w : World) :
  Calls Tryz.prog 150 #[vI vU x,vI vU y,vI vU u,vI vU v] w fun e w' => e = .returned (.tuple #[vI vU ((x * y + u + v) % 18446744073709551616),vI vU ((x * y + u + v) / 18446744073709551616)]) ∧ w' = w:=by
 obtain ⟨p0,p1⟩:=ma_bound hx hx2 hy hy2
 obtain ⟨P,hP⟩ : ∃ P,P = x * y:=⟨_,rfl⟩
 rw [← hP] at p0 p1 ⊢
 obtain ⟨L,hL⟩ : ∃ L,L = P % 18446744073709551616:=⟨_,rfl⟩
 obtain ⟨Hh,hH⟩ : ∃ Hh,Hh = P / 18446744073709551616:=⟨_,rfl⟩
 obtain ⟨L1,hL1⟩ : ∃ L1,L1 = (L + u + 0) % 18446744073709551616:=⟨_,rfl⟩
 obtain ⟨c1,hc1⟩ : ∃ c1,c1 = (L + u + 0) / 18446744073709551616:=⟨_,rfl⟩
 obtain ⟨L2,hL2⟩ : ∃ L2,L2 = (L1 + v + 0) % 18446744073709551616:=⟨_,rfl⟩
 obtain ⟨c2,hc2⟩ : ∃ c2,c2 = (L1 + v + 0) / 18446744073709551616:=⟨_,rfl⟩
 have h29a:=fun W => add64 L u 0 (by omega) hu (by omega) (by omega) W
 have h29b:=fun W => add64 L1 v 0 (by omega) hv (by omega) (by omega) W
 rw [← hL1,← hc1] at h29a
 rw [← hL2,← hc2] at h29b
 have b1 : 0 ≤ Hh:=by omega
 have b2 : 0 ≤ c1:=by omega
 have b3 : 0 ≤ c2:=by omega
 have b4 : Hh + c1 ≤ 18446744073709551615:=by omega
 have b5 : Hh + c1 + c2 ≤ 18446744073709551615:=by omega
 have e1 : (P + u + v) % 18446744073709551616 = L2:=by omega
 have e2 : (P + u + v) / 18446744073709551616 = Hh + c1 + c2:=by omega
 have hM:=fun W => mul64 x y hx hx2 hy hy2 W
 rw [← hP,← hL,← hH] at hM
 have HM:=veil hM
 have E:=veil (And.intro e1 e2)
 clear hM e1 e2 hP hL hH hL1 hc1 hL2 hc2 p0 p1 hx hx2 hy hy2 hu hu2 hv hv2
 go_enter Tryz.func150,Tryz.ntmps150
 go_wp2_with (go_at_call 160; refine (HM.out _).mono ?_; rintro e w' ⟨rfl,rfl⟩)
 go_ret2
 rw [E.out.1,E.out.2]
 exact ⟨rfl,rfl⟩
end Go.Proofs.YthlbemnbmbmjhaaGreatDoor
namespace Go.Proofs.YthlbemnbmbmjhaaGreatDoor
def PP (B X Y i : Nat) : Nat:=X % B ^ i * Y
def TT (B X Y i j : Nat) : Nat:=PP B X Y i % B ^ (i + j) + dg B X i * (B ^ i * (Y % B ^ j))
def CC (B X Y i j : Nat) : Nat:=TT B X Y i j / B ^ (i + j)
def UU (B X Y i j m : Nat) : Nat:=if m < i + j then dg B (TT B X Y i j) m else dg B (PP B X Y i) m
theorem UU_start {B : Nat} (X Y i m : Nat) : UU B X Y i 0 m = dg B (PP B X Y i) m:=by
 unfold UU
 split
 ·
  rename_i h
  unfold TT
  simp only [Nat.pow_zero,Nat.mod_one,Nat.mul_zero,Nat.add_zero] at *
  exact zcg _ i m h
 ·
  rfl
theorem CC_start {B : Nat} (hB : 0 < B) (X Y i : Nat) : CC B X Y i 0 = 0:=by
 unfold CC TT
 simp only [Nat.pow_zero,Nat.mod_one,Nat.mul_zero,Nat.add_zero]
 exact Nat.div_eq_of_lt (Nat.mod_lt _ (Nat.pow_pos hB))
theorem TT_lt {B : Nat} (hB : 0 < B) (X Y i j : Nat) : TT B X Y i j < B ^ (i + j) * B:=by
 have hQ : 0 < B ^ (i + j):=Nat.pow_pos hB
 have h1:=Nat.mod_lt (PP B X Y i) hQ
 have h2 : B ^ i * (Y % B ^ j) ≤ B ^ (i + j):=by
  rw [Nat.pow_add]
  exact Nat.mul_le_mul_left _ (Nat.le_of_lt (Nat.mod_lt _ (Nat.pow_pos hB)))
 have h3 : dg B X i * (B ^ i * (Y % B ^ j)) ≤ (B - 1) * B ^ (i + j):=Nat.mul_le_mul (by have:=dg_lt hB X i; omega) h2
 unfold TT
 have h4 : B ^ (i + j) * B = B ^ (i + j) + (B - 1) * B ^ (i + j):=by
  obtain ⟨b,rfl⟩ : ∃ b,B = b + 1:=⟨B - 1,by omega⟩
  rw [Nat.add_sub_cancel,Nat.mul_add,Nat.mul_one,Nat.mul_comm]
  omega
 omega
theorem CC_lt {B : Nat} (hB : 0 < B) (X Y i j : Nat) : CC B X Y i j < B:=by
 unfold CC
 rw [Nat.div_lt_iff_lt_mul (Nat.pow_pos hB),Nat.mul_comm]
 exact TT_lt hB X Y i j
theorem UU_lt {B : Nat} (hB : 0 < B) (X Y i j m : Nat) : UU B X Y i j m < B:=by
 unfold UU
 split <;> exact dg_lt hB _ _
theorem TT_step {B : Nat} (X Y i j : Nat) :
  TT B X Y i (j + 1) = TT B X Y i j % B ^ (i + j) + B ^ (i + j) * (dg B X i * dg B Y j + dg B (PP B X Y i) (i + j) + CC B X Y i j):=by
 have h1 : TT B X Y i (j + 1) = TT B X Y i j + B ^ (i + j) * (dg B (PP B X Y i) (i + j) + dg B X i * dg B Y j):=by
  unfold TT
  rw [show i + (j + 1) = (i + j) + 1 by omega,zbk B (PP B X Y i) (i + j),zbk B Y j,Nat.mul_add (B ^ i),← Nat.mul_assoc (B ^ i),← Nat.pow_add,Nat.mul_add (dg B X i),Nat.mul_add (B ^ (i + j)),
   show dg B X i * (B ^ (i + j) * dg B Y j) = B ^ (i + j) * (dg B X i * dg B Y j) by rw [Nat.mul_left_comm]]
  omega
 have h2 : B ^ (i + j) * CC B X Y i j + TT B X Y i j % B ^ (i + j) = TT B X Y i j:=Nat.div_add_mod _ _
 rw [h1,Nat.mul_add,Nat.mul_add,Nat.mul_add]
 omega
theorem UU_step {B : Nat} (hB : 0 < B) (X Y i j : Nat) : UU B X Y i (j + 1) (i + j) = (dg B X i * dg B Y j + UU B X Y i j (i + j) + CC B X Y i j) % B:=by
 have hu : UU B X Y i j (i + j) = dg B (PP B X Y i) (i + j):=by unfold UU; rw [if_neg (by omega)]
 rw [hu]
 unfold UU
 rw [if_pos (by omega),dg,TT_step,Nat.add_mul_div_left _ _ (Nat.pow_pos hB),Nat.div_eq_of_lt (Nat.mod_lt _ (Nat.pow_pos hB)),Nat.zero_add]
theorem CC_step {B : Nat} (hB : 0 < B) (X Y i j : Nat) : CC B X Y i (j + 1) = (dg B X i * dg B Y j + UU B X Y i j (i + j) + CC B X Y i j) / B:=by
 have hu : UU B X Y i j (i + j) = dg B (PP B X Y i) (i + j):=by unfold UU; rw [if_neg (by omega)]
 rw [hu]
 show TT B X Y i (j + 1) / B ^ (i + (j + 1)) = _
 rw [show i + (j + 1) = (i + j) + 1 by omega,Nat.pow_succ,← Nat.div_div_eq_div_mul,TT_step,Nat.add_mul_div_left _ _ (Nat.pow_pos hB),Nat.div_eq_of_lt (Nat.mod_lt _ (Nat.pow_pos hB)),Nat.zero_add]
theorem UU_other {B : Nat} (X Y i j m : Nat) (hm : m ≠ i + j) : UU B X Y i (j + 1) m = UU B X Y i j m:=by
 unfold UU
 by_cases h : m < i + j
 ·
  rw [if_pos (by omega),if_pos h,← zcg _ (i + j) m h,TT_step,Nat.add_mul_mod_self_left,Nat.mod_mod,zcg _ (i + j) m h]
 ·
  rw [if_neg (by omega),if_neg h]
theorem PP_lt {B : Nat} (hB : 0 < B) (X Y i n : Nat) (hY : Y < B ^ n) : PP B X Y i < B ^ (i + n):=by
 have h1 : X % B ^ i < B ^ i:=Nat.mod_lt _ (Nat.pow_pos hB)
 unfold PP
 rw [Nat.pow_add]
 exact Nat.mul_lt_mul_of_lt_of_le h1 (Nat.le_of_lt hY) (by omega)
theorem PP_step {B : Nat} (hB : 0 < B) (X Y i n : Nat) (hY : Y < B ^ n) : PP B X Y (i + 1) = TT B X Y i n:=by
 unfold TT
 rw [Nat.mod_eq_of_lt (PP_lt hB X Y i n hY),Nat.mod_eq_of_lt hY]
 unfold PP
 rw [zbk,Nat.add_mul,Nat.mul_comm (B ^ i) (dg B X i),Nat.mul_assoc]
theorem PP_row {B : Nat} (hB : 0 < B) (X Y i n m : Nat) (hY : Y < B ^ n) : dg B (PP B X Y (i + 1)) m = if m = i + n then CC B X Y i n else UU B X Y i n m:=by
 rw [PP_step hB X Y i n hY]
 by_cases h : m = i + n
 ·
  subst h
  rw [if_pos rfl]
  show CC B X Y i n % B = _
  exact Nat.mod_eq_of_lt (CC_lt hB X Y i n)
 ·
  rw [if_neg h]
  unfold UU
  by_cases h2 : m < i + n
  ·
   rw [if_pos h2]
  ·
   rw [if_neg h2]
   have hle : B ^ (i + n) * B ≤ B ^ m:=by rw [← Nat.pow_succ]; exact Nat.pow_le_pow_right hB (by omega)
   have h3:=TT_lt hB X Y i n
   have h4:=PP_lt hB X Y i n hY
   have h5 : B ^ (i + n) ≤ B ^ (i + n) * B:=Nat.le_mul_of_pos_right _ hB
   unfold dg
   rw [Nat.div_eq_of_lt (by omega),Nat.div_eq_of_lt (by omega)]
theorem PP_zero (B X Y : Nat) : PP B X Y 0 = 0:=by simp [PP,Nat.mod_one]
theorem PP_end {B : Nat} (X Y n : Nat) (hX : X < B ^ n) : PP B X Y n = X * Y:=by unfold PP; rw [Nat.mod_eq_of_lt hX]
theorem dg_zero (B i : Nat) : dg B 0 i = 0:=by simp [dg]
end Go.Proofs.YthlbemnbmbmjhaaGreatDoor
namespace Go.Proofs.YthlbemnbmbmjhaaGreatDoor
open Go.ChangeShapes Go.WideShapes Go.RowKit
open Go.Value renaming int → vI
open Go.IntKind renaming u64 → vU
open Go.Act renaming put → aP
open List renaming setIfInBounds_toArray → lA, set_cons_zero → lZ, set_cons_succ → lS
theorem ownT : ownKnob Tryz.prog.godebug = none:=by kernel_rfl
theorem laidOutT : laidOutB Tryz.prog = true:=by kernel_rfl
theorem cellsT1 : Tryz.prog.cellsOf 5 = 1:=by kernel_rfl
theorem bs_of {H : Type} {enc : TypeId × Value → H} {W : World} {v : Value} {fuel : Nat} {d : DataW H} {p : List MemPlace} {base : Nat} {sp : Nat → Bool} {held : Bool}
  (hf : DataW.trod enc Tryz.prog W base sp held fuel 33 [v] = some (d,p)) : ∃ (A : Option Addr) (len cap : Nat) (bs : List Nat),v = .slice A len cap ∧ len = bs.length ∧ Bs W A bs ∧ len ≤ cap:=by
 rcases open_ints Tryz.underlying33 Tryz.underlying5 cellsT1 hf with ⟨hcs,hx⟩ | ⟨a,len,cap,zs,hcs,_,hlc,_,hz,hx,hcell,hwz⟩
 ·
  simp only [List.cons.injEq,and_true] at hcs
  exact ⟨none,0,0,[],hcs,rfl,Bs.nil _ _,Nat.le_refl _⟩
 ·
  simp only [List.cons.injEq,and_true] at hcs
  have hzl : len ≤ zs.length:=by rw [hz]; split <;> omega
  have hb : ∀ z ∈ zs,0 ≤ z ∧ z < 256:=fun z hz' => by
   have h:=hwz z hz'
   simp only [Lit.wf,Bool.and_eq_true,decide_eq_true_eq] at h
   have e1 : IntKind.u8.min = 0:=rfl
   have e2 : IntKind.u8.max = 255:=rfl
   omega
  have hl : ((zs.take len).map fun z => z.toNat).length = len:=by simp; omega
  refine ⟨some a,len,cap,(zs.take len).map fun z => z.toNat,hcs,hl.symm,⟨fun x hx' => ?_,?_⟩,hlc⟩
  ·
   obtain ⟨z,hz1,rfl⟩:=List.mem_map.1 hx'
   have:=hb z (List.mem_of_mem_take hz1)
   omega
  ·
   by_cases h0 : len = 0
   ·
    exact .inl (by rw [hl]; exact h0)
   ·
    clear hcs hx
    obtain ⟨b,off,spot⟩:=a
    have h00:=hcell 0 (by omega)
    have hspot : spot = none:=by simpa [Addr.add] using World.cell?_spot h00
    subst hspot
    have hblk : b < W.heap.size:=by
     have:=World.block_lt_of_cell? W _ h00
     simpa [Addr.add] using this
    refine .inr ⟨b,off,rfl,hblk,fun j hj => ?_⟩
    rw [hl] at hj
    have hjz : j < zs.length:=by omega
    have hzj:=hb (zs[j]) (List.getElem_mem hjz)
    have e1 : ((zs.take len).map fun z => z.toNat).getD j 0 = (zs[j]).toNat:=by
     simp [List.getD_eq_getElem?_getD,List.getElem?_take_of_lt hj,hjz]
    have e2 : zs.getD j 0 = zs[j]:=by simp [List.getD_eq_getElem?_getD,hjz]
    rw [← Addr.add_mid,hcell j hjz,e1,e2,Int.toNat_of_nonneg hzj.1]
end Go.Proofs.YthlbemnbmbmjhaaGreatDoor
namespace Go.Proofs.YthlbemnbmbmjhaaGreatDoor
open Go.ChangeShapes Go.WideShapes Go.ChangeAt Go.RowKit
open Go.Value renaming int → vI
open Go.IntKind renaming u64 → vU
open Go.Act renaming put → aP
open List renaming setIfInBounds_toArray → lA, set_cons_zero → lZ, set_cons_succ → lS
theorem cellsWord : Tryz.prog.cellsOf 25 = 1:=by kernel_rfl
def numD {H : Type} (X : Nat) : DataW H:=.agg [.lit (.int .u64 (wd X 0)),.lit (.int .u64 (wd X 1)),.lit (.int .u64 (wd X 2)),.lit (.int .u64 (wd X 3))]
theorem wf_u64 {x : Int} (h : (Lit.int .u64 x).wf = true) : 0 ≤ x ∧ x < 18446744073709551616:=by
 simp only [Lit.wf,Bool.and_eq_true,decide_eq_true_eq] at h
 have e1 : IntKind.u64.min = 0:=rfl
 have e2 : IntKind.u64.max = 18446744073709551615:=rfl
 omega
section
variable {H : Type} {enc : TypeId × Value → H}
end
end Go.Proofs.YthlbemnbmbmjhaaGreatDoor
namespace Go.Proofs.YthlbemnbmbmjhaaGreatDoor
open Go.ChangeShapes Go.WideShapes Go.ChangeAt Go.RowKit
open Go.Value renaming int → vI
open Go.IntKind renaming u64 → vU
open Go.Act renaming put → aP
open List renaming setIfInBounds_toArray → lA, set_cons_zero → lZ, set_cons_succ → lS
section
variable {H : Type} {enc : TypeId × Value → H}
theorem num_of_trod {W : World} {base : Nat} {sp : Nat → Bool} {hd : Bool} {fuel : Nat} {c0 c1 c2 c3 : Value} {x : DataW H × List MemPlace} (hf : DataW.trod enc Tryz.prog W base sp hd fuel 27 [c0,c1,c2,c3] = some x) :
  ∃ X,X < top ∧ c0 = .int .u64 (wd X 0) ∧ c1 = .int .u64 (wd X 1) ∧ c2 = .int .u64 (wd X 2) ∧ c3 = .int .u64 (wd X 3) ∧ x = (numD X,[]):=by
 obtain ⟨y0,y1,y2,y3,m,hx,hy0,hy1,hy2,hy3⟩:=trod_array4 Tryz.underlying27 cellsWord hf
 obtain ⟨x0,e0,rfl,w0⟩:=DataW.trod_int Tryz.underlying25 hy0
 obtain ⟨x1,e1,rfl,w1⟩:=DataW.trod_int Tryz.underlying25 hy1
 obtain ⟨x2,e2,rfl,w2⟩:=DataW.trod_int Tryz.underlying25 hy2
 obtain ⟨x3,e3,rfl,w3⟩:=DataW.trod_int Tryz.underlying25 hy3
 simp at e0 e1 e2 e3
 subst e0 e1 e2 e3
 subst hx
 obtain ⟨a0,b0⟩:=wf_u64 w0
 obtain ⟨a1,b1⟩:=wf_u64 w1
 obtain ⟨a2,b2⟩:=wf_u64 w2
 obtain ⟨a3,b3⟩:=wf_u64 w3
 obtain ⟨g0,g1,g2,g3⟩:=wd_ofWords a0 b0 a1 b1 a2 b2 a3 b3
 refine ⟨ofWords x0 x1 x2 x3,ofWords_lt b0 b1 b2 b3,?_,?_,?_,?_,?_⟩
 ·
  rw [g0]
 ·
  rw [g1]
 ·
  rw [g2]
 ·
  rw [g3]
 ·
  unfold numD
  rw [g0,g1,g2,g3]
  rfl
end
end Go.Proofs.YthlbemnbmbmjhaaGreatDoor
namespace Go.Proofs.YthlbemnbmbmjhaaGreatDoor
open Go.ChangeShapes Go.WideShapes Go.RowKit
open Go.Value renaming int → vI
open Go.IntKind renaming u64 → vU
open Go.Act renaming put → aP
open List renaming setIfInBounds_toArray → lA, set_cons_zero → lZ, set_cons_succ → lS
def GoodK (k : Ky) : Prop:=(k.x < top ∧ k.y < top) ∧ (Lit.int .i64 k.i).wf = true ∧ (Lit.int .i64 k.a).wf = true ∧ (Lit.int .i64 k.b).wf = true
section
variable {H : Type} {enc : TypeId × Value → H} {W : World} {base : Nat} {sp : Nat → Bool} {hd : Bool} {fuel : Nat}
theorem pt_of_trod {c0 c1 c2 c3 c4 c5 c6 c7 c8 : Value} {x : DataW H × List MemPlace} (hf : DataW.trod enc Tryz.prog W base sp hd fuel 29 [c0,c1,c2,c3,c4,c5,c6,c7,c8] = some x) :
  ∃ X Y f,X < top ∧ Y < top ∧ [c0,c1,c2,c3,c4,c5,c6,c7,c8] = (qc X Y f).toList:=by
 obtain ⟨y0,y1,y2,m,hx,_,hy0,hy1,hy2⟩:=Deep.trod_struct3 Tryz.underlying29 hf
 have hy0 : DataW.trod enc Tryz.prog W base sp hd m 27 [c0,c1,c2,c3] = some y0:=by simpa [zfy] using hy0
 have hy1 : DataW.trod enc Tryz.prog W base sp hd m 27 [c4,c5,c6,c7] = some y1:=by simpa [zfy] using hy1
 have hy2 : DataW.trod enc Tryz.prog W base sp hd m 4 [c8] = some y2:=by simpa [cells_bool] using hy2
 obtain ⟨X,lX,rfl,rfl,rfl,rfl,rfl⟩:=num_of_trod hy0
 obtain ⟨Y,lY,rfl,rfl,rfl,rfl,rfl⟩:=num_of_trod hy1
 obtain ⟨f,e,rfl⟩:=DataW.trod_bool Tryz.underlying4 hy2
 obtain rfl:=List.head_eq_of_cons_eq e
 exact ⟨X,Y,f,lX,lY,rfl⟩
theorem underK : ∃ f0 f1 f2 f3 : Field,Tryz.prog.underlying 55 = some (.struct #[f0,f1,f2,f3]) ∧ (f0.offset = 0 ∧ f1.offset = 1 ∧ f2.offset = 10 ∧ f3.offset = 11) ∧ f0.type = 3 ∧ f1.type = 29 ∧ f2.type = 3 ∧ f3.type = 3:=⟨_,_,_,_,Tryz.underlying55,⟨rfl,rfl,rfl,rfl⟩,rfl,rfl,rfl,rfl⟩
theorem list12 {cs : List Value} (h : cs.length = 12) : ∃ c0 c1 c2 c3 c4 c5 c6 c7 c8 c9 c10 c11,cs = [c0,c1,c2,c3,c4,c5,c6,c7,c8,c9,c10,c11]:=by
 match cs,h with
 | [c0,c1,c2,c3,c4,c5,c6,c7,c8,c9,c10,c11],_ => exact ⟨c0,c1,c2,c3,c4,c5,c6,c7,c8,c9,c10,c11,rfl⟩
theorem ky_of_trod {cs : List Value} {x : DataW H × List MemPlace} (hf : DataW.trod enc Tryz.prog W base sp hd fuel 55 cs = some x) : ∃ k,GoodK k ∧ cs = kyC k:=by
 obtain ⟨f0,f1,f2,f3,hu,⟨o0,o1,o2,o3⟩,t0,t1,t2,t3⟩:=underK
 obtain ⟨y0,y1,y2,y3,m,_,hl,h0,h1,h2,h3⟩:=Joins.trod_struct4 hu hf
 rw [zdp] at hl
 obtain ⟨c0,c1,c2,c3,c4,c5,c6,c7,c8,c9,c10,c11,rfl⟩:=list12 hl
 rw [t0,o0,zfz] at h0
 rw [t1,o1,zfj] at h1
 rw [t2,o2,zfz] at h2
 rw [t3,o3,zfz] at h3
 obtain ⟨X,Y,f,lX,lY,e⟩:=pt_of_trod (by simpa using h1)
 obtain ⟨z0,e0,_,w0⟩:=DataW.trod_int Tryz.underlying3 h0
 obtain ⟨z2,e2,_,w2⟩:=DataW.trod_int Tryz.underlying3 h2
 obtain ⟨z3,e3,_,w3⟩:=DataW.trod_int Tryz.underlying3 h3
 simp at e0 e2 e3
 refine ⟨⟨z0,X,Y,f,z2,z3⟩,⟨⟨lX,lY⟩,w0,w2,w3⟩,?_⟩
 unfold kyC
 rw [← e,e0,e2,e3]
 rfl
theorem ks_of {v : Value} {d : DataW H} {p : List MemPlace} (hf : DataW.trod enc Tryz.prog W base sp hd fuel 22 [v] = some (d,p)) : ∃ l : List Ky,Ks W v l ∧ TopK l ∧ WfK l:=by
 obtain ⟨l,A,c,e,hc,hx⟩:=ls_of (α:={k : Ky // GoodK k}) (cs:=fun k => kyC k.1) Tryz.underlying22 zdp (by decide) (fun n cs' y h => by
  obtain ⟨k,hk,e⟩:=ky_of_trod h
  exact ⟨⟨k,hk⟩,e⟩) hf
 refine ⟨l.map (·.1),⟨A,c,by rw [List.length_map]; exact e,by rw [List.length_map]; exact hc,?_⟩,fun k hk => ?_,fun k hk => ?_⟩
 ·
  rw [List.length_map]
  refine hx.imp id ?_
  rintro ⟨b,o,ha,hb,hr⟩
  refine ⟨b,o,ha,hb,fun i x hi => ?_⟩
  rw [List.getElem?_map,Option.map_eq_some_iff] at hi
  obtain ⟨y,hy,rfl⟩:=hi
  exact hr i y hy
 ·
  obtain ⟨y,_,rfl⟩:=List.mem_map.1 hk
  exact y.2.1
 ·
  obtain ⟨y,_,rfl⟩:=List.mem_map.1 hk
  exact y.2.2
end
end Go.Proofs.YthlbemnbmbmjhaaGreatDoor
