/-
  Of L1 Ph KA L3 ArgB FrameN QArg ArgK Rc ArgR Made2 SMath SSpec SBits HBase SWords HRot HWords.
-/
import Derived.ChangeSlices
import Derived.Carry
import Derived.BigFrame
import Derived.ProofKit
import Derived.Lib.SmallJoins
import Derived.Test.YtbfkecfcolcclaaGreatDoorRows
import Derived.WalkKit
import Derived.Laws.IdiomArrays
import Derived.Deep.Strs
import Derived.Deep.MidRow
import Derived.Deep.WholeRow
import Derived.ChangeKeysEq
import Derived.WalkSpells
import Derived.WalkLawsBesides
import Derived.Deep.LoopGhost
import Derived.BigQuiet
import Derived.Deep.QuietTactic
import Derived.Deep.RegionWith
import Derived.Deep.Cut
import Derived.Deep.CutRange
import Derived.Deep.RegionHeld3
import Derived.StillTailTactics
import Derived.IntWalk
import Derived.Test.YtbfkecfcolcclaaGreatDoorZB5
import Derived.Test.YtbfkecfcolcclaaGreatDoorZB8
import Derived.Test.YtbfkecfcolcclaaGreatDoorZB4
import Derived.Test.YtbfkecfcolcclaaGreatDoorZB7
import Derived.Test.YtbfkecfcolcclaaGreatDoorZB1
import Derived.Test.YtbfkecfcolcclaaGreatDoorZB6
set_option maxRecDepth 1000000
set_option maxHeartbeats 20000000
namespace Go.Proofs.YtbfkecfcolcclaaGreatDoor
open Go.RowKit
open Go.Value renaming int → vI
open Go.IntKind renaming u64 → vU
open Go.Act renaming put → aP
open List renaming setIfInBounds_toArray → lA, set_cons_zero → lZ, set_cons_succ → lS
theorem rmay10_calls (v : Value) (l : List Ky) (w : World) (hF : Ks w v l) (hT : TopK l) (hL : l.length ≤ 1000000000) :
  Calls Tryz.prog 13 #[v] w fun e w' => e = .returned (.bool (mayK l)) ∧ Ext w w':=by
 obtain ⟨AL,c,rfl,hc,hx⟩:=hF
 obtain ⟨R,hR⟩ : ∃ R,R = mayK l:=⟨_,rfl⟩
 rw [← hR]
 obtain ⟨n,hn⟩ : ∃ n,n = l.length:=⟨_,rfl⟩
 rw [← hn] at hx hc ⊢
 have HR:=veil (And.intro hR (And.intro hn (And.intro hL hT)))
 have HX:=veil hx
 have hnL : n ≤ 1000000000:=by omega
 clear hR hx hn hL hT
 go_enter Tryz.func13,Tryz.ntmps13
 go_wp2
 go_loopw [3] (fun v wr => ∃ i : Nat,i ≤ n ∧ v = .int .i64 (i : Int) ∧ (∀ j,j < i → okK l j) ∧ Ext w wr)
  (fun v _ => n - (intOf v).toNat)
 case atStart => exact ⟨0,by omega,rfl,fun j hj => by omega,Ext.refl _⟩
 case round =>
  obtain ⟨i,hi,rfl,hall,hE⟩:=hrel
  by_cases hlt : i < n
  ·
   have hd1 : decide ((i : Int) < (n : Int)) = true:=by simp; omega
   have hii : (i : Int) < (n : Int):=by omega
   obtain ⟨b,o,hAL,hb,hcl⟩:=HX.out.resolve_left (by omega)
   have hil : i < l.length:=by have:=HR.out.2.1; omega
   have hgi : l[i]? = some (l.getD i ky0):=by rw [List.getD_eq_getElem?_getD,List.getElem?_eq_getElem hil]; rfl
   have HRG:=veil (zan hE hb (hcl i _ hgi))
   obtain ⟨k,hk⟩ : ∃ k,k = l.getD i ky0:=⟨_,rfl⟩
   rw [← hk] at HRG
   have hkt:=HR.out.2.2.2 (l.getD i ky0) (List.mem_of_getElem? hgi)
   rw [← hk] at hkt
   have KO:=veil (fun W => show Calls Tryz.prog 28 #[.agg (qc k.x k.y k.f)] W (fun e w' => e = .returned (.bool (onB k.x k.y k.f)) ∧ Ext W w') from ron_calls k.x k.y k.f hkt.1 hkt.2 W)
   have hfalse : ∀ h : ¬ okK l i,R = false:=fun h => HR.out.1.trans (mayK_false hil h)
   have HK:=veil (And.intro hk (And.intro hall hfalse))
   have HP:=veil (And.intro hb hcl)
   clear hk hall hfalse hkt hgi hb hcl
   subst hAL
   go_upto_region 5 with (first
    | ((with_reducible refine zaa 15 ?_); refine wpList_load_mid rfl 62 _ rfl b _ rfl (kyC k) _ HRG.out Tryz.underlying62 rfl (iKy k) ?_)
    | ((with_reducible refine zaa 4 ?_); refine zcq _ _ rfl rfl rfl rfl rfl rfl hzKy (fun _ => rfl) (fun _ => rfl) (iKyA k) (kyA_size k) (kyA_one k) ?_; intro g W hg hW hEW))
   have HW:=veil (And.intro (zfb hW) (hE.trans hEW))
   clear hW hEW
   go_upto_region 6 with (first
    | ((with_reducible refine zaa 17 ?_); refine wpList_load_mid rfl 60 _ rfl g 1 rfl _ _ (ky_q HW.out.1) Tryz.underlying60 rfl (iT k.x k.y k.f) ?_)
    | (go_at_call 28; refine (KO.out _).mono ?_; rintro e w2 ⟨rfl,hE2⟩))
   have hrg:=fun j u (hu : (kyC k)[j]? = some u) => zan hE2 (World.block_lt_of_cell? _ _ (ky_i HW.out.1)) HW.out.1 j u hu
   have hEE:=HW.out.2.trans hE2
   have HH:=veil (And.intro hrg hEE)
   have c0:=ky_i HH.out.1
   have c9:=ky_f HH.out.1
   have c10:=ky_a HH.out.1
   have c11:=ky_b HH.out.1
   simp only [Nat.zero_add] at c9 c10 c11
   clear hrg hE2 KO HW HRG hEE hE
   have hpc : 0 < i → w2.cell? ⟨b,o + (i - 1) * 12,none⟩ = some (.int .i64 (l.getD (i - 1) ky0).i):=fun h0 => by
    have hl2 : i - 1 < l.length:=by omega
    have:=zan HH.out.2 HP.out.1 (HP.out.2 (i - 1) (l.getD (i - 1) ky0) (by rw [List.getD_eq_getElem?_getD,List.getElem?_eq_getElem hl2]; rfl))
    exact ky_i this
   have HPC:=veil hpc
   clear hpc
   obtain ⟨ki,hki⟩ : ∃ z,z = k.i:=⟨_,rfl⟩
   obtain ⟨kf,hkf⟩ : ∃ z,z = k.f:=⟨_,rfl⟩
   obtain ⟨ka,hka⟩ : ∃ z,z = k.a:=⟨_,rfl⟩
   obtain ⟨kb,hkb⟩ : ∃ z,z = k.b:=⟨_,rfl⟩
   obtain ⟨on,hon⟩ : ∃ z,z = onB k.x k.y k.f:=⟨_,rfl⟩
   rw [← hki] at c0
   rw [← hkf] at c9
   rw [← hka] at c10
   rw [← hkb] at c11
   rw [← hon]
   have HV:=veil (And.intro hki (And.intro hkf (And.intro hka (And.intro hkb hon))))
   clear hki hkf hka hkb hon hil
   have hno : ∀ (p : okK l i → False),R = false:=fun p => HK.out.2.2 p
   have HN:=veil hno
   clear hno
   by_cases g0 : ki < 1
   ·
    have hd2 : decide (ki < 1) = true:=decide_eq_true g0
    have e : R = false:=HN.out fun h => by
     unfold okK at h
     rw [← HK.out.1] at h
     have h1:=h.1
     rw [← HV.out.1] at h1
     omega
    subst e
    go_quiet (fail)
    go_wp2
    go_ret
    exact ⟨rfl,HH.out.2.trans (Ext.drewK _ _)⟩
   ·
    have hd2 : decide (ki < 1) = false:=decide_eq_false g0
    by_cases g1 : 2147483647 < ki
    ·
     have hd3 : decide (2147483647 < ki) = true:=decide_eq_true g1
     have e : R = false:=HN.out fun h => by
      unfold okK at h
      rw [← HK.out.1] at h
      have h1:=h.2.1
      rw [← HV.out.1] at h1
      omega
     subst e
     go_quiet (fail)
     go_wp2
     go_ret
     exact ⟨rfl,HH.out.2.trans (Ext.drewK _ _)⟩
    ·
     have hd3 : decide (2147483647 < ki) = false:=decide_eq_false g1
     cases on with
     | false =>
      have e : R = false:=HN.out fun h => by
       unfold okK at h
       rw [← HK.out.1] at h
       have h1:=h.2.2.1
       rw [← HV.out.2.2.2.2] at h1
       cases h1
      subst e
      go_quiet (fail)
      go_wp2
      go_ret
      exact ⟨rfl,HH.out.2.trans (Ext.drewK _ _)⟩
     | true =>
      cases kf with
      | true =>
       have e : R = false:=HN.out fun h => by
        unfold okK at h
        rw [← HK.out.1] at h
        have h1:=h.2.2.2.1
        rw [← HV.out.2.1] at h1
        cases h1
       subst e
       go_quiet (fail)
       go_wp2
       go_ret
       exact ⟨rfl,HH.out.2.trans (Ext.drewK _ _)⟩
      | false =>
       by_cases g4 : ka < 0
       ·
        have hd6 : decide (ka < 0) = true:=decide_eq_true g4
        have e : R = false:=HN.out fun h => by
         unfold okK at h
         rw [← HK.out.1] at h
         have h1:=h.2.2.2.2.1
         rw [← HV.out.2.2.1] at h1
         omega
        subst e
        go_quiet (fail)
        go_wp2
        go_ret
        exact ⟨rfl,HH.out.2.trans (Ext.drewK _ _)⟩
       ·
        have hd6 : decide (ka < 0) = false:=decide_eq_false g4
        by_cases g5 : kb < ka
        ·
         have hd7 : decide (kb < ka) = true:=decide_eq_true g5
         have e : R = false:=HN.out fun h => by
          unfold okK at h
          rw [← HK.out.1] at h
          have h1:=h.2.2.2.2.2.1
          rw [← HV.out.2.2.1,← HV.out.2.2.2.1] at h1
          omega
         subst e
         go_quiet (fail)
         go_wp2
         go_ret
         exact ⟨rfl,HH.out.2.trans (Ext.drewK _ _)⟩
        ·
         have hd7 : decide (kb < ka) = false:=decide_eq_false g5
         by_cases g6 : 1073741824 < kb
         ·
          have hd8 : decide (1073741824 < kb) = true:=decide_eq_true g6
          have e : R = false:=HN.out fun h => by
           unfold okK at h
           rw [← HK.out.1] at h
           have h1:=h.2.2.2.2.2.2.1
           rw [← HV.out.2.2.2.1] at h1
           omega
          subst e
          go_quiet (fail)
          go_wp2
          go_ret
          exact ⟨rfl,HH.out.2.trans (Ext.drewK _ _)⟩
         ·
          have hd8 : decide (1073741824 < kb) = false:=decide_eq_false g6
          by_cases g7 : i = 0
          ·
           have hd9 : decide (0 < i) = false:=by simp; omega
           have hd9' : decide ((0 : Int) < (i : Int)) = false:=by simp; omega
           have G:=veil g7
           clear g7
           go_quiet (fail)
           go_wp2
           go_roundw
           case rel =>
            refine ⟨i + 1,by omega,by go_num,fun j hj => ?_,HH.out.2.trans (Ext.drewK _ _)⟩
            obtain rfl : j = i:=by have:=G.out; omega
            unfold okK
            rw [← HK.out.1,← HV.out.1,← HV.out.2.1,← HV.out.2.2.1,← HV.out.2.2.2.1,HV.out.2.1,← HV.out.2.2.2.2,← HV.out.2.1]
            exact ⟨by omega,by omega,rfl,rfl,by omega,by omega,by omega,fun h => absurd h (by have:=G.out; omega)⟩
           case measure => simp [intOf]; omega
          ·
           have hd9 : decide (0 < i) = true:=by simp; omega
           have hd9' : decide ((0 : Int) < (i : Int)) = true:=by simp; omega
           have cp:=HPC.out (by omega)
           obtain ⟨z,hz⟩ : ∃ z,z = (l.getD (i - 1) ky0).i:=⟨_,rfl⟩
           rw [← hz] at cp
           have hki2 : (i : Int) - 1 = ((i - 1 : Nat) : Int):=by omega
           obtain ⟨m,hm⟩ : ∃ m,m = i - 1:=⟨_,rfl⟩
           rw [← hm] at cp hki2
           have hmn : (m : Int) < (n : Int):=by omega
           have HZ:=veil (And.intro hz hm)
           clear hz hm
           by_cases g8 : ki ≤ z
           ·
            have hd10 : decide (ki ≤ z) = true:=decide_eq_true g8
            have e : R = false:=HN.out fun h => by
             unfold okK at h
             rw [← HK.out.1] at h
             have h1:=h.2.2.2.2.2.2.2 (by omega)
             rw [← HV.out.1,← HZ.out.1] at h1
             omega
            subst e
            go_quiet (fail)
            go_wp2
            go_ret
            exact ⟨rfl,HH.out.2.trans (Ext.drewK _ _)⟩
           ·
            have hd10 : decide (ki ≤ z) = false:=decide_eq_false g8
            go_quiet (fail)
            go_wp2
            go_roundw
            case rel =>
             refine ⟨i + 1,by omega,by go_num,fun j hj => ?_,HH.out.2.trans (Ext.drewK _ _)⟩
             by_cases e : j = i
             ·
              subst e
              unfold okK
              rw [← HK.out.1,← HV.out.1,← HV.out.2.1,← HV.out.2.2.1,← HV.out.2.2.2.1,HV.out.2.1,← HV.out.2.2.2.2,← HV.out.2.1]
              exact ⟨by omega,by omega,rfl,rfl,by omega,by omega,by omega,fun _ => by rw [← HZ.out.1]; omega⟩
             ·
              exact HK.out.2.1 j (by omega)
            case measure => simp [intOf]; omega
  ·
   obtain rfl : i = n:=by omega
   have e : R = decide ((i : Int) ≤ 32):=by
    rw [HR.out.1,mayK_len (by rw [← HR.out.2.1]; exact hall),← HR.out.2.1]
    by_cases h : i ≤ 32
    ·
     rw [decide_eq_true h,decide_eq_true (by omega)]
    ·
     rw [decide_eq_false h,decide_eq_false (by omega)]
   have HE:=veil e
   clear hall e
   go_wp2
   go_ret
   exact ⟨by rw [HE.out]; rfl,hE⟩
def VerdA (L : Low) (K : List Ky) (R : List Rv) (l : List Pd) (bs : List Nat) (z a r : Int) (ev : Value) : Prop :=
 (argV K R l z a = false ∧ r = 0 ∧ ev = .iface 38 (.int .i64 1)) ∨ (argV K R l z a = true ∧ r = verdV L K R l bs z a ∧ ev = .nilIface)
structure Code14b (L : Low) (I : World → Prop) : Prop where
 keep : ∀ w w',I w → Ext w w' → I w'
 verdict : ∀ vk vr v K R l A m c bs z a w,I w → Ks w vk K → TopK K → K.length ≤ 60 → Rs w vr R → R.length ≤ 300 → Ps14 w v l → fewP (pds l) = true → m = bs.length → m ≤ c → m ≤ 5000 → Bs w A bs → -9223372036854775808 ≤ z → z ≤ 9223372036854775807 → -9223372036854775808 ≤ a → a ≤ 9223372036854775807 →
  Calls Tryz.prog 12 #[vk,vr,v,.slice A m c,.int .i64 z,.int .i64 a] w fun e w' => ∃ r ev,e = .returned (.tuple #[.int .i64 r,ev]) ∧ Ext w w' ∧ VerdA L K R (pds l) bs z a r ev
theorem eqErr14 (w : World) : (binOp .eql 32 (.iface 38 (.int .i64 1)) (.iface 38 (.int .i64 1))).run Tryz.prog w = .ok (.bool true) w:=by kernel_rfl
theorem verdicts14_walk {L : Low} {I : World → Prop} (Rr : LowR L) (C : Code14a) (D : Code14b L I) (vk vr v : Value) (K : List Ky) (Q : List Rv) (l : List Pw) (A : Option Addr) (m c : Nat) (bs : List Nat) (z a : Int) (hm : m = bs.length) (hmc : m ≤ c) (w : World) (hI : I w)
  (hK : Ks w vk K) (hT : TopK K) (hQ : Rs w vr Q) (hF : Ps14 w v l) (hL : (l.length : Int) ≤ 9223372036854775807) (hS : Bs w A bs) (b0 : -9223372036854775808 ≤ z) (b1 : z ≤ 9223372036854775807) (b2 : -9223372036854775808 ≤ a) (b3 : a ≤ 9223372036854775807) :
  Calls Tryz.prog 4 #[vk,vr,v,.slice A m c,.int .i64 z,.int .i64 a] w fun e w' => e = .returned (.bool true) ∧ Ext w w':=by
 have hb : Byt bs:=hS.1
 have KU:=veil (fun W => up14_calls C W)
 have KF:=veil (fun W (h : Ext w W) => few14_calls v l W (hF.ext h) hL)
 have KV:=veil (fun W (h : Ext w W) (h1 : K.length ≤ 60) (h2 : Q.length ≤ 300) (hw : fewP (pds l) = true) (h3 : m ≤ 5000) => D.verdict vk vr v K Q l A m c bs z a W (D.keep _ _ hI h) (hK.ext h) hT h1 (hQ.ext h) h2 (hF.ext h) hw hm hmc h3 (hS.ext h) b0 b1 b2 b3)
 have KMK:=veil (fun W (h : Ext w W) (h1 : K.length ≤ 60) => rmay10_calls vk K W (hK.ext h) hT (by omega))
 have KMQ:=veil (fun W (h : Ext w W) (h1 : Q.length ≤ 300) => rmay11_calls vr Q W (hQ.ext h) (by omega))
 have KML:=veil (fun W (h : Ext w W) (hw : fewP (pds l) = true) => rmay14_calls v l W (hF.ext h) hw)
 have KP:=veil (fun W => place14_calls z a W)
 have KR:=veil (fun W (h : Ext w W) (h1 : K.length ≤ 60) (h2 : Q.length ≤ 300) (h3 : m ≤ 5000) (hM : mayP (pds l) = true) (hP : placeB z a = true) => rverdict14_calls Rr vk vr v K Q l A m c bs z a hm hmc h3 W (hK.ext h) hT (by omega) (hQ.ext h) (by omega) (hF.ext h) hM hP (hS.ext h) hb)
 obtain ⟨Ak,ck,rfl,-,-⟩:=hK
 obtain ⟨Aq,cq,rfl,-,-⟩:=hQ
 obtain ⟨⟨AL,cl,rfl,-,-⟩,-⟩:=hF
 clear hI hm hmc hT hL hS b0 b1 b2 b3 hb C D Rr
 obtain ⟨nk,hnk⟩ : ∃ n,n = K.length:=⟨_,rfl⟩
 obtain ⟨nq,hnq⟩ : ∃ n,n = Q.length:=⟨_,rfl⟩
 obtain ⟨nl,hnl⟩ : ∃ n,n = l.length:=⟨_,rfl⟩
 rw [← hnl] at KF
 simp only [← hnk,← hnq,← hnl] at KV KMK KMQ KML KR ⊢
 clear hnk hnq hnl
 obtain ⟨R,hR⟩ : ∃ R,R = fewP (pds l):=⟨_,rfl⟩
 obtain ⟨MK,hMK⟩ : ∃ M,M = mayK K:=⟨_,rfl⟩
 obtain ⟨MQ,hMQ⟩ : ∃ M,M = mayRs Q:=⟨_,rfl⟩
 obtain ⟨ML,hML⟩ : ∃ M,M = mayP (pds l):=⟨_,rfl⟩
 obtain ⟨P,hP⟩ : ∃ M,M = placeB z a:=⟨_,rfl⟩
 obtain ⟨y,hy⟩ : ∃ y,y = verdV L K Q (pds l) bs z a:=⟨_,rfl⟩
 have HA:=veil (show argV K Q (pds l) z a = (MK && (MQ && (ML && P))) from by rw [hMK,hMQ,hML,hP]; rfl)
 have HY:=veil hy
 rw [← hR] at KF KV KML
 rw [← hMK] at KMK
 rw [← hMQ] at KMQ
 rw [← hML] at KML KR
 rw [← hP] at KP KR
 rw [← hy] at KR
 clear hR hMK hMQ hML hP hy
 go_enter Tryz.func4,Tryz.ntmps4
 go_upto_region 3 with (first
  | (go_at_call 6; with_reducible refine (KU.out _).mono ?_; rintro e w1 ⟨rfl,hE1⟩; have HE1:=veil hE1; clear hE1)
  | (go_at_call 7; with_reducible refine (KF.out _ HE1.out).mono ?_; rintro e w2 ⟨rfl,rfl⟩))
 clear KU KF
 cases R with
 | false =>
  go_wp2
  go_ret
  exact ⟨rfl,HE1.out⟩
 | true =>
  by_cases a1 : (60 : Int) < (nk : Int)
  ·
   have d1 : decide ((60 : Int) < (nk : Int)) = true:=decide_eq_true a1
   go_wp2
   go_ret
   exact ⟨rfl,HE1.out⟩
  have d1 : decide ((60 : Int) < (nk : Int)) = false:=decide_eq_false a1
  by_cases a2 : (300 : Int) < (nq : Int)
  ·
   have d2 : decide ((300 : Int) < (nq : Int)) = true:=decide_eq_true a2
   go_wp2
   go_ret
   exact ⟨rfl,HE1.out⟩
  have d2 : decide ((300 : Int) < (nq : Int)) = false:=decide_eq_false a2
  by_cases a3 : (5000 : Int) < (m : Int)
  ·
   have d3 : decide ((5000 : Int) < (m : Int)) = true:=decide_eq_true a3
   go_wp2
   go_ret
   exact ⟨rfl,HE1.out⟩
  have d3 : decide ((5000 : Int) < (m : Int)) = false:=decide_eq_false a3
  have HB:=veil (show nk ≤ 60 ∧ nq ≤ 300 ∧ m ≤ 5000 by omega)
  clear a1 a2 a3
  go_upto_region 6 with (go_at_call 12; with_reducible refine (KV.out _ HE1.out HB.out.1 HB.out.2.1 (by trivial) HB.out.2.2).mono ?_; rintro e w3 ⟨r,ev,rfl,hE3,hV⟩)
  have HE3:=veil (HE1.out.trans hE3)
  have HV:=veil hV
  clear hE3 hV HE1 KV d1 d2 d3
  go_upto_region 10 with (first
   | (go_at_call 13; with_reducible refine (KMK.out _ HE3.out HB.out.1).mono ?_; rintro e w4 ⟨rfl,hE4⟩; have HE4:=veil (HE3.out.trans hE4); clear hE4)
   | (go_at_call 14; with_reducible refine (KMQ.out _ HE4.out HB.out.2.1).mono ?_; rintro e w5 ⟨rfl,hE5⟩; have HE5:=veil (HE4.out.trans hE5); clear hE5)
   | (go_at_call 8; with_reducible refine (KML.out _ HE5.out (by trivial)).mono ?_; rintro e w6 ⟨rfl,hE6⟩; have HE6:=veil (HE5.out.trans hE6); clear hE6)
   | (go_at_call 15; with_reducible refine (KP.out _).mono ?_; rintro e w7 ⟨rfl,rfl⟩))
  clear HE3 HE4 HE5 KMK KMQ KML KP
  have e1:=eqErr14
  have e2:=eqNil14
  rcases HV.out with ⟨hA,rfl,rfl⟩ | ⟨hA,hr,rfl⟩
  ·
   have HA2:=veil (HA.out.symm.trans hA)
   clear hA HA HV
   have f0 : ((0 : Int) == 0) = true:=rfl
   cases MK with
   | false =>
    go_wp2
    go_ret
    exact ⟨rfl,HE6.out⟩
   | true =>
    cases MQ with
    | false =>
     go_wp2
     go_ret
     exact ⟨rfl,HE6.out⟩
    | true =>
     cases ML with
     | false =>
      go_wp2
      go_ret
      exact ⟨rfl,HE6.out⟩
     | true =>
      cases P with
      | false =>
       go_wp2
       go_ret
       exact ⟨rfl,HE6.out⟩
      | true => exact absurd HA2.out (by decide)
  ·
   have hA2:=HA.out.symm.trans hA
   simp only [Bool.and_eq_true] at hA2
   obtain ⟨rfl,rfl,rfl,rfl⟩:=hA2
   rw [← HY.out] at hr
   subst hr
   have f0 : (r == r) = true:=by simp
   clear hA HA HV
   go_wp2_with (go_at_call 16; with_reducible refine (KR.out _ HE6.out HB.out.1 HB.out.2.1 HB.out.2.2 (by trivial) (by trivial)).mono ?_; rintro e w8 ⟨rfl,hE8⟩)
   go_ret
   exact ⟨rfl,HE6.out.trans hE8⟩
theorem cells_int : Tryz.prog.cellsOf 3 = 1:=by kernel_rfl
def Tk.ok (t : Tk) : Prop:=∀ n ∈ t.list,(Lit.int .i64 n).wf = true
/-! ### what the laws ask of the landed package -/
def BodyA (w' : World) (t : Tk) (x ev : Value) : Prop :=
 (mayT t = false ∧ (∃ A c,x = .slice A 0 c) ∧ ev = .iface 38 (.int .i64 1)) ∨
 (mayT t = true ∧ (∃ A c,x = .slice A 55 c ∧ 55 ≤ c ∧ Bs w' A (tkB t)) ∧ ev = .nilIface)
def OpenC (bs : List Nat) (T G : Array Value) (ev : Value) : Prop :=
 (openB bs = none ∧ T = tkC ⟨0,0,0,0,0⟩ ∧ G = gc 0 0 ∧ ev = .iface 38 (.int .i64 2)) ∨ (∃ t r s,openB bs = some (t,r,s) ∧ T = tkC t ∧ G = gc r s ∧ ev = .nilIface)
def WfK (l : List Ky) : Prop:=∀ k ∈ l,(Lit.int .i64 k.i).wf = true ∧ (Lit.int .i64 k.a).wf = true ∧ (Lit.int .i64 k.b).wf = true
theorem cells_ky12 : Tryz.prog.cellsOf 62 = 12:=by kernel_rfl
theorem Up.range {w : World} {D : World → Prop} (h : Up w D) {b off : Nat} {L : List Value} (hb : b < w.heap.size) (hr : w.rangeAt b off L) (x : Gw D) : x.val.rangeAt b off L:=zan (h.grown _ x.property) hb hr
end Go.Proofs.YtbfkecfcolcclaaGreatDoor
namespace Go.Proofs.YtbfkecfcolcclaaGreatDoor
open Go.ChangeShapes Go.WideShapes Go.RowKit
open Go.Value renaming int → vI
open Go.IntKind renaming u64 → vU
open Go.Act renaming put → aP
open List renaming setIfInBounds_toArray → lA, set_cons_zero → lZ, set_cons_succ → lS
theorem ownT : ownKnob Tryz.prog.godebug = none:=by kernel_rfl
theorem laidOutT : laidOutB Tryz.prog = true:=by kernel_rfl
theorem cellsT1 : Tryz.prog.cellsOf 5 = 1:=by kernel_rfl
theorem bs_of {H : Type} {enc : TypeId × Value → H} {W : World} {v : Value} {fuel : Nat} {d : DataW H} {p : List MemPlace} {base : Nat} {sp : Nat → Bool} {held : Bool}
  (hf : DataW.trod enc Tryz.prog W base sp held fuel 30 [v] = some (d,p)) : ∃ (A : Option Addr) (len cap : Nat) (bs : List Nat),v = .slice A len cap ∧ len = bs.length ∧ Bs W A bs ∧ len ≤ cap:=by
 rcases open_ints Tryz.underlying30 Tryz.underlying5 cellsT1 hf with ⟨hcs,hx⟩ | ⟨a,len,cap,zs,hcs,_,hlc,_,hz,hx,hcell,hwz⟩
 ·
  simp only [List.cons.injEq,and_true] at hcs
  exact ⟨none,0,0,[],hcs,rfl,Bs.nil _ _,Nat.le_refl _⟩
 ·
  simp only [List.cons.injEq,and_true] at hcs
  have hzl : len ≤ zs.length:=by rw [hz]; split <;> omega
  have hb : ∀ z ∈ zs,0 ≤ z ∧ z < 256:=fun z hz' => by
   have h:=hwz z hz'
   simp only [Lit.wf,Bool.and_eq_true,decide_eq_true_eq] at h
   have e1 : IntKind.u8.min = 0:=rfl
   have e2 : IntKind.u8.max = 255:=rfl
   omega
  have hl : ((zs.take len).map fun z => z.toNat).length = len:=by simp; omega
  refine ⟨some a,len,cap,(zs.take len).map fun z => z.toNat,hcs,hl.symm,⟨fun x hx' => ?_,?_⟩,hlc⟩
  ·
   obtain ⟨z,hz1,rfl⟩:=List.mem_map.1 hx'
   have:=hb z (List.mem_of_mem_take hz1)
   omega
  ·
   by_cases h0 : len = 0
   ·
    exact .inl (by rw [hl]; exact h0)
   ·
    clear hcs hx
    obtain ⟨b,off,spot⟩:=a
    have h00:=hcell 0 (by omega)
    have hspot : spot = none:=by simpa [Addr.add] using World.cell?_spot h00
    subst hspot
    have hblk : b < W.heap.size:=by
     have:=World.block_lt_of_cell? W _ h00
     simpa [Addr.add] using this
    refine .inr ⟨b,off,rfl,hblk,fun j hj => ?_⟩
    rw [hl] at hj
    have hjz : j < zs.length:=by omega
    have hzj:=hb (zs[j]) (List.getElem_mem hjz)
    have e1 : ((zs.take len).map fun z => z.toNat).getD j 0 = (zs[j]).toNat:=by
     simp [List.getD_eq_getElem?_getD,List.getElem?_take_of_lt hj,hjz]
    have e2 : zs.getD j 0 = zs[j]:=by simp [List.getD_eq_getElem?_getD,hjz]
    rw [← Addr.add_mid,hcell j hjz,e1,e2,Int.toNat_of_nonneg hzj.1]
theorem cellsI1 : Tryz.prog.cellsOf 3 = 1:=by kernel_rfl
end Go.Proofs.YtbfkecfcolcclaaGreatDoor
namespace Go.Proofs.YtbfkecfcolcclaaGreatDoor
open Go.ChangeShapes Go.WideShapes Go.ChangeAt Go.RowKit
open Go.Value renaming int → vI
open Go.IntKind renaming u64 → vU
open Go.Act renaming put → aP
open List renaming setIfInBounds_toArray → lA, set_cons_zero → lZ, set_cons_succ → lS
theorem cellsWord : Tryz.prog.cellsOf 56 = 1:=by kernel_rfl
def numD {H : Type} (X : Nat) : DataW H:=.agg [.lit (.int .u64 (wd X 0)),.lit (.int .u64 (wd X 1)),.lit (.int .u64 (wd X 2)),.lit (.int .u64 (wd X 3))]
theorem wf_u64 {x : Int} (h : (Lit.int .u64 x).wf = true) : 0 ≤ x ∧ x < 18446744073709551616:=by
 simp only [Lit.wf,Bool.and_eq_true,decide_eq_true_eq] at h
 have e1 : IntKind.u64.min = 0:=rfl
 have e2 : IntKind.u64.max = 18446744073709551615:=rfl
 omega
section
variable {H : Type} {enc : TypeId × Value → H}
end
end Go.Proofs.YtbfkecfcolcclaaGreatDoor
namespace Go.Proofs.YtbfkecfcolcclaaGreatDoor
open Go.ChangeShapes Go.WideShapes Go.ChangeAt Go.RowKit
open Go.Value renaming int → vI
open Go.IntKind renaming u64 → vU
open Go.Act renaming put → aP
open List renaming setIfInBounds_toArray → lA, set_cons_zero → lZ, set_cons_succ → lS
section
variable {H : Type} {enc : TypeId × Value → H}
theorem num_of_trod {W : World} {base : Nat} {sp : Nat → Bool} {hd : Bool} {fuel : Nat} {c0 c1 c2 c3 : Value} {x : DataW H × List MemPlace} (hf : DataW.trod enc Tryz.prog W base sp hd fuel 58 [c0,c1,c2,c3] = some x) :
  ∃ X,X < top ∧ c0 = .int .u64 (wd X 0) ∧ c1 = .int .u64 (wd X 1) ∧ c2 = .int .u64 (wd X 2) ∧ c3 = .int .u64 (wd X 3) ∧ x = (numD X,[]):=by
 obtain ⟨y0,y1,y2,y3,m,hx,hy0,hy1,hy2,hy3⟩:=trod_array4 Tryz.underlying58 cellsWord hf
 obtain ⟨x0,e0,rfl,w0⟩:=DataW.trod_int Tryz.underlying56 hy0
 obtain ⟨x1,e1,rfl,w1⟩:=DataW.trod_int Tryz.underlying56 hy1
 obtain ⟨x2,e2,rfl,w2⟩:=DataW.trod_int Tryz.underlying56 hy2
 obtain ⟨x3,e3,rfl,w3⟩:=DataW.trod_int Tryz.underlying56 hy3
 simp at e0 e1 e2 e3
 subst e0 e1 e2 e3
 subst hx
 obtain ⟨a0,b0⟩:=wf_u64 w0
 obtain ⟨a1,b1⟩:=wf_u64 w1
 obtain ⟨a2,b2⟩:=wf_u64 w2
 obtain ⟨a3,b3⟩:=wf_u64 w3
 obtain ⟨g0,g1,g2,g3⟩:=wd_ofWords a0 b0 a1 b1 a2 b2 a3 b3
 refine ⟨ofWords x0 x1 x2 x3,ofWords_lt b0 b1 b2 b3,?_,?_,?_,?_,?_⟩
 ·
  rw [g0]
 ·
  rw [g1]
 ·
  rw [g2]
 ·
  rw [g3]
 ·
  unfold numD
  rw [g0,g1,g2,g3]
  rfl
end
end Go.Proofs.YtbfkecfcolcclaaGreatDoor
namespace Go.Proofs.YtbfkecfcolcclaaGreatDoor
open Go.ChangeShapes Go.WideShapes Go.RowKit
open Go.Value renaming int → vI
open Go.IntKind renaming u64 → vU
open Go.Act renaming put → aP
open List renaming setIfInBounds_toArray → lA, set_cons_zero → lZ, set_cons_succ → lS
def GoodK (k : Ky) : Prop:=(k.x < top ∧ k.y < top) ∧ (Lit.int .i64 k.i).wf = true ∧ (Lit.int .i64 k.a).wf = true ∧ (Lit.int .i64 k.b).wf = true
section
variable {H : Type} {enc : TypeId × Value → H} {W : World} {base : Nat} {sp : Nat → Bool} {hd : Bool} {fuel : Nat}
theorem pt_of_trod {c0 c1 c2 c3 c4 c5 c6 c7 c8 : Value} {x : DataW H × List MemPlace} (hf : DataW.trod enc Tryz.prog W base sp hd fuel 60 [c0,c1,c2,c3,c4,c5,c6,c7,c8] = some x) :
  ∃ X Y f,X < top ∧ Y < top ∧ [c0,c1,c2,c3,c4,c5,c6,c7,c8] = (qc X Y f).toList:=by
 obtain ⟨y0,y1,y2,m,hx,_,hy0,hy1,hy2⟩:=Deep.trod_struct3 Tryz.underlying60 hf
 have hy0 : DataW.trod enc Tryz.prog W base sp hd m 58 [c0,c1,c2,c3] = some y0:=by simpa [zhu] using hy0
 have hy1 : DataW.trod enc Tryz.prog W base sp hd m 58 [c4,c5,c6,c7] = some y1:=by simpa [zhu] using hy1
 have hy2 : DataW.trod enc Tryz.prog W base sp hd m 4 [c8] = some y2:=by simpa [cells_bool] using hy2
 obtain ⟨X,lX,rfl,rfl,rfl,rfl,rfl⟩:=num_of_trod hy0
 obtain ⟨Y,lY,rfl,rfl,rfl,rfl,rfl⟩:=num_of_trod hy1
 obtain ⟨f,e,rfl⟩:=DataW.trod_bool Tryz.underlying4 hy2
 obtain rfl:=List.head_eq_of_cons_eq e
 exact ⟨X,Y,f,lX,lY,rfl⟩
theorem underK : ∃ f0 f1 f2 f3 : Field,Tryz.prog.underlying 62 = some (.struct #[f0,f1,f2,f3]) ∧ (f0.offset = 0 ∧ f1.offset = 1 ∧ f2.offset = 10 ∧ f3.offset = 11) ∧ f0.type = 3 ∧ f1.type = 60 ∧ f2.type = 3 ∧ f3.type = 3:=⟨_,_,_,_,Tryz.underlying62,⟨rfl,rfl,rfl,rfl⟩,rfl,rfl,rfl,rfl⟩
theorem list12 {cs : List Value} (h : cs.length = 12) : ∃ c0 c1 c2 c3 c4 c5 c6 c7 c8 c9 c10 c11,cs = [c0,c1,c2,c3,c4,c5,c6,c7,c8,c9,c10,c11]:=by
 match cs,h with
 | [c0,c1,c2,c3,c4,c5,c6,c7,c8,c9,c10,c11],_ => exact ⟨c0,c1,c2,c3,c4,c5,c6,c7,c8,c9,c10,c11,rfl⟩
theorem ky_of_trod {cs : List Value} {x : DataW H × List MemPlace} (hf : DataW.trod enc Tryz.prog W base sp hd fuel 62 cs = some x) : ∃ k,GoodK k ∧ cs = kyC k:=by
 obtain ⟨f0,f1,f2,f3,hu,⟨o0,o1,o2,o3⟩,t0,t1,t2,t3⟩:=underK
 obtain ⟨y0,y1,y2,y3,m,_,hl,h0,h1,h2,h3⟩:=Joins.trod_struct4 hu hf
 rw [cells_ky12] at hl
 obtain ⟨c0,c1,c2,c3,c4,c5,c6,c7,c8,c9,c10,c11,rfl⟩:=list12 hl
 rw [t0,o0,cells_int] at h0
 rw [t1,o1,zka] at h1
 rw [t2,o2,cells_int] at h2
 rw [t3,o3,cells_int] at h3
 obtain ⟨X,Y,f,lX,lY,e⟩:=pt_of_trod (by simpa using h1)
 obtain ⟨z0,e0,_,w0⟩:=DataW.trod_int Tryz.underlying3 h0
 obtain ⟨z2,e2,_,w2⟩:=DataW.trod_int Tryz.underlying3 h2
 obtain ⟨z3,e3,_,w3⟩:=DataW.trod_int Tryz.underlying3 h3
 simp at e0 e2 e3
 refine ⟨⟨z0,X,Y,f,z2,z3⟩,⟨⟨lX,lY⟩,w0,w2,w3⟩,?_⟩
 unfold kyC
 rw [← e,e0,e2,e3]
 rfl
theorem ks_of {v : Value} {d : DataW H} {p : List MemPlace} (hf : DataW.trod enc Tryz.prog W base sp hd fuel 28 [v] = some (d,p)) : ∃ l : List Ky,Ks W v l ∧ TopK l ∧ WfK l:=by
 obtain ⟨l,A,c,e,hc,hx⟩:=ls_of (α:={k : Ky // GoodK k}) (cs:=fun k => kyC k.1) Tryz.underlying28 cells_ky12 (by decide) (fun n cs' y h => by
  obtain ⟨k,hk,e⟩:=ky_of_trod h
  exact ⟨⟨k,hk⟩,e⟩) hf
 refine ⟨l.map (·.1),⟨A,c,by rw [List.length_map]; exact e,by rw [List.length_map]; exact hc,?_⟩,fun k hk => ?_,fun k hk => ?_⟩
 ·
  rw [List.length_map]
  refine hx.imp id ?_
  rintro ⟨b,o,ha,hb,hr⟩
  refine ⟨b,o,ha,hb,fun i x hi => ?_⟩
  rw [List.getElem?_map,Option.map_eq_some_iff] at hi
  obtain ⟨y,hy,rfl⟩:=hi
  exact hr i y hy
 ·
  obtain ⟨y,_,rfl⟩:=List.mem_map.1 hk
  exact y.2.1
 ·
  obtain ⟨y,_,rfl⟩:=List.mem_map.1 hk
  exact y.2.2
end
end Go.Proofs.YtbfkecfcolcclaaGreatDoor
namespace Go.Proofs.YtbfkecfcolcclaaGreatDoor
open Go.RowKit
open Go.Value renaming int → vI
open Go.IntKind renaming u64 → vU
open Go.Act renaming put → aP
open List renaming setIfInBounds_toArray → lA, set_cons_zero → lZ, set_cons_succ → lS
/-! ### Same -/
theorem cellsR11 : Tryz.prog.cellsOf 65 = 2:=by kernel_rfl
theorem cellsI11 : Tryz.prog.cellsOf 3 = 1:=by kernel_rfl
end Go.Proofs.YtbfkecfcolcclaaGreatDoor
namespace Go.Proofs.YtbfkecfcolcclaaGreatDoor
open Go.ChangeShapes Go.WideShapes Go.RowKit
open Go.Value renaming int → vI
open Go.IntKind renaming u64 → vU
open Go.Act renaming put → aP
open List renaming setIfInBounds_toArray → lA, set_cons_zero → lZ, set_cons_succ → lS
theorem underR11 : ∃ f0 f1 : Field,Tryz.prog.underlying 65 = some (.struct #[f0,f1]) ∧ f0.offset = 0 ∧ f1.offset = 1 ∧ f0.type = 3 ∧ f1.type = 3:=⟨_,_,Tryz.underlying65,rfl,rfl,rfl,rfl⟩
theorem list2 {cs : List Value} (h : cs.length = 2) : ∃ c0 c1,cs = [c0,c1]:=by
 match cs,h with
 | [c0,c1],_ => exact ⟨c0,c1,rfl⟩
section
variable {H : Type} {enc : TypeId × Value → H} {W : World} {base : Nat} {sp : Nat → Bool} {hd : Bool} {fuel : Nat}
theorem rv_of_trod {cs : List Value} {x : DataW H × List MemPlace} (hf : DataW.trod enc Tryz.prog W base sp hd fuel 65 cs = some x) : ∃ k : Rv,cs = rvC k:=by
 obtain ⟨f0,f1,hu,o0,o1,t0,t1⟩:=underR11
 obtain ⟨y0,y1,m,_,hl,h0,h1⟩:=Go.ChangeShapes.trod_struct2 hu hf
 rw [cellsR11] at hl
 obtain ⟨c0,c1,rfl⟩:=list2 hl
 rw [t0,o0,cellsI11] at h0
 rw [t1,o1,cellsI11] at h1
 obtain ⟨z0,e0,_,_⟩:=DataW.trod_int Tryz.underlying3 h0
 obtain ⟨z1,e1,_,_⟩:=DataW.trod_int Tryz.underlying3 h1
 simp at e0 e1
 exact ⟨(z0,z1),by rw [e0,e1]; rfl⟩
theorem rs_of {v : Value} {d : DataW H} {p : List MemPlace} (hf : DataW.trod enc Tryz.prog W base sp hd fuel 29 [v] = some (d,p)) : ∃ l : List Rv,Rs W v l :=
 ls_of (cs:=rvC) Tryz.underlying29 cellsR11 (by decide) (fun n cs' y h => rv_of_trod h) hf
end
section
variable {H : Type} {enc : TypeId × Value → H} {P : Program} {W : World} {base : Nat} {sp : Nat → Bool} {hd : Bool}
end
end Go.Proofs.YtbfkecfcolcclaaGreatDoor
namespace Go.Proofs.YtbfkecfcolcclaaGreatDoor
open Go.RowKit
open Go.Value renaming int → vI
open Go.IntKind renaming u64 → vU
open Go.Act renaming put → aP
open List renaming setIfInBounds_toArray → lA, set_cons_zero → lZ, set_cons_succ → lS
section
variable {P : Program} {Q : Exit → Act → World → Prop} {l : List Oper} {m : Nat} {a : Act} {w : World} {ty t : TypeId} {zs cells : Array Value} {d de : Tmp} {y : Operand}
theorem run_ext {o : Oper} {x : Operand} {i : Nat} {vs : Array Value} {v : Value} (ho : o.op = .extract x i) (hx : a.eval x = .tuple vs) (hv : vs[i]? = some v) (W : World) : (execOp a.eval o).run P W = .ok (.value v) W:=by
 unfold execOp
 simp only [ho]
 generalize a.eval = ρ at *
 rw [hx]
 simp [Instr.extract,go_sem,hv]
theorem zjb {i : Nat} {o : Oper} {ops : Array Oper} {v : Value} {K : Act → World → Prop} {a : Act} {w : World} (ho : ops[i]? = some o) (hg : o.guard = none) (he : (execOp a.eval o).run P w = .ok (.value v) w) (h : K (a.put o.dst v) w) : wpOp P ops Q i K a w:=by
 refine zax ho hg ?_
 unfold Oper.wp
 rw [he,Oper.upon_value]
 exact h
theorem rest_var2 {v vx : Value} {z : Operand} {dx : Tmp} (ox oa os oe : Oper) (hlen : l.length = m + 4) (hox : l.toArray[m]? = some ox) (hoa : l.toArray[m + 1]? = some oa) (hos : l.toArray[m + 2]? = some os) (hoe : l.toArray[m + 3]? = some oe) (hoa2 : oa.op = .alloc ty) (ho : os.op = .store ty (.tmp d) y) (hoe2 : oe.op = .assign z)
  (hdx : ox.dst = some dx) (hda : oa.dst = some d) (hd : os.dst = none) (hde : oe.dst = some de) (hgx : ox.guard = none) (hga : oa.guard = none) (hg : os.guard = none) (hge : oe.guard = none) (hne : dx ≠ d)
  (hr : Region.ready .any l.toArray (marked m 0 (Array.replicate l.length false)) = [m,m + 1]) (hr1 : Region.ready .any l.toArray (marked (m + 1) 0 (Array.replicate l.length false)) = [m + 1]) (hr2 : Region.ready .any l.toArray (marked (m + 2) 0 (Array.replicate l.length false)) = [m + 2]) (hr3 : Region.ready .any l.toArray (marked (m + 3) 0 (Array.replicate l.length false)) = [m + 3]) (hr4 : Region.ready .any l.toArray (marked (m + 4) 0 (Array.replicate l.length false)) = [])
  (hrb : Region.ready .any l.toArray ((marked m 0 (Array.replicate l.length false)).setIfInBounds (m + 1) true) = [m,m + 2])
  (hrc : Region.ready .any l.toArray (((marked m 0 (Array.replicate l.length false)).setIfInBounds (m + 1) true).setIfInBounds (m + 2) true) = [m])
  (hmk : (marked m 0 (Array.replicate l.length false)).setIfInBounds m true = marked (m + 1) 0 (Array.replicate l.length false))
  (hmk1 : (marked (m + 1) 0 (Array.replicate l.length false)).setIfInBounds (m + 1) true = marked (m + 2) 0 (Array.replicate l.length false))
  (hmkb : ((marked m 0 (Array.replicate l.length false)).setIfInBounds (m + 1) true).setIfInBounds m true = marked (m + 2) 0 (Array.replicate l.length false))
  (hmk2 : (marked (m + 2) 0 (Array.replicate l.length false)).setIfInBounds (m + 2) true = marked (m + 3) 0 (Array.replicate l.length false))
  (hmkc : (((marked m 0 (Array.replicate l.length false)).setIfInBounds (m + 1) true).setIfInBounds (m + 2) true).setIfInBounds m true = marked (m + 3) 0 (Array.replicate l.length false))
  (hmk3 : (marked (m + 3) 0 (Array.replicate l.length false)).setIfInBounds (m + 3) true = marked (m + 4) 0 (Array.replicate l.length false))
  (hz : ∀ W,(Instr.alloc ty true (.tuple #[])).run P W = .ok (ptrTo W.heap.size) (W.alloc (.cells zs t)))
  (hxv : ∀ W,(execOp a.eval ox).run P W = .ok (.value vx) W) (hxv2 : ∀ g W,(execOp (a.put (some d) (ptrTo g)).eval ox).run P W = .ok (.value vx) W)
  (hx : ∀ g,(a.put (some d) (ptrTo g)).eval (.tmp d) = ptrTo g) (hx2 : ∀ g,((a.put (some dx) vx).put (some d) (ptrTo g)).eval (.tmp d) = ptrTo g)
  (hy : ∀ g,(a.put (some d) (ptrTo g)).eval y = .agg cells) (hy2 : ∀ g,((a.put (some dx) vx).put (some d) (ptrTo g)).eval y = .agg cells) (hze : ∀ g,((a.put (some dx) vx).put (some d) (ptrTo g)).eval z = v)
  (hi : (P.info? ty).map (·.size) = some cells.size) (hold : zs.size = cells.size) (h1 : cells.all (·.oneCell') = true)
  (h : ∀ g W,w.heap.size ≤ g → W.heap[g]? = some (.cells cells t (0,0)) → Ext w W → Q .normal (((a.put (some dx) vx).put (some d) (ptrTo g)).put (some de) v) W) : Rest P l Q m (m + 2) a w:=by
 have comm : ∀ g,(a.put (some d) (ptrTo g)).put (some dx) vx = (a.put (some dx) vx).put (some d) (ptrTo g):=fun g => (Act.put_comm a vx (ptrTo g) (by simpa using hne.symm)).symm
 -- the assign,at last
 have fin : ∀ (f : Nat) (g : Nat) (W : World),w.heap.size ≤ g → W.heap[g]? = some (.cells cells t (0,0)) → Ext w W → wpG P .any l.toArray Q (m + 2) (f + 1) (marked (m + 3) 0 (Array.replicate l.length false)) ((a.put (some dx) vx).put (some d) (ptrTo g)) W:=fun f g W hg' hb hE => by
  refine ⟨fun h0 => (by rw [hr3] at h0; cases h0),fun j hj W3 hW3 => ?_⟩
  rw [hr3] at hj
  obtain rfl : j = m + 3:=by simpa using hj
  refine zjb (v:=v) hoe hge (by unfold execOp; simp only [hoe2,hze,Sem.run_pure]) ⟨fun h0 => by omega,?_⟩
  rw [hmk3,hde]
  cases f with
  | zero => exact ⟨hr4,fun W4 hW4 => h g W4 hg' ((hW3.trans hW4).block hb) (hE.trans (hW3.trans hW4))⟩
  | succ f => exact ⟨fun _ W4 hW4 => h g W4 hg' ((hW3.trans hW4).block hb) (hE.trans (hW3.trans hW4)),fun j hj => by rw [hr4] at hj; cases hj⟩
 unfold Rest
 rw [show l.length - m = 0 + 1 + 1 + 1 + 1 by omega]
 refine ⟨fun h0 => (by rw [hr] at h0; cases h0),fun i hi' W hW => ?_⟩
 rw [hr] at hi'
 obtain rfl | rfl : i = m ∨ i = m + 1:=by simpa using hi'
 ·
  -- the result first
  refine zjb hox hgx (hxv W) ⟨fun _ => Ext.refl _,?_⟩
  rw [hmk,hdx]
  refine ⟨fun h0 => (by rw [hr1] at h0; cases h0),fun j hj W1 hW1 => ?_⟩
  rw [hr1] at hj
  obtain rfl : j = i + 1:=by simpa using hj
  refine zax hoa hga (zcp hoa2 hz ⟨fun _ => Ext.alloc _ _,?_⟩)
  rw [hmk1,hda]
  refine ⟨fun h0 => (by rw [hr2] at h0; cases h0),fun j hj W2 hW2 => ?_⟩
  rw [hr2] at hj
  obtain rfl : j = i + 2:=by simpa using hj
  refine zax hos hg (wp_store_row ty _ y ho W1.heap.size cells (hx2 _) (hy2 _) t zs (hW2.block (zab _ _)) hi hold h1 ⟨fun h0 => absurd h0 (Nat.lt_irrefl _),?_⟩)
  rw [hmk2,hd]
  exact fin _ _ _ (Nat.le_trans (Below.size hW) (Below.size hW1)) (setRow_heap W2 _ zs cells t (0,0) (hW2.block (zab _ _))) (zae ((hW.trans hW1).trans ((Ext.alloc _ _).trans hW2)) (Nat.le_trans (Below.size hW) (Below.size hW1)) cells)
 ·
  -- the variable first
  refine zax hoa hga (zcp hoa2 hz ⟨fun _ => Ext.alloc _ _,?_⟩)
  rw [hda]
  refine ⟨fun h0 => (by rw [hrb] at h0; cases h0),fun j hj W1 hW1 => ?_⟩
  rw [hrb] at hj
  obtain rfl | rfl : j = m ∨ j = m + 2:=by simpa using hj
  ·
   refine zjb hox hgx (hxv2 _ W1) ⟨fun _ => Ext.refl _,?_⟩
   rw [hmkb,hdx,comm]
   refine ⟨fun h0 => (by rw [hr2] at h0; cases h0),fun k hk W2 hW2 => ?_⟩
   rw [hr2] at hk
   obtain rfl : k = j + 2:=by simpa using hk
   refine zax hos hg (wp_store_row ty _ y ho W.heap.size cells (hx2 _) (hy2 _) t zs ((hW1.trans hW2).block (zab _ _)) hi hold h1 ⟨fun h0 => absurd h0 (Nat.lt_irrefl _),?_⟩)
   rw [hmk2,hd]
   exact fin _ _ _ (Below.size hW) (setRow_heap W2 _ zs cells t (0,0) ((hW1.trans hW2).block (zab _ _))) (zae (hW.trans ((Ext.alloc _ _).trans (hW1.trans hW2))) (Below.size hW) cells)
  ·
   refine zax hos hg (wp_store_row ty _ y ho W.heap.size cells (hx _) (hy _) t zs (hW1.block (zab _ _)) hi hold h1 ⟨fun h0 => absurd h0 (Nat.lt_irrefl _),?_⟩)
   rw [hd]
   have hb2:=setRow_heap W1 W.heap.size zs cells t (0,0) (hW1.block (zab _ _))
   have hE2 : Ext w (W1.setRow W.heap.size cells):=zae (hW.trans ((Ext.alloc _ _).trans hW1)) (Below.size hW) cells
   refine ⟨fun h0 => (by rw [hrc] at h0; cases h0),fun k hk W2 hW2 => ?_⟩
   rw [hrc] at hk
   obtain rfl : k = m:=by simpa using hk
   refine zjb hox hgx (hxv2 _ W2) ⟨fun _ => Ext.refl _,?_⟩
   rw [hmkc,hdx]
   show wpG P .any l.toArray Q (k + 2) (0 + 1) _ ((a.put (some d) (ptrTo W.heap.size)).put (some dx) vx) W2
   rw [comm]
   exact fin _ _ _ (Below.size hW) (hW2.block hb2) (hE2.trans hW2)
end
end Go.Proofs.YtbfkecfcolcclaaGreatDoor
namespace Go.Proofs.YtbfkecfcolcclaaGreatDoor
def rot (x n : Nat) : Nat:=x / 2 ^ n + 2 ^ (32 - n) * (x % 2 ^ n)
theorem rot_zero {x : Nat} : rot x 0 = x:=by unfold rot; rw [Nat.pow_zero,Nat.div_one,Nat.mod_one,Nat.mul_zero,Nat.add_zero]
theorem rot_step {x n : Nat} (hn : n < 32) : rot x n / 2 + 2147483648 * (rot x n % 2) = rot x (n + 1):=by
 obtain ⟨m,hm⟩ : ∃ m,32 - n = m + 1:=⟨31 - n,by omega⟩
 have hm2 : 32 - (n + 1) = m:=by omega
 have h31 : 2 ^ m * 2 ^ n = 2147483648:=by rw [← Nat.pow_add,show m + n = 31 by omega]
 unfold rot
 rw [hm,hm2,Nat.pow_succ 2 m,Nat.pow_succ 2 n,← Nat.div_div_eq_div_mul,Nat.mod_mul,Nat.mul_add,← Nat.mul_assoc (2 ^ m),h31,Nat.mul_comm (2 ^ m) 2,Nat.mul_assoc]
 generalize x / 2 ^ n = q
 generalize 2 ^ m * (x % 2 ^ n) = p
 omega
theorem zbb {x n : Nat} (hn : n ≤ 32) (hx : x < 2 ^ 32) : rot x n < 2 ^ 32:=by
 have hp : 0 < 2 ^ n:=Nat.pow_pos (by omega)
 have e : 2 ^ 32 = 2 ^ (32 - n) * 2 ^ n:=by rw [← Nat.pow_add]; congr 1; omega
 have hq : x / 2 ^ n < 2 ^ (32 - n):=by rw [Nat.div_lt_iff_lt_mul hp,← e]; exact hx
 have hr:=Nat.mod_lt x hp
 unfold rot
 rw [e]
 have : 2 ^ (32 - n) * (x % 2 ^ n + 1) ≤ 2 ^ (32 - n) * 2 ^ n:=Nat.mul_le_mul_left _ hr
 rw [Nat.mul_add] at this
 omega
end Go.Proofs.YtbfkecfcolcclaaGreatDoor
namespace Go.Proofs.YtbfkecfcolcclaaGreatDoor
def kList : List Nat:=[1116352408,1899447441,3049323471,3921009573,961987163,1508970993,2453635748,2870763221,3624381080,310598401,607225278,1426881987,1925078388,2162078206,2614888103,3248222580,3835390401,4022224774,264347078,604807628,770255983,1249150122,1555081692,1996064986,2554220882,2821834349,2952996808,3210313671,3336571891,3584528711,113926993,338241895,666307205,773529912,1294757372,1396182291,1695183700,1986661051,2177026350,2456956037,2730485921,2820302411,3259730800,3345764771,3516065817,3600352804,4094571909,275423344,430227734,506948616,659060556,883997877,958139571,1322822218,1537002063,1747873779,1955562222,2024104815,2227730452,2361852424,2428436474,2756734187,3204031479,3329325298]
def kc (t : Nat) : Nat:=kList.getD t 0
def ad (x y : Nat) : Nat:=(x + y) % 4294967296
def sg0 (x : Nat) : Nat:=rot x 7 ^^^ rot x 18 ^^^ (x / 2 ^ 3)
def sg1 (x : Nat) : Nat:=rot x 17 ^^^ rot x 19 ^^^ (x / 2 ^ 10)
def bs0 (x : Nat) : Nat:=rot x 2 ^^^ rot x 13 ^^^ rot x 22
def bs1 (x : Nat) : Nat:=rot x 6 ^^^ rot x 11 ^^^ rot x 25
def chN (x y z : Nat) : Nat:=(x &&& y) ^^^ ((4294967295 - x) &&& z)
def majN (x y z : Nat) : Nat:=(x &&& y) ^^^ (x &&& z) ^^^ (y &&& z)
theorem getD_lo (l r : List Nat) {t : Nat} (h : t < l.length) : (l ++ r).getD t 0 = l.getD t 0:=by simp [List.getD,List.getElem?_append_left h]
theorem getD_at (l : List Nat) (x : Nat) {t : Nat} (h : l.length = t) : (l ++ [x]).getD t 0 = x:=by subst h; simp [List.getD]
def sched (m : Nat → Nat) : Nat → List Nat
 | 0 => []
 | t + 1 => let l:=sched m t
  l ++ [if t < 16 then m t else ad (ad (ad (sg1 (l.getD (t - 2) 0)) (l.getD (t - 7) 0)) (sg0 (l.getD (t - 15) 0))) (l.getD (t - 16) 0)]
theorem zhi (m : Nat → Nat) : ∀ t,(sched m t).length = t
 | 0 => rfl
 | t + 1 => by simp [sched,zhi m t]
def wt (m : Nat → Nat) (t : Nat) : Nat:=(sched m (t + 1)).getD t 0
theorem zej (m : Nat → Nat) (t : Nat) : ∀ n,t < n → (sched m n).getD t 0 = wt m t
 | 0,h => by omega
 | n + 1,h => by
  by_cases e : t = n
  ·
   subst e; rfl
  ·
   have ih:=zej m t n (by omega)
   rw [← ih]
   show (sched m n ++ _).getD t 0 = _
   rw [getD_lo _ _ (by rw [zhi]; omega)]
theorem wt_lo (m : Nat → Nat) {t : Nat} (h : t < 16) : wt m t = m t:=by
 unfold wt
 show (sched m t ++ _).getD t 0 = _
 rw [getD_at _ _ (zhi m t),if_pos h]
theorem wt_hi (m : Nat → Nat) {t : Nat} (h : ¬ t < 16) : wt m t = ad (ad (ad (sg1 (wt m (t - 2))) (wt m (t - 7))) (sg0 (wt m (t - 15)))) (wt m (t - 16)):=by
 conv => lhs; unfold wt
 show (sched m t ++ _).getD t 0 = _
 rw [getD_at _ _ (zhi m t),if_neg h,zej m _ t (by omega),zej m _ t (by omega),zej m _ t (by omega),zej m _ t (by omega)]
structure St where
 a : Nat
 b : Nat
 c : Nat
 d : Nat
 e : Nat
 f : Nat
 g : Nat
 h : Nat
def t1N (s : St) (k w : Nat) : Nat:=ad (ad (ad (ad s.h (bs1 s.e)) (chN s.e s.f s.g)) k) w
def t2N (s : St) : Nat:=ad (bs0 s.a) (majN s.a s.b s.c)
def stepN (s : St) (k w : Nat) : St:=⟨ad (t1N s k w) (t2N s),s.a,s.b,s.c,ad s.d (t1N s k w),s.e,s.f,s.g⟩
def roundsN (m : Nat → Nat) (s : St) : Nat → St
 | 0 => s
 | t + 1 => stepN (roundsN m s t) (kc t) (wt m t)
def addSt (x y : St) : St:=⟨ad x.a y.a,ad x.b y.b,ad x.c y.c,ad x.d y.d,ad x.e y.e,ad x.f y.f,ad x.g y.g,ad x.h y.h⟩
def blockN (m : Nat → Nat) (s : St) : St:=addSt s (roundsN m s 64)
def word (text : Nat → Nat) (i : Nat) : Nat:=text i * 16777216 + text (i + 1) * 65536 + text (i + 2) * 256 + text (i + 3)
def blocksN (text : Nat → Nat) : Nat → St
 | 0 => ⟨1779033703,3144134277,1013904242,2773480762,1359893119,2600822924,528734635,1541459225⟩
 | n + 1 => blockN (fun t => word text (64 * n + 4 * t)) (blocksN text n)
def nBlocks (len : Nat) : Nat:=(len + 9 + 63) / 64
def padded (b : Nat → Nat) (len : Nat) : Nat → Nat:=fun i =>
 if i < len then b i else if i = len then 128 else if i < 64 * nBlocks len - 8 then 0 else 8 * len / 256 ^ (64 * nBlocks len - 1 - i) % 256
def shaSt (b : Nat → Nat) (len : Nat) : St:=blocksN (padded b len) (nBlocks len)
end Go.Proofs.YtbfkecfcolcclaaGreatDoor
namespace Go.Proofs.YtbfkecfcolcclaaGreatDoor
theorem wrap32 (n : Int) : IntKind.u32.wrap n = n % 4294967296:=by simp [IntKind.wrap,IntKind.signed,IntKind.bits]
section
variable (a b : Nat) (ha : a < 4294967296) (hb : b < 4294967296)
include ha hb
theorem ofInt32 : (BitVec.ofInt 32 (a : Int)).toNat = a ∧ (BitVec.ofInt 32 (b : Int)).toNat = b:=by
 constructor <;> (rw [BitVec.ofInt_natCast,BitVec.toNat_ofNat]; exact Nat.mod_eq_of_lt (by omega))
theorem and32 : bits .and .u32 (a : Int) (b : Int) = ((a &&& b : Nat) : Int):=by
 have hx : a &&& b < 2 ^ 32:=Nat.and_lt_two_pow _ (by omega)
 show IntKind.u32.wrap ((BitVec.ofInt 32 (a : Int) &&& BitVec.ofInt 32 (b : Int)).toNat : Int) = _
 rw [BitVec.toNat_and,(ofInt32 a b ha hb).1,(ofInt32 a b ha hb).2,wrap32]
 omega
theorem or32 : bits .or .u32 (a : Int) (b : Int) = ((a ||| b : Nat) : Int):=by
 have hx : a ||| b < 2 ^ 32:=Nat.or_lt_two_pow (by omega) (by omega)
 show IntKind.u32.wrap ((BitVec.ofInt 32 (a : Int) ||| BitVec.ofInt 32 (b : Int)).toNat : Int) = _
 rw [BitVec.toNat_or,(ofInt32 a b ha hb).1,(ofInt32 a b ha hb).2,wrap32]
 omega
theorem xor32 : bits .xor .u32 (a : Int) (b : Int) = ((a ^^^ b : Nat) : Int):=by
 have hx : a ^^^ b < 2 ^ 32:=Nat.xor_lt_two_pow (by omega) (by omega)
 show IntKind.u32.wrap ((BitVec.ofInt 32 (a : Int) ^^^ BitVec.ofInt 32 (b : Int)).toNat : Int) = _
 rw [BitVec.toNat_xor,(ofInt32 a b ha hb).1,(ofInt32 a b ha hb).2,wrap32]
 omega
end
theorem not_bit {x : Nat} (hx : x < 2 ^ 32) (i : Nat) : (4294967295 - x).testBit i = (decide (i < 32) && !x.testBit i):=by
 have h:=Nat.testBit_two_pow_sub_succ hx i
 rwa [show 2 ^ 32 - (x + 1) = 4294967295 - x by omega] at h
theorem ch_or {x y z : Nat} (hx : x < 2 ^ 32) : chN x y z = (x &&& y) ||| ((4294967295 - x) &&& z):=by
 unfold chN
 apply Nat.eq_of_testBit_eq
 intro i
 simp only [Nat.testBit_xor,Nat.testBit_or,Nat.testBit_and,not_bit hx]
 cases x.testBit i <;> simp
theorem maj_or (x y z : Nat) : majN x y z = (x &&& y) ||| (x &&& z) ||| (y &&& z):=by
 unfold majN
 apply Nat.eq_of_testBit_eq
 intro i
 simp only [Nat.testBit_xor,Nat.testBit_or,Nat.testBit_and]
 cases x.testBit i <;> cases y.testBit i <;> cases z.testBit i <;> rfl
theorem rot_or {x n : Nat} (hn : n ≤ 32) (hx : x < 2 ^ 32) : rot x n = (x / 2 ^ n) ||| (x * 2 ^ (32 - n) % 2 ^ 32):=by
 have hp : 0 < 2 ^ n:=Nat.pow_pos (by omega)
 have e : 2 ^ 32 = 2 ^ (32 - n) * 2 ^ n:=by rw [← Nat.pow_add]; congr 1; omega
 have hq : x / 2 ^ n < 2 ^ (32 - n):=by rw [Nat.div_lt_iff_lt_mul hp,← e]; exact hx
 have h1 : x * 2 ^ (32 - n) % 2 ^ 32 = 2 ^ (32 - n) * (x % 2 ^ n):=by rw [e,Nat.mul_comm x,Nat.mul_mod_mul_left]
 rw [h1,Nat.or_comm,← Nat.two_pow_add_eq_or_of_lt hq]
 unfold rot
 omega
/-! ### all is below 2^32 -/
theorem ad_lt (x y : Nat) : ad x y < 2 ^ 32:=Nat.mod_lt _ (by decide)
theorem shr_lt {x : Nat} (n : Nat) (hx : x < 2 ^ 32) : x / 2 ^ n < 2 ^ 32:=Nat.lt_of_le_of_lt (Nat.div_le_self _ _) hx
theorem wt_lt {m : Nat → Nat} (hm : ∀ t,t < 16 → m t < 2 ^ 32) (t : Nat) : wt m t < 2 ^ 32:=by
 by_cases h : t < 16
 ·
  rw [wt_lo m h]; exact hm t h
 ·
  rw [wt_hi m h]; exact ad_lt _ _
structure St.Ok (s : St) : Prop where
 a : s.a < 2 ^ 32
 b : s.b < 2 ^ 32
 c : s.c < 2 ^ 32
 d : s.d < 2 ^ 32
 e : s.e < 2 ^ 32
 f : s.f < 2 ^ 32
 g : s.g < 2 ^ 32
 h : s.h < 2 ^ 32
theorem stepN_ok {s : St} (h : s.Ok) (k w : Nat) : (stepN s k w).Ok:=⟨ad_lt _ _,h.a,h.b,h.c,ad_lt _ _,h.e,h.f,h.g⟩
theorem zic {m : Nat → Nat} {s : St} (h : s.Ok) : ∀ t,(roundsN m s t).Ok
 | 0 => h
 | t + 1 => stepN_ok (zic h t) _ _
theorem blockN_ok (m : Nat → Nat) (s : St) : (blockN m s).Ok:=⟨ad_lt _ _,ad_lt _ _,ad_lt _ _,ad_lt _ _,ad_lt _ _,ad_lt _ _,ad_lt _ _,ad_lt _ _⟩
theorem ziy (text : Nat → Nat) : ∀ n,(blocksN text n).Ok
 | 0 => by constructor <;> (show _ < _; simp [blocksN])
 | n + 1 => blockN_ok _ _
theorem zhz {f g : Nat → Nat} : ∀ n,(∀ i,i < 64 * n → f i = g i) → blocksN f n = blocksN g n
 | 0,_ => rfl
 | n + 1,h => by
  have ih:=zhz n fun i hi => h i (by omega)
  have hw : ∀ t,t < 16 → word f (64 * n + 4 * t) = word g (64 * n + 4 * t):=by
   intro t ht
   unfold word
   rw [h _ (by omega),h _ (by omega),h _ (by omega),h _ (by omega)]
  have hs : ∀ k,sched (fun t => word f (64 * n + 4 * t)) k = sched (fun t => word g (64 * n + 4 * t)) k:=by
   intro k
   induction k with
   | zero => simp only [sched]
   | succ k ihk =>
    simp only [sched]
    rw [ihk]
    by_cases hk : k < 16
    ·
     simp only [if_pos hk]; rw [hw k hk]
    ·
     simp only [if_neg hk]
  have hr : ∀ s k,roundsN (fun t => word f (64 * n + 4 * t)) s k = roundsN (fun t => word g (64 * n + 4 * t)) s k:=by
   intro s k
   induction k with
   | zero => simp only [roundsN]
   | succ k ihk =>
    simp only [roundsN]
    rw [ihk]; unfold wt; rw [hs]
  simp only [blocksN]
  rw [ih]; unfold blockN; rw [hr]
end Go.Proofs.YtbfkecfcolcclaaGreatDoor
namespace Go.Proofs.YtbfkecfcolcclaaGreatDoor
open Go.RowKit
open Go.Value renaming int → vI
open Go.IntKind renaming u64 → vU
open Go.Act renaming put → aP
open List renaming setIfInBounds_toArray → lA, set_cons_zero → lZ, set_cons_succ → lS
def St.at (s : St) (j : Nat) : Nat:=match j with | 0 => s.a | 1 => s.b | 2 => s.c | 3 => s.d | 4 => s.e | 5 => s.f | 6 => s.g | _ => s.h
theorem St.at_lt {s : St} (h : s.Ok) (j : Nat) : s.at j < 2 ^ 32:=by
 unfold St.at
 split
 ·
  exact h.a
 ·
  exact h.b
 ·
  exact h.c
 ·
  exact h.d
 ·
  exact h.e
 ·
  exact h.f
 ·
  exact h.g
 ·
  exact h.h
def hcells (s : St) (blk : Nat → Nat) (len : Nat) : Nat → Value:=fun j => if j < 8 then .int .u32 (s.at j : Nat) else if j < 72 then .int .u8 (blk (j - 8) : Nat) else .int .i64 (len : Int)
def HRow (w : World) (g : Nat) (s : St) (blk : Nat → Nat) (len : Nat) : Prop:=w.rowIs g 201 73 (hcells s blk len)
section
variable {w w' : World} {g B len : Nat} {s : St} {blk : Nat → Nat}
theorem HRow.lt (h : HRow w g s blk len) : g < w.heap.size:=World.rowIs.lt h
theorem HRow.below (h : HRow w g s blk len) (hb : Below B w w') (hlt : g < B) : HRow w' g s blk len:=zaf h hb hlt
theorem HRow.call (h : HRow w g s blk len) (hb : Below w.heap.size w w') : HRow w' g s blk len:=zaf h hb h.lt
theorem HRow.alloc (h : HRow w g s blk len) (o : Obj) : HRow (w.alloc o) g s blk len:=World.rowIs.alloc h o
theorem HRow.drew (h : HRow w g s blk len) : HRow w.drew g s blk len:=h
theorem HRow.drewN (h : HRow w g s blk len) (k : Nat) : HRow (w.drewN k) g s blk len:=h
theorem HRow.of_block (h : HRow w g s blk len) (e : w'.heap[g]? = w.heap[g]?) : HRow w' g s blk len:=World.rowIs.of_block h e
theorem HRow.state (h : HRow w g s blk len) {j : Nat} (hj : j < 8) : w.cell? ⟨g,j,none⟩ = some (.int .u32 (s.at j : Nat)):=by
 rw [World.rowIs.cell h (show j < 73 by omega),hcells,if_pos hj]
theorem HRow.byte (h : HRow w g s blk len) {j : Nat} (hj : j < 64) : w.cell? ⟨g,8 + j,none⟩ = some (.int .u8 (blk j : Nat)):=by
 rw [World.rowIs.cell h (show 8 + j < 73 by omega),hcells,if_neg (by omega),if_pos (by omega),show 8 + j - 8 = j by omega]
theorem HRow.length (h : HRow w g s blk len) : w.cell? ⟨g,72,none⟩ = some (.int .i64 (len : Int)):=by
 rw [World.rowIs.cell h (show 72 < 73 by omega),hcells,if_neg (by omega),if_neg (by omega)]
theorem HRow.block (h : HRow w g s blk len) : w.rangeAt g 8 ((List.range 64).map fun j => Value.int .u8 (blk j : Nat)):=by
 intro j v hv
 have hj : j < 64:=by simpa using (List.getElem?_eq_some_iff.1 hv).1
 rw [h.byte hj,← hv]
 simp [hj]
theorem HRow.words (h : HRow w g s blk len) : w.rangeAt g 0 ((List.range 8).map fun j => Value.int .u32 (s.at j : Nat)):=by
 intro j v hv
 have hj : j < 8:=by simpa using (List.getElem?_eq_some_iff.1 hv).1
 rw [Nat.zero_add,h.state hj,← hv]
 simp [hj]
end
structure KT (w : World) : Prop where
 lt : 0 < w.heap.size
 cell : ∀ j,j < 64 → w.cell? ⟨0,j,none⟩ = some (.int .u32 (kc j : Nat))
section
variable {w w' : World} {B : Nat}
theorem KT.of_block (h : KT w) (e : w'.heap[0]? = w.heap[0]?) (hs : w.heap.size ≤ w'.heap.size) : KT w' :=
 ⟨Nat.lt_of_lt_of_le h.lt hs,fun j hj => (World.cell?_of_block (w:=w) (a:=⟨0,j,none⟩) e).trans (h.cell j hj)⟩
theorem KT.below (h : KT w) (hb : Below B w w') (hB : 0 < B) : KT w':=h.of_block (hb.block 0 hB) hb.size
theorem KT.call (h : KT w) (hb : Below w.heap.size w w') : KT w':=h.below hb h.lt
theorem KT.alloc (h : KT w) (o : Obj) : KT (w.alloc o):=h.of_block (Below.heap_alloc _ _ _ h.lt) (by simp)
theorem KT.drew (h : KT w) : KT w.drew:=⟨h.lt,h.cell⟩
theorem KT.drewN (h : KT w) (k : Nat) : KT (w.drewN k):=⟨h.lt,h.cell⟩
theorem KT.far {b i : Nat} (h : KT w) (hne : 0 ≠ b) (v : Value) : KT (w.setCell ⟨b,i,none⟩ v):=h.of_block (Below.heap_setCell _ _ _ _ hne) (by simp [World.setCell])
theorem KT.grown {r : Nat} (h : KT w) (hg : w.grownBy w' (some r)) (hne : 0 ≠ r) : KT w':=h.of_block (hg.block 0 h.lt (by simpa using hne)) hg.size
end
theorem veil32 {p : Prop} (h : p) : Hid p:=h
theorem zdu (x n : Nat) (hx : x < 2 ^ 32) (hn : n ≤ 32) (w : World) :
  Calls Tryz.prog 134 #[.int .u32 (x : Int),.int .i64 (n : Int)] w fun e w' => e = .returned (.int .u32 (rot x n : Nat)) ∧ w' = w:=by
 have HX:=veil32 hx
 clear hx
 have hni : (n : Int) ≤ 32:=by omega
 go_enter Tryz.func134,Tryz.ntmps134
 go_wp2
 go_loopw [0,5] (fun y i wr => ∃ k : Nat,k ≤ n ∧ i = .int .i64 (k : Int) ∧ y = .int .u32 (rot x k : Nat) ∧ wr = w)
  (fun _ i _ => n - (intOf i).toNat)
 case atStart => exact ⟨0,by omega,rfl,by rw [rot_zero],rfl⟩
 case round =>
  obtain ⟨k,hk,rfl,rfl,rfl⟩:=hrel
  by_cases hlt : k < n
  ·
   have hlti : (k : Int) < (n : Int):=by omega
   have hs:=rot_step (x:=x) (n:=k) (by omega)
   have hl:=zbb (x:=x) (n:=k) (by omega) HX.out
   have hl2:=zbb (x:=x) (n:=k + 1) (by omega) HX.out
   obtain ⟨y,hy⟩ : ∃ y : Int,y = ((rot x k : Nat) : Int):=⟨_,rfl⟩
   obtain ⟨z,hz⟩ : ∃ z : Int,z = ((rot x (k + 1) : Nat) : Int):=⟨_,rfl⟩
   have e : y / 2 + 2147483648 * (y % 2) = z:=by omega
   have y0 : 0 ≤ y:=by omega
   have y1 : y ≤ 4294967295:=by omega
   have z1 : z ≤ 4294967295:=by omega
   rw [← hy]
   have HZ:=veil32 hz
   clear hs hl hl2 hy hz
   have hd : y % 2 = 1 ∨ y % 2 = 0:=by omega
   rcases hd with h | h
   ·
    rw [h] at e
    have e2 : y / 2 + 2147483648 = z:=by omega
    clear e
    go_wp2
    go_roundw
    case rel => exact ⟨k + 1,by omega,by go_num,by rw [← HZ.out],trivial⟩
    case measure => simp [intOf]; omega
   ·
    rw [h] at e
    have e2 : y / 2 = z:=by omega
    clear e
    go_wp2
    go_roundw
    case rel => exact ⟨k + 1,by omega,by go_num,by rw [← HZ.out,e2],trivial⟩
    case measure => simp [intOf]; omega
  ·
   obtain rfl : k = n:=by omega
   go_wp2
   go_ret
   exact ⟨rfl,rfl⟩
theorem shift_calls (x n : Nat) (hx : x < 2 ^ 32) (hn : n ≤ 32) (w : World) :
  Calls Tryz.prog 135 #[.int .u32 (x : Int),.int .i64 (n : Int)] w fun e w' => e = .returned (.int .u32 (x / 2 ^ n : Nat)) ∧ w' = w:=by
 have HX:=veil32 hx
 clear hx
 have hni : (n : Int) ≤ 32:=by omega
 go_enter Tryz.func135,Tryz.ntmps135
 go_wp2
 go_loopw [0,5] (fun y i wr => ∃ k : Nat,k ≤ n ∧ i = .int .i64 (k : Int) ∧ y = .int .u32 (x / 2 ^ k : Nat) ∧ wr = w)
  (fun _ i _ => n - (intOf i).toNat)
 case atStart => exact ⟨0,by omega,rfl,by rw [Nat.pow_zero,Nat.div_one],rfl⟩
 case round =>
  obtain ⟨k,hk,rfl,rfl,rfl⟩:=hrel
  by_cases hlt : k < n
  ·
   have hlti : (k : Int) < (n : Int):=by omega
   have hs : x / 2 ^ (k + 1) = x / 2 ^ k / 2:=by rw [Nat.pow_succ,Nat.div_div_eq_div_mul]
   have hl : x / 2 ^ k < 2 ^ 32:=Nat.lt_of_le_of_lt (Nat.div_le_self _ _) HX.out
   obtain ⟨y,hy⟩ : ∃ y : Int,y = ((x / 2 ^ k : Nat) : Int):=⟨_,rfl⟩
   obtain ⟨z,hz⟩ : ∃ z : Int,z = ((x / 2 ^ (k + 1) : Nat) : Int):=⟨_,rfl⟩
   have HZ:=veil32 hz
   rw [hs] at hz
   rw [← hy]
   generalize x / 2 ^ k = q at *
   have e2 : y / 2 = z:=by omega
   have y0 : 0 ≤ y:=by omega
   have y1 : y ≤ 4294967295:=by omega
   clear hs hl hy hz
   go_wp2
   go_roundw
   case rel => exact ⟨k + 1,by omega,by go_num,by rw [← HZ.out,e2],trivial⟩
   case measure => simp [intOf]; omega
  ·
   obtain rfl : k = n:=by omega
   go_wp2
   go_ret
   exact ⟨rfl,rfl⟩
theorem neg_and : ∀ n : Fin 32,n.1 ≠ 0 → bits .and .u64 (IntKind.u64.wrap (-(n.1 : Int))) 31 = 32 - (n.1 : Int):=by decide
theorem rot_bits {x n : Nat} (hx : x < 2 ^ 32) (hn : n < 32) : bits .or .u32 ((x : Int) * 2 ^ (32 - n) % 4294967296) ((x : Int) / 2 ^ (32 - (32 - n))) = ((rot x n : Nat) : Int):=by
 have e : 32 - (32 - n) = n:=by omega
 have e1 : (x : Int) * 2 ^ (32 - n) % 4294967296 = ((x * 2 ^ (32 - n) % 2 ^ 32 : Nat) : Int):=by
  rw [Int.natCast_emod,Int.natCast_mul,Int.natCast_pow]; rfl
 have e2 : (x : Int) / 2 ^ n = ((x / 2 ^ n : Nat) : Int):=by
  rw [Int.natCast_ediv,Int.natCast_pow]; rfl
 rw [e,e1,e2,or32 _ _ (Nat.mod_lt _ (by decide)) (shr_lt n hx),rot_or (by omega) hx,Nat.or_comm]
theorem ret_u32 {a : Int} {b : Nat} (h : a = (b : Int)) : Ending.returned (.int .u32 a) = .returned (.int .u32 (b : Nat)):=by rw [h]
theorem rotl_calls (x n : Nat) (hx : x < 2 ^ 32) (h0 : n ≠ 0) (hn : n < 32) (w : World) :
  Calls Tryz.prog 210 #[.int .u32 (x : Int),.int .i64 (-(n : Int))] w fun e w' => e = .returned (.int .u32 (rot x n : Nat)) ∧ w' = w:=by
 have k1:=neg_and ⟨n,hn⟩ h0
 simp only at k1
 go_enter Tryz.func210,Tryz.ntmps210
 go_wp2
 go_ret
 exact ⟨ret_u32 (rot_bits hx hn),rfl⟩
theorem zbf (x n : Nat) (hx : x < 2 ^ 32) (h0 : n ≠ 0) (hn : n < 32) (w : World) :
  Calls Tryz.prog 209 #[.int .u32 (x : Int),.int .i64 (n : Int)] w fun e w' => e = .returned (.int .u32 (rot x n : Nat)) ∧ w' = w:=by
 go_enter Tryz.func209,Tryz.ntmps209
 go_wp2_with (go_at_call 210; refine (rotl_calls x n hx h0 hn _).mono ?_; rintro e w' ⟨rfl,rfl⟩)
 go_ret
 exact ⟨rfl,rfl⟩
theorem bigOne_calls (x : Nat) (hx : x < 2 ^ 32) (w : World) :
  Calls Tryz.prog 194 #[.int .u32 (x : Int)] w fun e w' => e = .returned (.int .u32 (bs1 x : Nat)) ∧ w' = w:=by
 have k1:=xor32 (rot x 6) (rot x 11) (zbb (by omega) hx) (zbb (by omega) hx)
 have k2:=xor32 (rot x 6 ^^^ rot x 11) (rot x 25) (Nat.xor_lt_two_pow (n:=32) (zbb (by omega) hx) (zbb (by omega) hx)) (zbb (by omega) hx)
 have H1 : Hid (∀ W,Calls Tryz.prog 209 #[.int .u32 (x : Int),.int .i64 6] W fun e w' => e = .returned (.int .u32 (rot x 6 : Nat)) ∧ w' = W):=veil32 (fun W => zbf x 6 hx (by decide) (by decide) W)
 have H2 : Hid (∀ W,Calls Tryz.prog 209 #[.int .u32 (x : Int),.int .i64 11] W fun e w' => e = .returned (.int .u32 (rot x 11 : Nat)) ∧ w' = W):=veil32 (fun W => zbf x 11 hx (by decide) (by decide) W)
 have H3 : Hid (∀ W,Calls Tryz.prog 209 #[.int .u32 (x : Int),.int .i64 25] W fun e w' => e = .returned (.int .u32 (rot x 25 : Nat)) ∧ w' = W):=veil32 (fun W => zbf x 25 hx (by decide) (by decide) W)
 go_enter Tryz.func194,Tryz.ntmps194
 go_wp2_with (go_at_call 209; (first | ((with_reducible refine (H1.out _).mono ?_); rintro e w' ⟨rfl,rfl⟩) | ((with_reducible refine (H2.out _).mono ?_); rintro e w' ⟨rfl,rfl⟩) | ((with_reducible refine (H3.out _).mono ?_); rintro e w' ⟨rfl,rfl⟩)))
 go_ret
 exact ⟨rfl,rfl⟩
theorem bigZero_calls (x : Nat) (hx : x < 2 ^ 32) (w : World) :
  Calls Tryz.prog 196 #[.int .u32 (x : Int)] w fun e w' => e = .returned (.int .u32 (bs0 x : Nat)) ∧ w' = w:=by
 have k1:=xor32 (rot x 2) (rot x 13) (zbb (by omega) hx) (zbb (by omega) hx)
 have k2:=xor32 (rot x 2 ^^^ rot x 13) (rot x 22) (Nat.xor_lt_two_pow (n:=32) (zbb (by omega) hx) (zbb (by omega) hx)) (zbb (by omega) hx)
 have H1 : Hid (∀ W,Calls Tryz.prog 209 #[.int .u32 (x : Int),.int .i64 2] W fun e w' => e = .returned (.int .u32 (rot x 2 : Nat)) ∧ w' = W):=veil32 (fun W => zbf x 2 hx (by decide) (by decide) W)
 have H2 : Hid (∀ W,Calls Tryz.prog 209 #[.int .u32 (x : Int),.int .i64 13] W fun e w' => e = .returned (.int .u32 (rot x 13 : Nat)) ∧ w' = W):=veil32 (fun W => zbf x 13 hx (by decide) (by decide) W)
 have H3 : Hid (∀ W,Calls Tryz.prog 209 #[.int .u32 (x : Int),.int .i64 22] W fun e w' => e = .returned (.int .u32 (rot x 22 : Nat)) ∧ w' = W):=veil32 (fun W => zbf x 22 hx (by decide) (by decide) W)
 go_enter Tryz.func196,Tryz.ntmps196
 go_wp2_with (go_at_call 209; (first | ((with_reducible refine (H1.out _).mono ?_); rintro e w' ⟨rfl,rfl⟩) | ((with_reducible refine (H2.out _).mono ?_); rintro e w' ⟨rfl,rfl⟩) | ((with_reducible refine (H3.out _).mono ?_); rintro e w' ⟨rfl,rfl⟩)))
 go_ret
 exact ⟨rfl,rfl⟩
theorem smallOne_calls (x : Nat) (hx : x < 2 ^ 32) (w : World) :
  Calls Tryz.prog 207 #[.int .u32 (x : Int)] w fun e w' => e = .returned (.int .u32 (sg1 x : Nat)) ∧ w' = w:=by
 obtain ⟨q,hq⟩ : ∃ q,q = x / 2 ^ 10:=⟨_,rfl⟩
 have hql : q < 2 ^ 32:=by rw [hq]; exact shr_lt 10 hx
 have k3 : (x : Int) / 1024 = (q : Int):=by rw [hq,Int.natCast_ediv]; rfl
 have HQ:=veil32 hq
 clear hq
 have k1:=xor32 (rot x 17) (rot x 19) (zbb (by omega) hx) (zbb (by omega) hx)
 have k2:=xor32 (rot x 17 ^^^ rot x 19) (q) (Nat.xor_lt_two_pow (n:=32) (zbb (by omega) hx) (zbb (by omega) hx)) (hql)
 have H1 : Hid (∀ W,Calls Tryz.prog 209 #[.int .u32 (x : Int),.int .i64 17] W fun e w' => e = .returned (.int .u32 (rot x 17 : Nat)) ∧ w' = W):=veil32 (fun W => zbf x 17 hx (by decide) (by decide) W)
 have H2 : Hid (∀ W,Calls Tryz.prog 209 #[.int .u32 (x : Int),.int .i64 19] W fun e w' => e = .returned (.int .u32 (rot x 19 : Nat)) ∧ w' = W):=veil32 (fun W => zbf x 19 hx (by decide) (by decide) W)
 go_enter Tryz.func207,Tryz.ntmps207
 go_wp2_with (go_at_call 209; (first | ((with_reducible refine (H1.out _).mono ?_); rintro e w' ⟨rfl,rfl⟩) | ((with_reducible refine (H2.out _).mono ?_); rintro e w' ⟨rfl,rfl⟩)))
 go_ret
 exact ⟨by unfold sg1; rw [← HQ.out]; rfl,rfl⟩
theorem smallZero_calls (x : Nat) (hx : x < 2 ^ 32) (w : World) :
  Calls Tryz.prog 208 #[.int .u32 (x : Int)] w fun e w' => e = .returned (.int .u32 (sg0 x : Nat)) ∧ w' = w:=by
 obtain ⟨q,hq⟩ : ∃ q,q = x / 2 ^ 3:=⟨_,rfl⟩
 have hql : q < 2 ^ 32:=by rw [hq]; exact shr_lt 3 hx
 have k3 : (x : Int) / 8 = (q : Int):=by rw [hq,Int.natCast_ediv]; rfl
 have HQ:=veil32 hq
 clear hq
 have k1:=xor32 (rot x 7) (rot x 18) (zbb (by omega) hx) (zbb (by omega) hx)
 have k2:=xor32 (rot x 7 ^^^ rot x 18) (q) (Nat.xor_lt_two_pow (n:=32) (zbb (by omega) hx) (zbb (by omega) hx)) (hql)
 have H1 : Hid (∀ W,Calls Tryz.prog 209 #[.int .u32 (x : Int),.int .i64 7] W fun e w' => e = .returned (.int .u32 (rot x 7 : Nat)) ∧ w' = W):=veil32 (fun W => zbf x 7 hx (by decide) (by decide) W)
 have H2 : Hid (∀ W,Calls Tryz.prog 209 #[.int .u32 (x : Int),.int .i64 18] W fun e w' => e = .returned (.int .u32 (rot x 18 : Nat)) ∧ w' = W):=veil32 (fun W => zbf x 18 hx (by decide) (by decide) W)
 go_enter Tryz.func208,Tryz.ntmps208
 go_wp2_with (go_at_call 209; (first | ((with_reducible refine (H1.out _).mono ?_); rintro e w' ⟨rfl,rfl⟩) | ((with_reducible refine (H2.out _).mono ?_); rintro e w' ⟨rfl,rfl⟩)))
 go_ret
 exact ⟨by unfold sg0; rw [← HQ.out]; rfl,rfl⟩
theorem xor_all {x : Nat} (hx : x < 2 ^ 32) : bits .xor .u32 IntKind.u32.max (x : Int) = ((4294967295 - x : Nat) : Int):=by
 have h:=xor32 4294967295 x (by decide) hx
 have e : 4294967295 ^^^ x = 4294967295 - x:=by
  apply Nat.eq_of_testBit_eq
  intro i
  rw [Nat.testBit_xor,not_bit hx,show (4294967295 : Nat) = 2 ^ 32 - 1 from rfl,Nat.testBit_two_pow_sub_one]
  by_cases h : i < 32
  ·
   simp [h]
  ·
   have h32 : 2 ^ 32 ≤ 2 ^ i:=Nat.pow_le_pow_right (by omega) (by omega)
   rw [Nat.testBit_lt_two_pow (Nat.lt_of_lt_of_le hx h32)]
   simp [h]
 rw [e] at h
 exact h
theorem choice_calls (x y z : Nat) (hx : x < 2 ^ 32) (hy : y < 2 ^ 32) (hz : z < 2 ^ 32) (w : World) :
  Calls Tryz.prog 195 #[.int .u32 (x : Int),.int .u32 (y : Int),.int .u32 (z : Int)] w fun e w' => e = .returned (.int .u32 (chN x y z : Nat)) ∧ w' = w:=by
 have k1:=and32 x y hx hy
 have k2:=xor_all hx
 have k3:=and32 (4294967295 - x) z (by omega) hz
 have k4:=xor32 (x &&& y) ((4294967295 - x) &&& z) (Nat.lt_of_le_of_lt Nat.and_le_left hx) (Nat.lt_of_le_of_lt Nat.and_le_left (by omega))
 go_enter Tryz.func195,Tryz.ntmps195
 go_wp2
 go_ret
 exact ⟨rfl,rfl⟩
theorem majority_calls (x y z : Nat) (hx : x < 2 ^ 32) (hy : y < 2 ^ 32) (hz : z < 2 ^ 32) (w : World) :
  Calls Tryz.prog 197 #[.int .u32 (x : Int),.int .u32 (y : Int),.int .u32 (z : Int)] w fun e w' => e = .returned (.int .u32 (majN x y z : Nat)) ∧ w' = w:=by
 have k1:=and32 x y hx hy
 have k2:=and32 x z hx hz
 have k3:=and32 y z hy hz
 have l1 : x &&& y < 2 ^ 32:=Nat.lt_of_le_of_lt Nat.and_le_left hx
 have l2 : x &&& z < 2 ^ 32:=Nat.lt_of_le_of_lt Nat.and_le_left hx
 have l3 : y &&& z < 2 ^ 32:=Nat.lt_of_le_of_lt Nat.and_le_left hy
 have k4:=xor32 (x &&& y) (x &&& z) l1 l2
 have k5:=xor32 ((x &&& y) ^^^ (x &&& z)) (y &&& z) (Nat.xor_lt_two_pow (n:=32) l1 l2) l3
 clear l1 l2 l3 hx hy hz
 go_enter Tryz.func197,Tryz.ntmps197
 go_wp2
 go_ret
 exact ⟨rfl,rfl⟩
theorem info8 : (Tryz.prog.info? 199).map (·.size) = some 64:=by kernel_rfl
theorem info32 : (Tryz.prog.info? 224).map (·.size) = some 64:=by kernel_rfl
theorem zeros64 : (#[.int .u32 0,.int .u32 0,.int .u32 0,.int .u32 0,.int .u32 0,.int .u32 0,.int .u32 0,.int .u32 0,.int .u32 0,.int .u32 0,.int .u32 0,.int .u32 0,.int .u32 0,.int .u32 0,.int .u32 0,.int .u32 0,.int .u32 0,.int .u32 0,.int .u32 0,.int .u32 0,.int .u32 0,.int .u32 0,.int .u32 0,.int .u32 0,.int .u32 0,.int .u32 0,.int .u32 0,.int .u32 0,.int .u32 0,.int .u32 0,.int .u32 0,.int .u32 0,.int .u32 0,.int .u32 0,.int .u32 0,.int .u32 0,.int .u32 0,.int .u32 0,.int .u32 0,.int .u32 0,.int .u32 0,.int .u32 0,.int .u32 0,.int .u32 0,.int .u32 0,.int .u32 0,.int .u32 0,.int .u32 0,.int .u32 0,.int .u32 0,.int .u32 0,.int .u32 0,.int .u32 0,.int .u32 0,.int .u32 0,.int .u32 0,.int .u32 0,.int .u32 0,.int .u32 0,.int .u32 0,.int .u32 0,.int .u32 0,.int .u32 0,.int .u32 0] : Array Value) = arrOf 64 (fun _ => .int .u32 0):=rfl
def pwb (blk : Nat → Nat) (j : Nat) : Nat → Nat
 | 0 => 0
 | m + 1 => pwb blk j m * 256 + blk (4 * j + m)
theorem pwb_lt {blk : Nat → Nat} (h : ∀ j,blk j < 256) (j : Nat) : ∀ m,pwb blk j m < 256 ^ m
 | 0 => by simp [pwb]
 | m + 1 => by
  have ih:=pwb_lt h j m
  have hb:=h (4 * j + m)
  show pwb blk j m * 256 + blk (4 * j + m) < 256 ^ (m + 1)
  rw [Nat.pow_succ]; omega
def pw (blk : Nat → Nat) (k j : Nat) : Nat:=pwb blk j (min (k - 4 * j) 4)
theorem pw_zero (blk : Nat → Nat) (j : Nat) : pw blk 0 j = 0:=by unfold pw; rw [Nat.zero_sub,Nat.zero_min]; rfl
theorem pw_step {blk : Nat → Nat} {k : Nat} (j : Nat) : pw blk (k + 1) j = if j = k / 4 then pw blk k j * 256 + blk k else pw blk k j:=by
 unfold pw
 by_cases h : j = k / 4
 ·
  rw [if_pos h,show min (k + 1 - 4 * j) 4 = min (k - 4 * j) 4 + 1 by omega]
  show pwb blk j _ * 256 + blk (4 * j + _) = _
  rw [show 4 * j + min (k - 4 * j) 4 = k by omega]
 ·
  rw [if_neg h,show min (k + 1 - 4 * j) 4 = min (k - 4 * j) 4 by omega]
theorem pw_lt {blk : Nat → Nat} (h : ∀ j,blk j < 256) (k : Nat) : pw blk k (k / 4) < 16777216:=by
 unfold pw
 have:=pwb_lt h (k / 4) (min (k - 4 * (k / 4)) 4)
 have h2 : 256 ^ min (k - 4 * (k / 4)) 4 ≤ 256 ^ 3:=Nat.pow_le_pow_right (by omega) (by omega)
 have h3 : (256 : Nat) ^ 3 = 16777216:=by decide
 omega
theorem pw_all {blk : Nat → Nat} {j : Nat} (hj : j < 16) : pw blk 64 j = word blk (4 * j):=by
 unfold pw
 rw [show min (64 - 4 * j) 4 = 4 by omega]
 show (((0 * 256 + blk (4 * j + 0)) * 256 + blk (4 * j + 1)) * 256 + blk (4 * j + 2)) * 256 + blk (4 * j + 3) = _
 unfold word
 rw [Nat.add_zero]
 omega
theorem pw_none {blk : Nat → Nat} {j : Nat} (hj : 16 ≤ j) : pw blk 64 j = 0:=by
 unfold pw
 rw [show min (64 - 4 * j) 4 = 0 by omega]; rfl
theorem or_byte {x y : Nat} (hx : x < 16777216) (hy : y < 256) : bits .or .u32 ((x : Int) * 256) (y : Int) = ((x * 256 + y : Nat) : Int):=by
 have h:=or32 (x * 256) y (by omega) (by omega)
 rw [show x * 256 = 2 ^ 8 * x by omega,← Nat.two_pow_add_eq_or_of_lt (show y < 2 ^ 8 by omega)] at h
 rw [show x * 256 = 2 ^ 8 * x by omega,← h]
 rw [Int.natCast_mul,Int.mul_comm]; rfl
theorem words_calls (g : Nat) (s : St) (blk : Nat → Nat) (len : Nat) (hblk : ∀ j,blk j < 256) (w : World) (hH : HRow w g s blk len) :
  Calls Tryz.prog 193 #[.pointer (some ⟨g,0,none⟩)] w fun e w' => e = .returned (.agg (arrOf 64 fun t => .int .u32 (wt (fun t => word blk (4 * t)) t : Nat))) ∧ Below w.heap.size w w':=by
 go_enter Tryz.func193,Tryz.ntmps193
 go_upto_region 2 with (fail)
 rw [zeros64]
 have hN0 : ((w.alloc (.cells (arrOf 64 (fun _ => .int .u32 0)) 224)).alloc (.cells (arrOf 64 (fun _ => .int .u32 0)) 224)).rowIs w.heap.size 224 64 (fun _ => .int .u32 0):=(zby w 64 224 (fun _ => .int .u32 0) rfl).alloc _
 have hR : ((w.alloc (.cells (arrOf 64 (fun _ => .int .u32 0)) 224)).alloc (.cells (arrOf 64 (fun _ => .int .u32 0)) 224)).rowIs (w.heap.size + 1) 224 64 (fun _ => .int .u32 0):=zby _ 64 224 (fun _ => .int .u32 0) (by simp)
 have hb : Below w.heap.size w ((w.alloc (.cells (arrOf 64 (fun _ => .int .u32 0)) 224)).alloc (.cells (arrOf 64 (fun _ => .int .u32 0)) 224)):=((Below.refl _ _).alloc (by simp) _).alloc (by simp) _
 have hH1:=(hH.alloc (.cells (arrOf 64 (fun _ => .int .u32 0)) 224)).alloc (.cells (arrOf 64 (fun _ => .int .u32 0)) 224)
 generalize ((w.alloc (.cells (arrOf 64 (fun _ => .int .u32 0)) 224)).alloc (.cells (arrOf 64 (fun _ => .int .u32 0)) 224)) = w1 at *
 have HB:=veil hH1.block
 obtain ⟨B,hB⟩ : ∃ B,B = ((List.range 64).map fun j => Value.int .u8 (blk j : Nat)).toArray:=⟨_,rfl⟩
 have HBB:=veil hB
 clear hB
 go_wp2_with ((with_reducible refine zaa 10 ?_); refine wpList_load_mid rfl 199 _ rfl g 8 rfl ((List.range 64).map fun j => Value.int .u8 (blk j : Nat)) _ HB.out Tryz.underlying199 rfl info8 ?_; rw [← HBB.out])
 go_loopw [11] (fun c wr => ∃ k : Nat,k ≤ 64 ∧ c = .int .i64 k ∧ wr.rowIs (w.heap.size + 1) 224 64 (fun j => .int .u32 (pw blk k j : Nat)) ∧ wr.rowIs w.heap.size 224 64 (fun _ => .int .u32 0) ∧ Below w.heap.size w wr)
  (fun c _ => 64 - (intOf c).toNat)
 case atStart => exact ⟨0,by omega,rfl,hR.congr fun j _ => by rw [pw_zero]; rfl,hN0,hb⟩
 case round =>
  obtain ⟨k,hk,rfl,hR,hN0,hb⟩:=hrel
  by_cases hlt : k < 64
  ·
   have hBk : B[k]? = some (.int .u8 (blk k : Nat)):=by rw [HBB.out]; simp [hlt]
   have hst:=fun j => pw_step (blk:=blk) (k:=k) j
   have hx:=pw_lt hblk k
   have hy:=hblk k
   obtain ⟨q,hq⟩ : ∃ q,q = k / 4:=⟨_,rfl⟩
   rw [← hq] at hst hx
   have hq16 : q < 16:=by omega
   have hqi : (k : Int) / 4 = (q : Int):=by omega
   obtain ⟨x,hxx⟩ : ∃ x,x = pw blk k q:=⟨_,rfl⟩
   obtain ⟨y,hyy⟩ : ∃ y,y = blk k:=⟨_,rfl⟩
   have c1:=hR.cell (show q < 64 by omega)
   have f1:=hR.frozen q
   rw [← hxx] at hx c1
   rw [← hyy] at hy hBk
   have ko:=or_byte hx hy
   have HS:=veil hst
   have HX:=veil hxx
   have HY:=veil hyy
   have HQ:=veil hq
   have kx:=fun W => zdm (P:=Tryz.prog) (t:=199) (cs:=B) (v:=.int .u8 (y : Int)) Tryz.underlying199 (by kernel_rfl) (fun W => run_part_plain (P:=Tryz.prog) W (e:=5) (by kernel_rfl) (xs:=B) (off:=k) hBk) hlt .i64 W
   clear hst hxx hyy hq hBk
   go_wp2
   go_roundw
   case rel =>
    refine ⟨k + 1,by omega,by go_num,(hR.set q _).congr fun j hj => ?_,zaq hN0 (by omega) _,zag hb (by omega) _⟩
    by_cases h : j = q
    ·
     subst h
     rw [if_pos rfl,HS.out,if_pos rfl,← HX.out,← HY.out]
     rfl
    ·
     rw [if_neg h,HS.out,if_neg h]
   case measure => simp [intOf]; omega
  ·
   have e64 : k = 64:=by omega
   have hR:=e64 ▸ hR
   have HK:=veil e64
   have hkf : decide ((k : Int) < 64) = false:=by simp; omega
   clear e64 hlt hk
   have hm : ∀ t,t < 16 → word blk (4 * t) < 2 ^ 32:=fun t _ => by
    unfold word
    have h0:=hblk (4 * t); have h1:=hblk (4 * t + 1); have h2:=hblk (4 * t + 2); have h3:=hblk (4 * t + 3)
    omega
   have hR : wr.rowIs (w.heap.size + 1) 224 64 (fun j => .int .u32 ((if j < 16 then wt (fun t => word blk (4 * t)) j else 0 : Nat) : Int)):=hR.congr fun j _ => by
    by_cases h : j < 16
    ·
     rw [if_pos h,wt_lo _ h,pw_all h]
    ·
     rw [if_neg h,pw_none (by omega)]
   have hW:=fun t => wt_lt (m:=fun t => word blk (4 * t)) hm t
   obtain ⟨m,hm0⟩ : ∃ m,m = fun t => word blk (4 * t):=⟨_,rfl⟩
   rw [← hm0] at hR hW
   have HM0:=veil hm0
   clear hm0
   have HM:=veil hm
   have HW:=veil hW
   have HBL:=veil hblk
   clear hm hW hblk
   go_wp2
   go_loopw [6] (fun c wr => ∃ t : Nat,16 ≤ t ∧ t ≤ 64 ∧ c = .int .i64 t ∧ wr.rowIs (w.heap.size + 1) 224 64 (fun j => .int .u32 ((if j < t then wt m j else 0 : Nat) : Int)) ∧ wr.rowIs w.heap.size 224 64 (fun _ => .int .u32 0) ∧ Below w.heap.size w wr)
    (fun c _ => 64 - (intOf c).toNat)
   case atStart => exact ⟨16,by omega,by omega,rfl,hR,hN0,hb⟩
   case round =>
    obtain ⟨t,ht16,ht,rfl,hR,hN0,hb⟩:=hrel
    by_cases hlt : t < 64
    ·
     obtain ⟨t16,e16⟩ : ∃ t16,t = t16 + 16:=⟨t - 16,by omega⟩
     have cell : ∀ d,0 < d → d ≤ 16 → wr.cell? ⟨w.heap.size + 1,t - d,none⟩ = some (.int .u32 (wt m (t - d) : Nat)):=fun d h0 h1 => by
      rw [hR.cell (show t - d < 64 by omega),if_pos (by omega)]
     have c2:=cell 2 (by omega) (by omega)
     have c7:=cell 7 (by omega) (by omega)
     have c15:=cell 15 (by omega) (by omega)
     have c16:=cell 16 (by omega) (by omega)
     have cT : wr.cell? ⟨w.heap.size + 1,t,none⟩ = some (.int .u32 0):=by
      rw [hR.cell hlt,if_neg (by omega)]; rfl
     have fT:=hR.frozen t
     have hwt:=wt_hi m (show ¬ t < 16 by omega)
     have l2:=HW.out (t - 2)
     have l7:=HW.out (t - 7)
     have l15:=HW.out (t - 15)
     have l16:=HW.out (t - 16)
     obtain ⟨x2,hx2⟩ : ∃ x,x = wt m (t - 2):=⟨_,rfl⟩
     obtain ⟨x7,hx7⟩ : ∃ x,x = wt m (t - 7):=⟨_,rfl⟩
     obtain ⟨x15,hx15⟩ : ∃ x,x = wt m (t - 15):=⟨_,rfl⟩
     obtain ⟨x16,hx16⟩ : ∃ x,x = wt m (t - 16):=⟨_,rfl⟩
     rw [← hx2] at c2 hwt l2
     rw [← hx7] at c7 hwt l7
     rw [← hx15] at c15 hwt l15
     rw [← hx16] at c16 hwt l16
     have i2 : (t : Int) - 2 = ((t - 2 : Nat) : Int):=by omega
     have i7 : (t : Int) - 7 = ((t - 7 : Nat) : Int):=by omega
     have i15 : (t : Int) - 15 = ((t - 15 : Nat) : Int):=by omega
     have i16 : (t : Int) - 16 = ((t - 16 : Nat) : Int):=by omega
     have b2 : t - 2 < 64:=by omega
     have b7 : t - 7 < 64:=by omega
     have b15 : t - 15 < 64:=by omega
     have b16 : t - 16 < 64:=by omega
     generalize t - 2 = t2 at *
     generalize t - 7 = t7 at *
     generalize t - 15 = t15 at *
     generalize t - 16 = t16' at *
     have a1 : ∀ x y : Nat,((x : Int) + (y : Int)) % 4294967296 = ((ad x y : Nat) : Int):=fun x y => by unfold ad; rw [Int.natCast_emod,Int.natCast_add]; rfl
     have a2 : ∀ x y : Nat,IntKind.u32.wrap ((x : Int) + (y : Int)) = ((ad x y : Nat) : Int):=fun x y => by rw [wrap32]; exact a1 x y
     have w2 : IntKind.i64.wrap (t2 : Int) = (t2 : Int):=IntWalk.i64_in _ (by omega)
     have w7 : IntKind.i64.wrap (t7 : Int) = (t7 : Int):=IntWalk.i64_in _ (by omega)
     have w15 : IntKind.i64.wrap (t15 : Int) = (t15 : Int):=IntWalk.i64_in _ (by omega)
     have w16 : IntKind.i64.wrap (t16' : Int) = (t16' : Int):=IntWalk.i64_in _ (by omega)
     have j2 : (t2 : Int) < 64:=by omega
     have j7 : (t7 : Int) < 64:=by omega
     have j15 : (t15 : Int) < 64:=by omega
     have j16 : (t16' : Int) < 64:=by omega
     have jT : (t : Int) < 64:=by omega
     have K1:=veil (fun W => smallOne_calls x2 l2 W)
     have K2:=veil (fun W => smallZero_calls x15 l15 W)
     have HT:=veil hwt
     have HH:=veil (And.intro hx2 (And.intro hx7 (And.intro hx15 hx16)))
     have E16:=veil e16
     clear cell hwt hx2 hx7 hx15 hx16 e16 l2 l15 l7 l16
     go_wp2
     go_still_tail 23,(by kernel_rfl)
     still_call (by first | ((with_reducible refine (K1.out _).mono ?_); rintro e w' ⟨rfl,rfl⟩; exact ⟨rfl,rfl⟩))
     repeat still_step
     still_call (by first | ((with_reducible refine (K2.out _).mono ?_); rintro e w' ⟨rfl,rfl⟩; exact ⟨rfl,rfl⟩))
     repeat still_step
     refine wpStill_nil ?_
     have hR2:=hR.drew
     have hN2:=hN0.drew
     have hb2:=hb.drew
     have cT2 : wr.drew.cell? ⟨w.heap.size + 1,t,none⟩ = some (.int .u32 0):=cT
     have fT2 : wr.drew.frozen? ⟨w.heap.size + 1,t,none⟩ = false:=fT
     change wpList _ _ _ _ _ wr.drew
     generalize wr.drew = w2 at *
     clear c2 c7 c15 c16 cT fT hR hN0 hb
     go_wp2
     go_roundw
     case rel =>
      refine ⟨t + 1,by omega,by omega,by go_num,(hR2.set t _).congr fun j hj => ?_,zaq hN2 (by omega) _,zag hb2 (by omega) _⟩
      by_cases h : j = t
      ·
       subst h
       rw [if_pos rfl,if_pos (by omega),HT.out]
      ·
       rw [if_neg h]
       by_cases h2 : j < t
       ·
        rw [if_pos h2,if_pos (by omega)]
       ·
        rw [if_neg h2,if_neg (by omega)]
     case measure => simp [intOf]; omega
    ·
     have e64 : t = 64:=by omega
     have hR:=e64 ▸ hR
     have hR : wr.rowIs (w.heap.size + 1) 224 64 (fun j => .int .u32 (wt m j : Nat)):=hR.congr fun j hj => by rw [if_pos hj]
     have htf : decide ((t : Int) < 64) = false:=by simp; omega
     clear HM HB HBB e64 hlt ht ht16
     have hA:=veil (blkOf hR)
     have hN:=veil (blkOf hN0)
     obtain ⟨A,hA2⟩ : ∃ A,A = arrOf 64 (fun j => .int .u32 (wt m j : Nat)):=⟨_,rfl⟩
     rw [← hA2] at hA
     have HE:=veil hA2
     have hs : A.size = 64:=by rw [hA2,zau]
     have h1 : A.all (·.oneCell') = true:=by rw [hA2]; exact zdj fun _ _ => rfl
     have h2 : (Tryz.prog.info? 224).map (·.size) = some A.size:=by rw [hs]; exact info32
     have HZ:=veil (And.intro hs (And.intro h1 h2))
     clear hs h1 h2 hA2
     go_wp2_with (first
      | ((with_reducible refine zaa 54 ?_); refine wpList_load_row rfl 224 _ rfl (w.heap.size + 1) rfl 224 A (0,0) _ hA.out Tryz.underlying224 rfl HZ.out.2.2 ?_)
      | ((with_reducible refine zac ?_); refine wpList_store_row rfl 224 _ _ rfl w.heap.size A rfl rfl 224 _ hN.out HZ.out.2.2 (by rw [HZ.out.1,zau]) HZ.out.2.1 ?_))
     exact bodyPost_ret (results_cell_row rfl _ _ w.heap.size 224 A (0,0) _ rfl (setRow_heap wr w.heap.size _ A 224 (0,0) hN.out) Tryz.underlying224 rfl HZ.out.2.2) rfl ⟨by rw [HE.out,HM0.out],zdd hb (Nat.le_refl _) _⟩
end Go.Proofs.YtbfkecfcolcclaaGreatDoor
