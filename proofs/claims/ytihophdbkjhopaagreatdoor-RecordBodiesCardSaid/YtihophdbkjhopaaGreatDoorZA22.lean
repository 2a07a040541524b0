/-
  Of SSum.
-/
import Derived.Deep.CutBlock
import Derived.Test.YtihophdbkjhopaaGreatDoorZA21
import Derived.Test.YtihophdbkjhopaaGreatDoorZA20
set_option maxRecDepth 1000000
set_option maxHeartbeats 20000000
namespace Go.Proofs.YtihophdbkjhopaaGreatDoor
open Go.RowKit
open Go.Value renaming int → vI
open Go.IntKind renaming u64 → vU
open Go.Act renaming put → aP
open List renaming setIfInBounds_toArray → lA, set_cons_zero → lZ, set_cons_succ → lS
theorem rsum_calls (A : Option Addr) (n c : Nat) (y : Nat → Nat) (hy : ∀ j,y j < 256) (hn : n ≤ 1048576) (w : World) (hS : Src w A n y w.heap.size) :
  Calls Tryz.prog 36 #[.slice A n c] w fun e w' => e = .returned (.agg (dgst y n)) ∧ Below w.heap.size w w':=by
 obtain ⟨i8,hi8,hz0,hz1,hz2⟩:=info_parts infoB3
 have HY:=veil hy
 clear hy
 go_enter Tryz.func36,Tryz.ntmps36
 go_upto_region 1 with (fail)
 rw [zeros32]
 have hR : (w.alloc (.cells (arrOf 32 (fun _ => .int .u8 0)) 23)).rowIs w.heap.size 23 32 (fun _ => .int .u8 0):=zav w 32 23 _ rfl
 have hB : Below w.heap.size w (w.alloc (.cells (arrOf 32 (fun _ => .int .u8 0)) 23)):=(Below.refl _ _).alloc (Nat.le_refl _) _
 have hS1:=(hS.at (Nat.le_refl _)).below hB
 have hz : (w.alloc (.cells (arrOf 32 (fun _ => .int .u8 0)) 23)).heap.size = w.heap.size + 1:=by simp
 generalize w.alloc (.cells (arrOf 32 (fun _ => .int .u8 0)) 23) = w1 at *
 generalize hgr : w.heap.size = gR at *
 have HGR:=veil hgr
 clear hgr hS
 have hO : Own (w1.alloc (.cells #[] 5)) (gR + 1) 5 (.slice (some ⟨w1.heap.size,0,none⟩) 0 0) 0 (fun _ => .int .u8 0):=Own.made w1 (cs:=#[]) (by omega) (by decide) (fun i hi => by simp at hi)
 rw [hz] at hO
 have hS2:=hS1.below ((Below.refl w1.heap.size w1).alloc (Nat.le_refl _) (.cells #[] 5))
 have HA:=veil (And.intro hO (src_from hS2))
 have HI:=veil (And.intro hi8 (And.intro hz0 (And.intro hz1 hz2)))
 clear hO hS2 hi8 hz0 hz1 hz2
 go_upto_region 2 with ((with_reducible refine zac 28 ?_); refine zae _ rfl _ _ 24 rfl (gR + 1) 5 i8 (.int .u8 0) 1 Tryz.underlying24 HI.out.1 HI.out.2.1 HI.out.2.2.1 HI.out.2.2.2 rfl (.slice (some ⟨gR + 1,0,none⟩) 0 0) 0 _ rfl HA.out.1 A n c rfl _ HA.out.2 (fun _ => rfl) (by unfold maxLen; omega) (by omega) (by simp [hz]) ?_; intro v3 w2 hO2 hg2 hat2)
 rw [Nat.zero_add] at hO2
 replace hO2 : Own w2 (gR + 1) 5 v3 n (txv y n):=hO2.congr fun j hj => by rw [if_neg (by omega),Nat.sub_zero,txv_lo hj]
 have hb1 : Below gR w1 (w1.alloc (.cells #[] 5)):=(Below.refl _ _).alloc (by omega) _
 have hr1:=hR.alloc (.cells #[] 5)
 replace hR:=zir hr1 hg2 (by simp [Value.ownBlock])
 replace hB:=hB.trans (hb1.grown hg2 (by simp; omega) (fun k e => by simp [Value.ownBlock] at e; omega))
 have hz2 : gR < w2.heap.size:=hR.lt
 clear hg2 hat2 hb1 hr1 hz HA hS1
 have HA:=veil (And.intro (hO2.alloc (.cells #[.int .u8 128] 5)) (zcy w2 (.int .u8 128) 5))
 go_upto_region 3 with ((with_reducible refine zac 31 ?_); refine zae _ rfl _ _ 24 rfl (gR + 1) 5 i8 (.int .u8 0) 1 Tryz.underlying24 HI.out.1 HI.out.2.1 HI.out.2.2.1 HI.out.2.2.2 rfl v3 n _ rfl HA.out.1 (some ⟨w2.heap.size,0,none⟩) 1 1 rfl _ HA.out.2 (fun _ => rfl) (by unfold maxLen; omega) (by omega) (by simp; omega) ?_; intro v4 w3 hO3 hg3 hat3)
 obtain ⟨hR,hB,hz3⟩:=keep_step hR hB hg3 (fun k e => (hO2.lt e).1)
 replace hO3 : Own w3 (gR + 1) 5 v4 (n + 1) (txv y n):=hO3.congr fun j hj => by
  by_cases h : j < n
  ·
   rw [if_pos h]
  ·
   rw [if_neg h,show j = n by omega,txv_at]
 obtain ⟨N,hN⟩ : ∃ N,N = 64 * nBlocks n:=⟨_,rfl⟩
 have hN1 : n + 9 ≤ N ∧ N ≤ n + 72 ∧ N % 64 = 0:=by rw [hN]; unfold nBlocks; omega
 have HN:=veil hN
 obtain ⟨g3,c3,rfl,_,hg3R,_⟩:=hO3.pre (by omega)
 clear hg3 hat3 hO2 HA hz2 hN
 go_loopw [3] (fun v wr => ∃ m g c : Nat,n + 1 ≤ m ∧ m ≤ N - 8 ∧ v = .slice (some ⟨g,0,none⟩) m c ∧ Own wr (gR + 1) 5 (.slice (some ⟨g,0,none⟩) m c) m (txv y n) ∧ wr.rowIs gR 23 32 (fun _ => .int .u8 0) ∧ Below gR w wr)
  (fun v _ => N - lenOf v)
 case atStart => exact ⟨n + 1,g3,c3,by omega,by omega,rfl,hO3,hR,hB⟩
 case round =>
  obtain ⟨m,g,c,hm1,hm2,rfl,hO,hR,hB⟩:=hrel
  by_cases hlt : m < N - 8
  ·
   have h56 : ¬ ((m : Int) % 64 = 56):=by omega
   have HA:=veil (And.intro (hO.alloc (.cells #[.int .u8 0] 5)) (zcy wr (.int .u8 0) 5))
   have hzr:=hR.lt
   go_wp2_with ((with_reducible refine zac 38 ?_); refine zae _ rfl _ _ 24 rfl (gR + 1) 5 i8 (.int .u8 0) 1 Tryz.underlying24 HI.out.1 HI.out.2.1 HI.out.2.2.1 HI.out.2.2.2 rfl (.slice (some ⟨g,0,none⟩) m c) m _ rfl HA.out.1 (some ⟨wr.heap.size,0,none⟩) 1 1 rfl _ HA.out.2 (fun _ => rfl) (by unfold maxLen; omega) (by omega) (by simp; omega) ?_; intro v4 w3 hO3 hg3 hat3)
   obtain ⟨hR,hB,hz3⟩:=keep_step hR hB hg3 (fun k e => (hO.lt e).1)
   replace hO3 : Own w3 (gR + 1) 5 v4 (m + 1) (txv y n):=hO3.congr fun j hj => by
    by_cases h : j < m
    ·
     rw [if_pos h]
    ·
     rw [if_neg h,txv_mid (by omega) (by have:=HN.out; omega)]
   obtain ⟨g4,c4,rfl,_,_,_⟩:=hO3.pre (by omega)
   clear hg3 hat3 hO HA
   go_roundw
   case rel => exact ⟨m + 1,g4,c4,by omega,by omega,rfl,hO3,hR,hB⟩
   case measure => simp [lenOf]; omega
  ·
   have em : m = N - 8:=by omega
   have h56 : (m : Int) % 64 = 56:=by omega
   have HEM:=veil em
   have e8 : 8 * (n : Int) = ((8 * n : Nat) : Int):=by omega
   obtain ⟨X0,hX0⟩ : ∃ X0,X0 = 8 * n:=⟨_,rfl⟩
   rw [← hX0] at e8
   have hX0l : X0 ≤ 8388608:=by omega
   have HX0:=veil hX0
   clear hlt em hX0
   go_upto_region 8 with (fail)
   have hzr:=hR.lt
   have hgr:=(hO.lt (k:=g) rfl)
   clear h56 e8
   go_loopw [4,5,6] (fun v4 v5 v6 wr => ∃ (i X : Nat) (A : Option Addr) (c5 : Nat),i ≤ 8 ∧ X ≤ 8388608 ∧ Hid (X = 8 * n / 256 ^ i) ∧ v6 = .int .i64 (i : Int) ∧ v4 = .int .u64 (X : Int) ∧ v5 = .slice A i c5 ∧ Src wr A i (fun j => 8 * n / 256 ^ (i - 1 - j) % 256) gR ∧
     Own wr (gR + 1) 5 (.slice (some ⟨g,0,none⟩) m c) m (txv y n) ∧ wr.rowIs gR 23 32 (fun _ => .int .u8 0) ∧ Below gR w wr)
    (fun _ _ v6 _ => 8 - (intOf v6).toNat)
   case atStart => exact ⟨0,X0,none,0,by omega,hX0l,by rw [HX0.out,Nat.pow_zero,Nat.div_one]; rfl,rfl,rfl,rfl,.inl rfl,hO,hR,hB⟩
   case round =>
    obtain ⟨i,X,A,c5,hi,hXl,hX,rfl,rfl,rfl,hS,hO,hR,hB⟩:=hrel
    by_cases hlt : i < 8
    ·
     obtain ⟨x,hx⟩ : ∃ x,x = X % 256:=⟨_,rfl⟩
     have hxi : (X : Int) % 256 = (x : Int):=by omega
     have hx256 : x < 256:=by omega
     obtain ⟨X',hX'⟩ : ∃ X',X' = X / 256:=⟨_,rfl⟩
     have hXi : (X : Int) / 256 = (X' : Int):=by omega
     have hXl' : X' ≤ 8388608:=by omega
     have hzr:=hR.lt
     have hgr:=(hO.lt (k:=g) rfl)
     have HXX:=veil (And.intro hx hX')
     have hOn:=own_one wr 5 (.int .u8 (x : Int))
     have hSn:=hS.below ((Below.refl wr.heap.size wr).alloc (Nat.le_refl _) (.cells #[.int .u8 (x : Int)] 5))
     have HA:=veil (And.intro hOn (src_from hSn))
     clear hx hX' hOn hSn hS
     go_wp2_with ((with_reducible refine zac 52 ?_); refine zae _ rfl _ _ 24 rfl wr.heap.size 5 i8 (.int .u8 0) 1 Tryz.underlying24 HI.out.1 HI.out.2.1 HI.out.2.2.1 HI.out.2.2.2 rfl (.slice (some ⟨wr.heap.size,0,none⟩) 1 1) 1 _ rfl HA.out.1 A i c5 rfl _ HA.out.2 (fun _ => rfl) (by unfold maxLen; omega) (by omega) (by simp) ?_; intro v4 w3 hO3 hg3 hat3)
     obtain ⟨hR3,hB3,hz3⟩:=keep_step hR hB hg3 (fun k e => by simp [Value.ownBlock] at e; omega)
     have hOk:=(hO.alloc (.cells #[.int .u8 (x : Int)] 5)).kept hg3 (.inr (by simp [Value.ownBlock]; omega))
     obtain ⟨g4,c4,rfl,_,hg4,hp4⟩:=hO3.pre (by omega)
     clear hg3 hat3 hO HA hR hB
     go_roundw
     case rel =>
      refine ⟨i + 1,X',some ⟨g4,0,none⟩,c4,by omega,hXl',?_,by go_num,rfl,by rw [Nat.add_comm 1 i],?_,hOk,hR3,hB3⟩
      ·
       show X' = _
       rw [HXX.out.2,hX.out,Nat.pow_succ,Nat.div_div_eq_div_mul]
      ·
       refine .inr ⟨g4,0,rfl,hp4.lt,by omega,fun j hj => ?_⟩
       rw [Nat.zero_add,hp4.cell (by omega)]
       dsimp only
       by_cases h : j < 1
       ·
        rw [if_pos h,show i + 1 - 1 - j = i by omega,HXX.out.1,hX.out]
       ·
        rw [if_neg h,show i + 1 - 1 - j = i - 1 - (j - 1) by omega]
     case measure => simp [intOf]; omega
    ·
     have e8 : i = 8:=by omega
     have HE8:=veil e8
     have hif : decide ((i : Int) < 8) = false:=by simp; omega
     have hzr:=hR.lt
     have HA:=veil (And.intro hO (src_from hS))
     have hgr:=hO.lt (k:=g) rfl
     have h64 : m + i = N:=by have:=HEM.out; omega
     clear hS e8 hlt hi
     go_upto_region 13 with ((with_reducible refine zac 57 ?_); refine zae _ rfl _ _ 24 rfl (gR + 1) 5 i8 (.int .u8 0) 1 Tryz.underlying24 HI.out.1 HI.out.2.1 HI.out.2.2.1 HI.out.2.2.2 rfl (.slice (some ⟨g,0,none⟩) m c) m _ rfl HA.out.1 A i c5 rfl _ HA.out.2 (fun _ => rfl) (by unfold maxLen; omega) (by omega) (by omega) ?_; intro v4 w3 hO3 hg3 hat3)
     have hTn : Own w3 (gR + 1) 5 v4 N (txv y n):=by
      rw [← h64]
      refine hO3.congr fun j hj => ?_
      by_cases h : j < m
      ·
       rw [if_pos h]
      ·
       have he:=HEM.out; have hnn:=HN.out; have h8:=HE8.out
       rw [if_neg h,txv_hi (by omega) (by omega),show i - 1 - (j - m) = 64 * nBlocks n - 1 - j by omega]
     obtain ⟨gT,cT,rfl,hcT,hgT,hpT⟩:=hTn.pre (by omega)
     have hR3:=zir hR hg3 (by simp [Value.ownBlock]; omega)
     have hB3:=hB.grown hg3 (by omega) (fun k e => by simp [Value.ownBlock] at e; omega)
     have hgT2:=hpT.lt
     have hz3:=hR3.lt
     clear hO3 hg3 hat3 HA hO hR hB hTn
     have hH : (w3.alloc (.cells #[.int .u32 1779033703,.int .u32 3144134277,.int .u32 1013904242,.int .u32 2773480762,.int .u32 1359893119,.int .u32 2600822924,.int .u32 528734635,.int .u32 1541459225] 120)).rowIs w3.heap.size 120 8 (fun j => .int .u32 ((blocksN (padded y n) 0).at j : Nat)):=zav w3 8 120 (fun j => .int .u32 ((blocksN (padded y n) 0).at j : Nat)) rfl
     have hp4:=hpT.alloc (.cells #[.int .u32 1779033703,.int .u32 3144134277,.int .u32 1013904242,.int .u32 2773480762,.int .u32 1359893119,.int .u32 2600822924,.int .u32 528734635,.int .u32 1541459225] 120)
     have hR4:=hR3.alloc (.cells #[.int .u32 1779033703,.int .u32 3144134277,.int .u32 1013904242,.int .u32 2773480762,.int .u32 1359893119,.int .u32 2600822924,.int .u32 528734635,.int .u32 1541459225] 120)
     have hB4:=hB3.alloc (by omega) (.cells #[.int .u32 1779033703,.int .u32 3144134277,.int .u32 1013904242,.int .u32 2773480762,.int .u32 1359893119,.int .u32 2600822924,.int .u32 528734635,.int .u32 1541459225] 120)
     clear hpT hR3 hB3
     go_wp2_with fail
     generalize w3.alloc (.cells #[.int .u32 1779033703,.int .u32 3144134277,.int .u32 1013904242,.int .u32 2773480762,.int .u32 1359893119,.int .u32 2600822924,.int .u32 528734635,.int .u32 1541459225] 120) = w4 at *
     refine (constants_calls w4).mono ?_
     rintro e w5 ⟨rfl,rfl⟩
     have hF : RF w (w4.alloc (.cells kCells 120)) gR gT w3.heap.size w4.heap.size N (txv y n) (hst (blocksN (padded y n) 0)) :=
      ⟨hp4.alloc _,hH.alloc _,kRow rfl,hR4.alloc _,hB4.alloc (by have:=hR4.lt; omega) _,by omega,hgT2,hH.lt⟩
     generalize w4.alloc (.cells kCells 120) = w5 at *
     generalize w4.heap.size = gK at *
     generalize w3.heap.size = gH at *
     clear hp4 hH hR4 hB4
     go_upto_region 16 with (fail)
     obtain ⟨i32,hi32,hw0,hw1,hw2⟩:=info_parts infoU32
     have HI4:=veil (And.intro hi32 (And.intro hw0 (And.intro hw1 hw2)))
     have hNmax : N ≤ 2097152:=by omega
     clear hi32 hw0 hw1 hw2 HI
     go_loopw [9] (fun v wr => ∃ q a : Nat,Hid (a = 64 * q) ∧ a ≤ N ∧ v = .int .i64 (a : Int) ∧ RF w wr gR gT gH gK N (txv y n) (hst (blocksN (padded y n) q)))
      (fun v _ => N - (intOf v).toNat)
     case atStart => exact ⟨0,0,rfl,by omega,rfl,hF⟩
     case round =>
      obtain ⟨q,a,HQ,haN,rfl,hF⟩:=hrel
      by_cases hlt : a < N
      ·
       have haN2 : a + 64 ≤ N:=by have:=HQ.out; omega
       have hd1 : decide ((a : Int) < (N : Int)) = true:=by simp; omega
       obtain ⟨st,hst0⟩ : ∃ st,st = blocksN (padded y n) q:=⟨_,rfl⟩
       rw [← hst0] at hF
       have HOK:=veil (show st.Ok by rw [hst0]; exact zjv _ _)
       have HST:=veil hst0
       clear hst0
       go_upto_block 6 with (fail)
       refine sched_piece HY.out HQ.out haN2 hNmax hF ?_
       intros
       rename_i gW cW w6 hF6 hW6 hgW6
       have hO6 : Own (w6.alloc (.cells #[] 120)) (gK + 1) 120 (.slice (some ⟨w6.heap.size,0,none⟩) 0 0) 0 (fun _ => .int .u32 0):=Own.made w6 (cs:=#[]) (by have:=hF6.lt; omega) (by decide) (fun i hi => by simp at hi)
       have hF6a:=hF6.alloc (.cells #[] 120)
       have hFr : From (w6.alloc (.cells #[] 120)) (some ⟨gH,0,none⟩) 8 (hst st):=.inr ⟨_,rfl,fun j hj => by rw [Addr.add_mid,Nat.zero_add]; exact hF6a.h.cell hj⟩
       have hW6a:=hW6.alloc (.cells #[] 120)
       have hz6:=hF6.lt
       have hW6l:=hW6.lt
       have HA6:=veil (And.intro hO6 (And.intro hFr (show gK + 1 ≤ (w6.alloc (.cells #[] 120)).heap.size by show gK + 1 ≤ (w6.heap.push _).size; simp; omega)))
       clear hO6 hFr hF6 hW6
       go_upto_block 8 with ((with_reducible refine zac 154 ?_); refine zae _ rfl _ _ 121 rfl (gK + 1) 120 i32 (.int .u32 0) 4 Tryz.underlying121 HI4.out.1 HI4.out.2.1 HI4.out.2.2.1 HI4.out.2.2.2 rfl (.slice (some ⟨w6.heap.size,0,none⟩) 0 0) 0 _ rfl HA6.out.1 (some ⟨gH,0,none⟩) 8 8 rfl (hst st) HA6.out.2.1 (fun _ => rfl) (by decide) (by decide) HA6.out.2.2 ?_; intro v7 w7 hO7 hg7 hat7; obtain ⟨gs,cs,rfl,hcs7,hgs7,hS7⟩:=hO7.pre (by decide))
       have hF7:=hF6a.grown hg7 (fun k e => by simp [Value.ownBlock] at e; omega)
       have hW7 : Pre w7 gW 120 64 (fun j => .int .u32 (wt (mOf y n q) j : Nat)):=hW6a.of_block (hg7.block gW hW6a.lt (by simp [Value.ownBlock]; omega))
       have hS7' : Pre w7 gs 120 8 (hst st):=hS7.congr fun j _ => by rw [if_neg (by omega),Nat.sub_zero]
       clear hO7 hg7 hat7 hS7 HA6 hF6a hW6a
       refine rounds_piece (m:=mOf y n q) HOK.out (mOf_lt HY.out n q) hF7 hW7 hS7' (by omega) (by omega) ?_
       intros
       rename_i gs' cs' w8 hF8 hS8 hs8 hc8
       clear hF7 hW7 hS7'
       go_upto_block 10 with (fail)
       refine add_piece hF8 hS8 hs8 ?_
       intros
       rename_i w9 hF9
       clear hF8 hS8
       go_wp2
       go_roundw
       case rel =>
        refine ⟨q + 1,a + 64,?_,by omega,by go_num,?_⟩
        ·
         have:=HQ.out
         show a + 64 = 64 * (q + 1)
         omega
        ·
         have e : addSt st (roundsN (mOf y n q) st 64) = blocksN (padded y n) (q + 1):=by rw [HST.out]; rfl
         rw [← e]; exact hF9
       case measure => simp [intOf]; omega
      ·
       have ea : a = N:=by omega
       have hd1 : decide ((a : Int) < (N : Int)) = false:=by simp; omega
       have hq : q = nBlocks n:=by have h1:=HQ.out; have h2:=HN.out; omega
       have hF : RF w wr gR gT gH gK N (txv y n) (hst (shaSt y n)):=by
        have e : shaSt y n = blocksN (padded y n) q:=by rw [hq]; rfl
        rw [e]; exact hF
       have HOK:=veil (show (shaSt y n).Ok from zjv _ _)
       obtain ⟨sh,hsh⟩ : ∃ sh,sh = shaSt y n:=⟨_,rfl⟩
       rw [← hsh] at hF HOK
       have HSH:=veil hsh
       have hd2 : decide (a < N) = false:=by simp; omega
       clear ea haN hq hsh
       go_upto_region 44 with (fail)
       rw [zeros32]
       have hO:=zav wr 32 23 (fun _ => .int .u8 0) rfl
       have hF1:=hF.alloc (.cells (arrOf 32 (fun _ => .int .u8 0)) 23)
       have hzz:=hF.lt
       generalize wr.alloc (.cells (arrOf 32 (fun _ => .int .u8 0)) 23) = wA at *
       generalize wr.heap.size = gO at *
       clear hF
       go_upto_block 12 with (fail)
       refine out_piece HOK.out hF1 hO hzz ?_
       intros
       rename_i wB hFB hOB
       have HA:=veil (blkOf hOB)
       have HN2:=veil (blkOf hFB.r)
       have hBB:=hFB.b
       obtain ⟨D,hD⟩ : ∃ D,D = arrOf 32 (fun p => .int .u8 (dByte sh p : Nat)):=⟨_,rfl⟩
       rw [← hD] at HA
       have hs : D.size = 32:=by rw [hD,zan]
       have h1 : D.all (·.oneCell') = true:=by rw [hD]; exact zau fun _ _ => rfl
       have HZ:=veil (And.intro hs (And.intro h1 (show (Tryz.prog.info? 23).map (·.size) = some D.size by rw [hs]; exact infoD)))
       have HD:=veil (show D = dgst y n by rw [hD,HSH.out]; rfl)
       clear hs h1 hD hOB hFB hF1 hO
       go_wp2_with (first
        | ((with_reducible refine zac 332 ?_); refine wpList_load_row rfl 23 _ rfl gO rfl 23 D (0,0) _ HA.out Tryz.underlying23 rfl HZ.out.2.2 ?_)
        | ((with_reducible refine zak ?_); refine wpList_store_row rfl 23 _ _ rfl gR D rfl rfl 23 _ HN2.out HZ.out.2.2 (by rw [HZ.out.1,zan]) HZ.out.2.1 ?_))
       exact bodyPost_ret (results_cell_row rfl _ _ gR 23 D (0,0) _ rfl (setRow_heap wB gR _ D 23 (0,0) HN2.out) Tryz.underlying23 rfl HZ.out.2.2) rfl ⟨by rw [HD.out],by rw [HGR.out]; exact zcc hBB (Nat.le_refl _) _⟩
end Go.Proofs.YtihophdbkjhopaaGreatDoor
