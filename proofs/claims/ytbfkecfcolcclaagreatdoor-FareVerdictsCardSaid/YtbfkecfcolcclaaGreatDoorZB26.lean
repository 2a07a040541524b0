/-
  Of Re NS1 NS2.
-/
import Derived.Deep.RegionHeld3
import Derived.Deep.Matrix
import Derived.Laws.CopyOwn
import Derived.Deep.CutBlock
import Derived.Test.YtbfkecfcolcclaaGreatDoorZB8
import Derived.Test.YtbfkecfcolcclaaGreatDoorZB10
set_option maxRecDepth 1000000
set_option maxHeartbeats 20000000
namespace Go.Proofs.YtbfkecfcolcclaaGreatDoor
open Go.RowKit
open Go.Value renaming int → vI
open Go.IntKind renaming u64 → vU
open Go.Act renaming put → aP
open List renaming setIfInBounds_toArray → lA, set_cons_zero → lZ, set_cons_succ → lS
def prevS (l : List Rv) (i : Nat) : Int:=if i = 0 then 0 else rvS l (i - 1)
theorem prevS_ge {l : List Rv} {i : Nat} (h : ∀ j,j < i → okR l j) : 0 ≤ prevS l i:=by
 unfold prevS
 by_cases h0 : i = 0
 ·
  rw [if_pos h0]; omega
 ·
  rw [if_neg h0]
  have:=(h (i - 1) (by omega)).1
  omega
theorem okR11_of {l : List Rv} {i : Nat} (h : ∀ j,j < i → okR l j) (h1 : prevS l i < rvS l i) (h2 : rvS l i ≤ 2147483647) (h3 : 0 ≤ rvF l i) (h4 : rvF l i ≤ 1073741824) : okR l i:=by
 have:=prevS_ge h
 refine ⟨by omega,h2,h3,h4,fun h0 => ?_⟩
 unfold prevS at h1
 rwa [if_neg (by omega)] at h1
theorem okR_prev {l : List Rv} {i : Nat} (h : okR l i) : prevS l i < rvS l i:=by
 unfold prevS
 by_cases h0 : i = 0
 ·
  rw [if_pos h0]; have:=h.1; omega
 ·
  rw [if_neg h0]; exact h.2.2.2.2 (by omega)
theorem zgu (v : Value) (l : List Rv) (w : World) (hF : Rs w v l) (hL : l.length ≤ 1000000000) :
  Calls Tryz.prog 27 #[v] w fun e w' => e = .returned (.bool (mayRs l)) ∧ Ext w w':=by
 obtain ⟨AL,c,rfl,hc,hx⟩:=hF
 obtain ⟨R,hR⟩ : ∃ R,R = mayRs l:=⟨_,rfl⟩
 rw [← hR]
 obtain ⟨n,hn⟩ : ∃ n,n = l.length:=⟨_,rfl⟩
 rw [← hn] at hx hc ⊢
 have HR:=veil (And.intro hR (And.intro hn hL))
 have HX:=veil hx
 have hnL : n ≤ 1000000000:=by omega
 clear hR hx hn hL
 go_enter Tryz.func27,Tryz.ntmps27
 by_cases hbig : 200 < n
 ·
  have hd0 : decide (200 < (n : Int)) = true:=by simp; omega
  have e : R = false:=by
   rw [HR.out.1]
   unfold mayRs
   exact decide_eq_false fun h => by have:=h.1; rw [← HR.out.2.1] at this; omega
  subst e
  clear hbig
  go_wp2
  go_ret
  exact ⟨rfl,Ext.refl _⟩
 ·
  have hd0 : decide (200 < (n : Int)) = false:=by simp; omega
  have HB:=veil hbig
  clear hbig
  go_wp2
  go_loopw [3,11] (fun u v wr => ∃ i : Nat,i ≤ n ∧ v = .int .i64 (i : Int) ∧ u = .int .i64 (prevS l i) ∧ (∀ j,j < i → okR l j) ∧ Ext w wr)
   (fun _ v _ => n - (intOf v).toNat)
  case atStart => exact ⟨0,by omega,rfl,rfl,fun j hj => by omega,Ext.refl _⟩
  case round =>
   obtain ⟨i,hi,rfl,rfl,hall,hE⟩:=hrel
   by_cases hlt : i < n
   ·
    have hd1 : decide ((i : Int) < (n : Int)) = true:=by simp; omega
    have hii : (i : Int) < (n : Int):=by omega
    obtain ⟨b,o,hAL,hb,hcl⟩:=HX.out.resolve_left (by omega)
    have hil : i < l.length:=by have:=HR.out.2.1; omega
    have HRG:=veil (zan hE hb (hcl i _ (rv_get hil)))
    have hfalse : ∀ h : ¬ okR l i,R = false:=fun h => HR.out.1.trans (mayRs_false hil h)
    have hnext : prevS l (i + 1) = rvS l i:=rfl
    have hs : (l.getD i (0,0)).1 = rvS l i:=rfl
    have hf : (l.getD i (0,0)).2 = rvF l i:=rfl
    have HK:=veil (And.intro hall (And.intro hfalse (And.intro hE hnext)))
    generalize l.getD i (0,0) = k at *
    clear hall hfalse hE hnext hil hb hcl
    subst hAL
    go_upto_region 7 with (first
     | ((with_reducible refine zaa 14 ?_); refine wpList_load_mid rfl 65 _ rfl b _ rfl (rvC k) _ HRG.out Tryz.underlying65 rfl (iRv k) ?_)
     | ((with_reducible refine zaa 5 ?_); refine zcq _ _ rfl rfl rfl rfl rfl rfl hzRv (fun _ => rfl) (fun _ => rfl) (iRvA k) (rvA_size k) (rvA_one k) ?_; intro gk W hg hW hEW))
    have c0:=rv_s (rv_blk hW)
    have c1:=rv_f (rv_blk hW)
    simp only [Nat.zero_add] at c1
    rw [hs] at c0
    rw [hf] at c1
    have HE:=veil (HK.out.2.2.1.trans hEW)
    obtain ⟨p,hp⟩ : ∃ p,p = prevS l i:=⟨_,rfl⟩
    rw [← hp]
    obtain ⟨ks,hks⟩ : ∃ z,z = rvS l i:=⟨_,rfl⟩
    obtain ⟨kf,hkf⟩ : ∃ z,z = rvF l i:=⟨_,rfl⟩
    rw [← hks] at c0
    rw [← hkf] at c1
    have HV:=veil (And.intro hks (And.intro hkf hp))
    clear hW hEW hs hf hks hkf hp HRG
    by_cases g0 : ks ≤ p
    ·
     have hd2 : decide (ks ≤ p) = true:=decide_eq_true g0
     have e : R = false:=HK.out.2.1 fun h => by have h1:=okR_prev h; rw [← HV.out.1,← HV.out.2.2] at h1; omega
     subst e
     clear g0
     go_wp2
     go_ret
     exact ⟨rfl,HE.out⟩
    ·
     have hd2 : decide (ks ≤ p) = false:=decide_eq_false g0
     by_cases g1 : 2147483647 < ks
     ·
      have hd3 : decide (2147483647 < ks) = true:=decide_eq_true g1
      have e : R = false:=HK.out.2.1 fun h => by have h1:=h.2.1; rw [← HV.out.1] at h1; omega
      subst e
      clear g0 g1
      go_wp2
      go_ret
      exact ⟨rfl,HE.out⟩
     ·
      have hd3 : decide (2147483647 < ks) = false:=decide_eq_false g1
      by_cases g2 : kf < 0
      ·
       have hd4 : decide (kf < 0) = true:=decide_eq_true g2
       have e : R = false:=HK.out.2.1 fun h => by have h1:=h.2.2.1; rw [← HV.out.2.1] at h1; omega
       subst e
       clear g0 g1 g2
       go_wp2
       go_ret
       exact ⟨rfl,HE.out⟩
      ·
       have hd4 : decide (kf < 0) = false:=decide_eq_false g2
       by_cases g3 : 1073741824 < kf
       ·
        have hd5 : decide (1073741824 < kf) = true:=decide_eq_true g3
        have e : R = false:=HK.out.2.1 fun h => by have h1:=h.2.2.2.1; rw [← HV.out.2.1] at h1; omega
        subst e
        clear g0 g1 g2 g3
        go_wp2
        go_ret
        exact ⟨rfl,HE.out⟩
       ·
        have hd5 : decide (1073741824 < kf) = false:=decide_eq_false g3
        have HOK:=veil (show okR l i from okR11_of HK.out.1 (by rw [← HV.out.1,← HV.out.2.2]; omega) (by rw [← HV.out.1]; omega) (by rw [← HV.out.2.1]; omega) (by rw [← HV.out.2.1]; omega))
        clear g0 g1 g2 g3
        go_wp2
        go_roundw
        case rel =>
         refine ⟨i + 1,by omega,by go_num,by rw [HK.out.2.2.2,← HV.out.1],fun j hj => ?_,HE.out⟩
         by_cases e : j = i
         ·
          subst e; exact HOK.out
         ·
          exact HK.out.1 j (by omega)
        case measure => simp [intOf]; omega
   ·
    obtain rfl : i = n:=by omega
    have hd1 : decide ((i : Int) < (i : Int)) = false:=by simp
    have e : R = true:=by
     rw [HR.out.1,mayRs_len (by rw [← HR.out.2.1]; exact hall),← HR.out.2.1]
     exact decide_eq_true (by have:=HB.out; omega)
    subst e
    clear hall
    go_wp2
    go_ret
    exact ⟨rfl,hE⟩
/-! ### Is -/
theorem isOne_calls (x : Rv) (s t : Int) (g1 g2 : Nat) (w : World) (h1 : w.cell? ⟨g1,0,none⟩ = some (.int .i64 s)) (h2 : w.cell? ⟨g2,0,none⟩ = some (.int .i64 t)) :
  Calls Tryz.prog 36 #[.agg (rvC x).toArray,.pointer (some ⟨g1,0,none⟩),.pointer (some ⟨g2,0,none⟩)] w fun e w' => e = .returned (.bool (decide (x.1 = s) && decide (x.2 ≤ t))) ∧ Ext w w':=by
 have l1:=World.block_lt_of_cell? _ _ h1
 have l2:=World.block_lt_of_cell? _ _ h2
 obtain ⟨x1,x2⟩:=x
 have hE:=Ext.alloc w (.cells #[.int .i64 x1,.int .i64 x2] 65)
 show Calls Tryz.prog 36 #[.agg #[.int .i64 x1,.int .i64 x2],.pointer (some ⟨g1,0,none⟩),.pointer (some ⟨g2,0,none⟩)] w fun e w' => e = .returned (.bool (decide (x1 = s) && decide (x2 ≤ t))) ∧ Ext w w'
 obtain ⟨R,hR⟩ : ∃ R,R = (decide (x1 = s) && decide (x2 ≤ t)):=⟨_,rfl⟩
 rw [← hR]
 go_enter Tryz.func36,Tryz.ntmps36
 go_upto_region 1 with (fail)
 have d1 : (w.alloc (.cells #[.int .i64 x1,.int .i64 x2] 65)).cell? ⟨g1,0,none⟩ = some (.int .i64 s):=(hE.cell l1).trans h1
 have d2 : (w.alloc (.cells #[.int .i64 x1,.int .i64 x2] 65)).cell? ⟨g2,0,none⟩ = some (.int .i64 t):=(hE.cell l2).trans h2
 have d3 : (w.alloc (.cells #[.int .i64 x1,.int .i64 x2] 65)).cell? ⟨w.heap.size,0,none⟩ = some (.int .i64 x1):=by simp
 have d4 : (w.alloc (.cells #[.int .i64 x1,.int .i64 x2] 65)).cell? ⟨w.heap.size,1,none⟩ = some (.int .i64 x2):=by simp
 generalize w.alloc (.cells #[.int .i64 x1,.int .i64 x2] 65) = w1 at *
 generalize w.heap.size = g at *
 have HE:=veil hE
 clear hE h1 h2 l1 l2
 by_cases e : x1 = s
 ·
  subst e
  have f1 : (x1 == x1) = true:=by simp
  rw [decide_eq_true (rfl : x1 = x1),Bool.true_and] at hR
  subst hR
  go_wp2
  go_ret
  exact ⟨rfl,HE.out⟩
 ·
  have f1 : (x1 == s) = false:=by simp [e]
  rw [decide_eq_false e,Bool.false_and] at hR
  subst hR
  clear e
  go_wp2
  go_ret
  exact ⟨rfl,HE.out⟩
def tells (s t : Int) (r : Rv) : Bool:=decide (r.1 = s) && decide (r.2 ≤ t)
theorem indexR_calls (v : Value) (l : List Rv) (s t : Int) (g1 g2 : Nat) (w : World) (hF : Rs w v l) (hL : l.length ≤ 1000000000) (h1 : w.cell? ⟨g1,0,none⟩ = some (.int .i64 s)) (h2 : w.cell? ⟨g2,0,none⟩ = some (.int .i64 t)) :
  Calls Tryz.prog 68 #[v,.func (.func 36) #[] #[.pointer (some ⟨g1,0,none⟩),.pointer (some ⟨g2,0,none⟩)]] w fun e w' => ∃ z : Int,e = .returned (.int .i64 z) ∧ decide (0 ≤ z) = l.any (tells s t) ∧ Ext w w':=by
 obtain ⟨AL,c,rfl,hc,hx⟩:=hF
 obtain ⟨n,hn⟩ : ∃ n,n = l.length:=⟨_,rfl⟩
 rw [← hn] at hx hc hL ⊢
 obtain ⟨R,hR⟩ : ∃ R,R = l.any (tells s t):=⟨_,rfl⟩
 rw [← hR]
 have HR:=veil (And.intro hR hn)
 have HX:=veil hx
 have l1:=World.block_lt_of_cell? _ _ h1
 have l2:=World.block_lt_of_cell? _ _ h2
 have KO:=veil (fun (x : Rv) W (h : Ext w W) => isOne_calls x s t g1 g2 W ((h.cell l1).trans h1) ((h.cell l2).trans h2))
 clear hR hx hn h1 h2 l1 l2
 go_enter Tryz.func68,Tryz.ntmps68
 go_wp2
 go_loopw [5,8] (fun _ v wr => ∃ i : Nat,i ≤ n ∧ v = .int .i64 (i : Int) ∧ (∀ j,j < i → tells s t (l.getD j (0,0)) = false) ∧ Ext w wr)
  (fun _ v _ => n - (intOf v).toNat)
 case atStart => exact ⟨0,by omega,rfl,fun j hj => by omega,Ext.refl _⟩
 case round =>
  obtain ⟨i,hi,rfl,hall,hE⟩:=hrel
  by_cases hlt : i < n
  ·
   have hd1 : decide ((i : Int) < (n : Int)) = true:=by simp; omega
   have hii : (i : Int) < (n : Int):=by omega
   obtain ⟨b,o,hAL,hb,hcl⟩:=HX.out.resolve_left (by omega)
   have hil : i < l.length:=by have:=HR.out.2; omega
   have HRG:=veil (zan hE hb (hcl i _ (rv_get hil)))
   have hmem : l.getD i (0,0) ∈ l:=List.mem_of_getElem? (rv_get hil)
   obtain ⟨k,hk⟩ : ∃ k,k = l.getD i (0,0):=⟨_,rfl⟩
   rw [← hk] at HRG hmem
   have KK:=veil (show Calls Tryz.prog 36 #[.agg (rvC k).toArray,.pointer (some ⟨g1,0,none⟩),.pointer (some ⟨g2,0,none⟩)] wr (fun e w' => e = .returned (.bool (tells s t k)) ∧ Ext wr w') from KO.out k wr hE)
   cases ho : tells s t k with
   | true =>
    rw [ho] at KK
    have e : R = true:=by
     rw [HR.out.1,List.any_eq_true]
     exact ⟨k,hmem,ho⟩
    subst e
    clear hmem ho hk hil hcl hall
    subst hAL
    go_wp2_with (first
     | ((with_reducible refine zaa 15 ?_); refine wpList_load_mid rfl 65 _ rfl b _ rfl (rvC k) _ HRG.out Tryz.underlying65 rfl (iRv k) ?_)
     | (go_at_call 36; refine KK.out.mono ?_; rintro e w1 ⟨rfl,hE1⟩))
    go_ret
    exact ⟨(i : Int),rfl,by simp,hE.trans hE1⟩
   | false =>
    rw [ho] at KK
    have hnext : ∀ j,j < i + 1 → tells s t (l.getD j (0,0)) = false:=fun j hj => by
     by_cases e : j = i
     ·
      subst e
      rw [← hk]
      exact ho
     ·
      exact hall j (by omega)
    have HN:=veil hnext
    clear hmem ho hk hil hcl hall hnext
    subst hAL
    go_wp2_with (first
     | ((with_reducible refine zaa 15 ?_); refine wpList_load_mid rfl 65 _ rfl b _ rfl (rvC k) _ HRG.out Tryz.underlying65 rfl (iRv k) ?_)
     | (go_at_call 36; refine KK.out.mono ?_; rintro e w1 ⟨rfl,hE1⟩))
    go_roundw
    case rel => exact ⟨i + 1,by omega,by go_num,HN.out,hE.trans hE1⟩
    case measure => simp [intOf]; omega
  ·
   obtain rfl : i = n:=by omega
   have hd1 : decide ((i : Int) < (i : Int)) = false:=by simp
   have e : R = false:=by
    rw [HR.out.1,List.any_eq_false]
    intro k hk
    obtain ⟨j,hj,rfl⟩:=List.mem_iff_getElem.1 hk
    have:=hall j (by have:=HR.out.2; omega)
    rw [List.getD_eq_getElem?_getD,List.getElem?_eq_getElem hj] at this
    simpa using this
   subst e
   clear hall
   go_wp2
   go_ret
   exact ⟨-1,rfl,by decide,hE⟩
theorem containsR_calls (v : Value) (l : List Rv) (s t : Int) (g1 g2 : Nat) (w : World) (hF : Rs w v l) (hL : l.length ≤ 1000000000) (h1 : w.cell? ⟨g1,0,none⟩ = some (.int .i64 s)) (h2 : w.cell? ⟨g2,0,none⟩ = some (.int .i64 t)) :
  Calls Tryz.prog 35 #[v,.func (.func 36) #[] #[.pointer (some ⟨g1,0,none⟩),.pointer (some ⟨g2,0,none⟩)]] w fun e w' => e = .returned (.bool (l.any (tells s t))) ∧ Ext w w':=by
 have KI:=veil (indexR_calls v l s t g1 g2 w hF hL h1 h2)
 obtain ⟨R,hR⟩ : ∃ R,R = l.any (tells s t):=⟨_,rfl⟩
 rw [← hR] at KI ⊢
 clear hF hL hR h1 h2
 go_enter Tryz.func35,Tryz.ntmps35
 go_wp2_with (go_at_call 68; refine KI.out.mono ?_; rintro e w1 ⟨z,rfl,hz,hE1⟩)
 go_ret
 exact ⟨by first | rfl | rw [hz],hE1⟩
theorem is11_calls (v : Value) (l : List Rv) (s t : Int) (w : World) (hF : Rs w v l) (hL : l.length ≤ 1000000000) :
  Calls Tryz.prog 18 #[v,.int .i64 s,.int .i64 t] w fun e w' => e = .returned (.bool (mayRs l && isR l s t)) ∧ Ext w w':=by
 have KM:=veil (fun W (hW : Rs W v l) => zgu v l W hW hL)
 obtain ⟨R,hR⟩ : ∃ R,R = (mayRs l && isR l s t):=⟨_,rfl⟩
 rw [← hR]
 have HF:=veil hF
 have hHL:=veil hL
 clear hF hL
 go_enter Tryz.func18,Tryz.ntmps18
 go_upto_region 1 with (fail)
 have d1 : ((w.alloc (.cells #[.int .i64 s] 3)).alloc (.cells #[.int .i64 t] 3)).cell? ⟨w.heap.size,0,none⟩ = some (.int .i64 s):=by simp
 have d2 : ((w.alloc (.cells #[.int .i64 s] 3)).alloc (.cells #[.int .i64 t] 3)).cell? ⟨w.heap.size + 1,0,none⟩ = some (.int .i64 t):=by simp
 have hE : Ext w ((w.alloc (.cells #[.int .i64 s] 3)).alloc (.cells #[.int .i64 t] 3)):=(Ext.alloc _ _).trans (Ext.alloc _ _)
 generalize (w.alloc (.cells #[.int .i64 s] 3)).alloc (.cells #[.int .i64 t] 3) = w1 at *
 generalize hg2 : w.heap.size + 1 = g2 at *
 generalize w.heap.size = g1 at *
 have HE:=veil (And.intro hE (And.intro d1 d2))
 clear hE d1 d2 hg2
 have KM1:=veil (KM.out w1 (HF.out.ext HE.out.1))
 clear KM
 cases hm : mayRs l with
 | false =>
  rw [hm] at KM1 hR
  replace hR : R = false:=hR
  subst hR
  clear hm
  go_wp2_with (go_at_call 27; refine KM1.out.mono ?_; rintro e w2 ⟨rfl,hE2⟩)
  go_ret
  exact ⟨rfl,HE.out.1.trans hE2⟩
 | true =>
  rw [hm] at KM1
  have KC:=veil (fun W (h : Ext w1 W) => containsR_calls v l s t g1 g2 W ((HF.out.ext HE.out.1).ext h) hHL.out ((h.cell (World.block_lt_of_cell? _ _ HE.out.2.1)).trans HE.out.2.1) ((h.cell (World.block_lt_of_cell? _ _ HE.out.2.2)).trans HE.out.2.2))
  have e : l.any (tells s t) = R:=by rw [hR,hm,Bool.true_and]; exact any_isR hm s t
  rw [e] at KC
  clear hm hR e
  go_wp2_with (first
   | (go_at_call 27; refine KM1.out.mono ?_; rintro e w2 ⟨rfl,hE2⟩)
   | (go_at_call 35; refine (KC.out _ hE2).mono ?_; rintro e w3 ⟨rfl,hE3⟩))
  go_ret
  exact ⟨rfl,HE.out.1.trans (hE2.trans hE3)⟩
def sb (s : KV) (j : Nat) : Value:=.int .u8 ((if j < 32 then s.k j else s.v (j - 32) : Nat) : Int)
section
variable {w w' : World} {g : Nat} {s : KV}
end
def pY (v : Nat → Nat) (b : Nat) (Y : Nat → Nat → Nat) (r : Nat) : Nat → Nat:=if r = 0 then v else if r = 1 then cat (fun _ => b) 1 none0 else Y (r - 2)
end Go.Proofs.YtbfkecfcolcclaaGreatDoor
