/-
  Of TA K3 K4 C0 Cq Ce Gv K5 K6 K7 K8.
-/
import Derived.Lib.SmallJoins
import Derived.Great.BuildSlice
import Derived.Test.YthlbemnbmbmjhaaGreatDoorZC2
import Derived.Test.YthlbemnbmbmjhaaGreatDoorZC6
import Derived.Test.YthlbemnbmbmjhaaGreatDoorZC4
import Derived.Test.YthlbemnbmbmjhaaGreatDoorZC1
import Derived.Test.YthlbemnbmbmjhaaGreatDoorZC5
set_option maxRecDepth 1000000
set_option maxHeartbeats 20000000
namespace Go.Proofs.YthlbemnbmbmjhaaGreatDoor
open Go.RowKit
open Go.Value renaming int → vI
open Go.IntKind renaming u64 → vU
open Go.Act renaming put → aP
open List renaming setIfInBounds_toArray → lA, set_cons_zero → lZ, set_cons_succ → lS
def PutA (w' : World) (fs : List Fd) (x ev : Value) : Prop :=
 (mayFs fs = false ∧ (∃ A c,x = .slice A 0 c) ∧ ev = .iface 39 (.int .i64 1)) ∨
 (mayFs fs = true ∧ ev = .nilIface ∧ ∃ A c,x = .slice A (encF fs).length c ∧ (encF fs).length ≤ c ∧ Bs w' A (encF fs))
def GetA (w' : World) (bs : List Nat) (x ev : Value) : Prop :=
 (getFs bs = none ∧ (∃ A c,x = .slice A 0 c) ∧ ev = .iface 39 (.int .i64 2)) ∨ (∃ fs,getFs bs = some fs ∧ ev = .nilIface ∧ Fl w' x fs)
def OfA (bs : List Nat) (x ev : Value) : Prop:=(ofB bs < 0 ∧ x = .int .i64 0 ∧ ev = .iface 39 (.int .i64 2)) ∨ (0 ≤ ofB bs ∧ x = .int .i64 (ofB bs) ∧ ev = .nilIface)
def RGetA (w' : World) (bs : List Nat) (x y : Value) : Prop:=(getFs bs = none ∧ x = .slice none 0 0 ∧ y = .bool false) ∨ (∃ fs,getFs bs = some fs ∧ Fl w' x fs ∧ y = .bool true)
theorem rget8_any (A : Option Addr) (m c : Nat) (bs : List Nat) (hm : m = bs.length) (hmc : m ≤ c) (hle : m ≤ 100000000) (w : World) (hS : Bs w A bs) :
  Calls Tryz.prog 33 #[.slice A m c] w fun e w' => ∃ x y,e = .returned (.tuple #[x,y]) ∧ Ext w w' ∧ RGetA w' bs x y :=
 (rget8_calls A m c bs hm hmc hle w hS).mono fun e w' ⟨hE,h⟩ => by
  rcases h with ⟨h,rfl⟩ | ⟨fs,v,h,hF,rfl⟩
  ·
   exact ⟨_,_,rfl,hE,.inl ⟨h,rfl,rfl⟩⟩
  ·
   exact ⟨_,_,rfl,hE,.inr ⟨fs,h,hF,rfl⟩⟩
structure Code8 : Prop where
 may : ∀ (v : Value) (fs : List Fd) (w : World),Fl w v fs → fs.length ≤ 1000000000 → Calls Tryz.prog 51 #[v] w fun e w' => e = .returned (.bool (mayFs fs)) ∧ Ext w w'
 put : ∀ (v : Value) (fs : List Fd) (w : World),Fl w v fs → fs.length ≤ 1000000000 → Calls Tryz.prog 27 #[v] w fun e w' => ∃ x ev,e = .returned (.tuple #[x,ev]) ∧ Ext w w' ∧ PutA w' fs x ev
 get : ∀ (A : Option Addr) (m c : Nat) (bs : List Nat) (w : World),m = bs.length → m ≤ c → m ≤ 100000000 → Bs w A bs → Calls Tryz.prog 31 #[.slice A m c] w fun e w' => ∃ x ev,e = .returned (.tuple #[x,ev]) ∧ Ext w w' ∧ GetA w' bs x ev
 number : ∀ (n : Int) (w : World),-9223372036854775808 ≤ n → n ≤ 9223372036854775807 → Calls Tryz.prog 50 #[.int .i64 n] w fun e w' => ∃ A c,e = .returned (.slice A 8 c) ∧ 8 ≤ c ∧ Bs w' A (numB n) ∧ Ext w w'
 of : ∀ (A : Option Addr) (m c : Nat) (bs : List Nat) (w : World),m = bs.length → m ≤ c → Bs w A bs → Calls Tryz.prog 56 #[.slice A m c] w fun e w' => ∃ x ev,e = .returned (.tuple #[x,ev]) ∧ Ext w w' ∧ OfA bs x ev
theorem is_of_own {w : World} {base n : Nat} {v : Value} {l : List Int} (o : Own w base 3 v n (fun j => .int .i64 (l.getD j 0))) (hn : n = l.length) : Is w v l:=by
 subst hn
 by_cases h : l.length = 0
 ·
  rcases o.2 with ⟨rfl,h0⟩ | ⟨b,cap,cur,rfl,_,_,hnc,_⟩
  ·
   exact ⟨none,0,by rw [h],by omega,.inl h⟩
  ·
   exact ⟨_,cap,rfl,hnc,.inl h⟩
 ·
  obtain ⟨b,cap,rfl,hnc,_,hp⟩:=o.pre (by omega)
  exact ⟨_,cap,rfl,hnc,.inr ⟨b,0,rfl,hp.lt,fun j hj => by rw [Nat.zero_add]; exact hp.cell hj⟩⟩
theorem infoI9 : (Tryz.prog.info? 3).map (fun i => (i.zero,i.size,i.bytes)) = some (some (.int .i64 0),1,8):=by kernel_rfl
def NumA (w' : World) (bs : List Nat) (many : Nat) (x y : Value) : Prop:=(numbersB bs many = none ∧ x = .slice none 0 0 ∧ y = .bool false) ∨ (∃ l,numbersB bs many = some l ∧ Is w' x l ∧ y = .bool true)
theorem numbersB_get {bs : List Nat} {fs : List Fd} (many : Nat) (h : getFs bs = some fs) : numbersB bs many = if numsOk fs many then some (numsOf fs) else none:=by
 unfold numbersB
 rw [h]
theorem rnums8_calls (A : Option Addr) (m c : Nat) (bs : List Nat) (many : Nat) (hm : m = bs.length) (hmc : m ≤ c) (hle : m ≤ 100000000) (hmany : many ≤ 64) (w : World) (hS : Bs w A bs) :
  Calls Tryz.prog 67 #[.slice A m c,.int .i64 (many : Int)] w fun e w' => ∃ x y,e = .returned (.tuple #[x,y]) ∧ Ext w w' ∧ NumA w' bs many x y:=by
 have KG:=veil (rget8_any A m c bs hm hmc hle w hS)
 clear hm hmc hS hle
 go_enter Tryz.func67,Tryz.ntmps67
 go_upto_region 2 with (go_at_call 33; refine KG.out.mono ?_; rintro e w1 ⟨x,y,rfl,hE1,hA⟩)
 rcases hA with ⟨hn,rfl,rfl⟩ | ⟨fs,hs,hF,rfl⟩
 ·
  have hr : numbersB bs many = none:=by
   unfold numbersB
   rw [hn]
  clear KG
  go_wp2
  go_ret2
  exact ⟨_,_,rfl,hE1,.inl ⟨hr,rfl,rfl⟩⟩
 ·
  have hnum:=numbersB_get many hs
  have hE0:=hE1
  obtain ⟨hB,AL,cl,rfl,hcl,hx⟩:=hF
  obtain ⟨q,hq⟩ : ∃ q,q = fs.length:=⟨_,rfl⟩
  rw [← hq] at hx hcl ⊢
  by_cases hqm : q = many
  ·
   subst hqm
   have HX:=veil (And.intro hx (And.intro hq (And.intro hnum hE1)))
   obtain ⟨i8,hi8,hz0,hz1,hz2⟩:=info_parts infoI9
   have HI:=veil (And.intro hi8 (And.intro hz0 (And.intro hz1 hz2)))
   clear KG hx hq hnum hE1 hs hB hcl hi8 hz0 hz1 hz2 hE0
   go_upto_region 6 with (fail)
   go_loopw [8,9,10] (fun v u _ wr => ∃ i : Nat,i ≤ q ∧ u = .int .i64 (i : Int) ∧ Own wr w1.heap.size 3 v i (fun j => .int .i64 (ofB (bsF fs j))) ∧ (∀ j,j < i → tgF fs j = (j : Int) + 1 ∧ 0 ≤ ofB (bsF fs j)) ∧ Ext w1 wr)
    (fun _ v _ _ => q - (intOf v).toNat)
   case atStart => exact ⟨0,by omega,rfl,Own.nil _ _ _ _,fun j hj => by omega,Ext.refl _⟩
   case round =>
    obtain ⟨i,hi,rfl,hO,hall,hE⟩:=hrel
    by_cases hlt : i < q
    ·
     have hd1 : decide ((i : Int) < (q : Int)) = true:=by simp; omega
     have hii : (i : Int) < (q : Int):=by omega
     obtain ⟨b,o,hAL,hb,hcl⟩:=HX.out.1.resolve_left (by omega)
     obtain ⟨h1,A',k',h2,h3,h4⟩:=hcl i hlt
     have c0:=(hE.cell hb).trans h1
     have c1:=(hE.cell hb).trans h2
     obtain ⟨T,hT⟩ : ∃ T,T = tgF fs i:=⟨_,rfl⟩
     obtain ⟨L,hL⟩ : ∃ L,L = (bsF fs i).length:=⟨_,rfl⟩
     obtain ⟨N,hN⟩ : ∃ N,N = ofB (bsF fs i):=⟨_,rfl⟩
     have KO:=veil (rof8_calls A' L k' (bsF fs i) hL wr (h4.ext hE))
     rw [← hT] at c0
     rw [← hL] at c1
     rw [← hN] at KO
     have HT:=veil (And.intro hT (And.intro hN (And.intro hO (And.intro hall hE))))
     have hno : ¬ (T = (i : Int) + 1 ∧ 0 ≤ N) → numbersB bs q = none:=fun h => by
      rw [HX.out.2.2.1,if_neg]
      intro hk
      refine h ?_
      rw [HT.out.1,HT.out.2.1]
      exact hk.2 i hlt
     have HNO:=veil hno
     have hNr : -1 ≤ N ∧ N ≤ 9223372036854775807:=by
      have:=ofB_le h4.1
      rw [← hN] at this
      omega
     subst hAL
     clear h1 h2 h3 h4 hT hL hN hO hall hcl hno
     go_upto_region 9 with (go_at_call 35; refine KO.out.mono ?_; rintro e w2 ⟨rfl,hE2⟩)
     have c0':=(hE2.cell (World.block_lt_of_cell? wr ⟨b,o + i * 2,none⟩ c0)).trans c0
     have HE2:=veil (HT.out.2.2.2.2.trans hE2)
     have HO2:=veil (HT.out.2.2.1.below hE2 (Nat.le_refl _))
     clear c0 c1 KO hE2 hE
     by_cases g1 : N < 0
     ·
      have hd : decide (N < 0) = true:=decide_eq_true g1
      have hr:=HNO.out (fun h => by omega)
      go_wp2
      go_ret2
      exact ⟨_,_,rfl,HX.out.2.2.2.trans HE2.out,.inl ⟨hr,rfl,rfl⟩⟩
     ·
      have hd : decide (N < 0) = false:=decide_eq_false g1
      by_cases g2 : T = (i : Int) + 1
      ·
       have f1 : (T == (i : Int) + 1) = true:=by simp [g2]
       have HG:=veil g2
       subst g2
       go_wp2_with ((with_reducible refine zas 50 ?_); refine zbh _ rfl _ _ 116 rfl w1.heap.size 3 i8 (.int .i64 0) 8 Tryz.underlying116 HI.out.1 HI.out.2.1 HI.out.2.2.1 HI.out.2.2.2 rfl _ i _ rfl (HO2.out.alloc _) _ 1 1 rfl (fun _ => .int .i64 N) (zig _ _ _) (fun _ => rfl) (by unfold maxLen; omega) (by omega) (Nat.le_trans (Below.size HE2.out) (by simp)) ?_; intro v6 w6 hO6 hg6 hat6; clear hat6)
       have hEa:=HE2.out.trans (Ext.alloc w2 (.cells #[.int .i64 N] 3))
       go_roundw
       case rel =>
        refine ⟨i + 1,by omega,by go_num,hO6.congr fun j hj => ?_,fun j hj => ?_,hEa.grown hg6 (Below.size hEa) fun j hj => (HO2.out.lt hj).1⟩
        ·
         by_cases e : j < i
         ·
          rw [if_pos e]
         ·
          rw [if_neg e,show j = i by omega,HT.out.2.1]
        ·
         by_cases e : j = i
         ·
          subst e
          refine ⟨HT.out.1.symm.trans HG.out,?_⟩
          rw [← HT.out.2.1]; omega
         ·
          exact HT.out.2.2.2.1 j (by omega)
       case measure => simp [intOf]; omega
      ·
       have f1 : (T == (i : Int) + 1) = false:=by simp [g2]
       have hr:=HNO.out (fun h => g2 h.1)
       go_wp2
       go_ret2
       exact ⟨_,_,rfl,HX.out.2.2.2.trans HE2.out,.inl ⟨hr,rfl,rfl⟩⟩
    ·
     obtain rfl : i = q:=by omega
     have hr : numbersB bs i = some (numsOf fs):=by
      rw [HX.out.2.2.1,if_pos]
      exact ⟨HX.out.2.1.symm,hall⟩
     have hI:=is_of_own (l:=numsOf fs) (hO.congr fun j hj => by rw [numsOf_get (by have:=HX.out.2.1; omega)]) (by rw [zew]; exact HX.out.2.1)
     clear hO hall
     go_wp2
     go_ret2
     exact ⟨_,_,rfl,HX.out.2.2.2.trans hE,.inr ⟨_,hr,hI,rfl⟩⟩
  ·
   have hr : numbersB bs many = none:=by
    rw [hnum,if_neg]
    intro h
    exact hqm (hq.trans h.1)
   have f1 : ((q : Int) == (many : Int)) = false:=by simp; omega
   have f2 : ¬ ((q : Int) = (many : Int)):=by omega
   clear KG hx hq hnum hs hB hcl
   go_wp2
   go_ret2
   exact ⟨_,_,rfl,hE0,.inl ⟨hr,rfl,rfl⟩⟩
def tkC (t : Tk) : Array Value:=#[.int .i64 t.s,.int .i64 t.p,.int .i64 t.z,.int .i64 t.f,.int .i64 t.k]
def tkV (t : Tk) : Value:=.agg (tkC t)
theorem iTk (t : Tk) : (Tryz.prog.info? 47).map (·.size) = some (tkC t).size:=by
 show _ = some 5
 kernel_rfl
theorem zbw (t : Tk) : (tkC t).all (·.oneCell') = true:=by simp [tkC,Value.oneCell']
theorem zex {t : Tk} (h : ¬ (1 ≤ t.s ∧ t.s ≤ 2147483647 ∧ 1 ≤ t.p ∧ t.p ≤ 16 ∧ 1 ≤ t.z ∧ t.z ≤ 255 ∧ 0 ≤ t.f ∧ t.f ≤ 1073741824 ∧ 1 ≤ t.k ∧ t.k ≤ 2147483647)) : mayT t = false:=decide_eq_false h
theorem rmay9_calls (t : Tk) (w : World) : Calls Tryz.prog 68 #[tkV t] w fun e w' => e = .returned (.bool (mayT t)) ∧ Ext w w':=by
 obtain ⟨s,p,z,f,k⟩:=t
 unfold tkV tkC
 have hE:=Ext.alloc w (.cells #[.int .i64 s,.int .i64 p,.int .i64 z,.int .i64 f,.int .i64 k] 47)
 have HE:=veil hE
 clear hE
 by_cases g0 : (1 : Int) ≤ s
 ·
  have d0 : decide ((1 : Int) ≤ s) = true:=decide_eq_true g0
  by_cases g1 : s ≤ 2147483647
  ·
   have d1 : decide (s ≤ 2147483647) = true:=decide_eq_true g1
   by_cases g2 : (1 : Int) ≤ p
   ·
    have d2 : decide ((1 : Int) ≤ p) = true:=decide_eq_true g2
    by_cases g3 : p ≤ 16
    ·
     have d3 : decide (p ≤ 16) = true:=decide_eq_true g3
     by_cases g4 : (1 : Int) ≤ z
     ·
      have d4 : decide ((1 : Int) ≤ z) = true:=decide_eq_true g4
      by_cases g5 : z ≤ 255
      ·
       have d5 : decide (z ≤ 255) = true:=decide_eq_true g5
       by_cases g6 : (0 : Int) ≤ f
       ·
        have d6 : decide ((0 : Int) ≤ f) = true:=decide_eq_true g6
        by_cases g7 : f ≤ 1073741824
        ·
         have d7 : decide (f ≤ 1073741824) = true:=decide_eq_true g7
         by_cases g8 : (1 : Int) ≤ k
         ·
          have d8 : decide ((1 : Int) ≤ k) = true:=decide_eq_true g8
          by_cases g9 : k ≤ 2147483647
          ·
           have d9 : decide (k ≤ 2147483647) = true:=decide_eq_true g9
           have hm : mayT ⟨s,p,z,f,k⟩ = true:=decide_eq_true ⟨g0,g1,g2,g3,g4,g5,g6,g7,g8,g9⟩
           rw [hm]
           clear hm
           go_enter Tryz.func68,Tryz.ntmps68
           go_wp2
           go_ret
           exact ⟨rfl,HE.out⟩
          ·
           have d9 : decide (k ≤ 2147483647) = false:=decide_eq_false g9
           have hm : mayT ⟨s,p,z,f,k⟩ = false:=zex fun h => by
            have:=h
            simp only at this
            omega
           rw [hm]
           clear hm
           go_enter Tryz.func68,Tryz.ntmps68
           go_wp2
           go_ret
           exact ⟨rfl,HE.out⟩
         ·
          have d8 : decide ((1 : Int) ≤ k) = false:=decide_eq_false g8
          have hm : mayT ⟨s,p,z,f,k⟩ = false:=zex fun h => by
           have:=h
           simp only at this
           omega
          rw [hm]
          clear hm
          go_enter Tryz.func68,Tryz.ntmps68
          go_wp2
          go_ret
          exact ⟨rfl,HE.out⟩
        ·
         have d7 : decide (f ≤ 1073741824) = false:=decide_eq_false g7
         have hm : mayT ⟨s,p,z,f,k⟩ = false:=zex fun h => by
          have:=h
          simp only at this
          omega
         rw [hm]
         clear hm
         go_enter Tryz.func68,Tryz.ntmps68
         go_wp2
         go_ret
         exact ⟨rfl,HE.out⟩
       ·
        have d6 : decide ((0 : Int) ≤ f) = false:=decide_eq_false g6
        have hm : mayT ⟨s,p,z,f,k⟩ = false:=zex fun h => by
         have:=h
         simp only at this
         omega
        rw [hm]
        clear hm
        go_enter Tryz.func68,Tryz.ntmps68
        go_wp2
        go_ret
        exact ⟨rfl,HE.out⟩
      ·
       have d5 : decide (z ≤ 255) = false:=decide_eq_false g5
       have hm : mayT ⟨s,p,z,f,k⟩ = false:=zex fun h => by
        have:=h
        simp only at this
        omega
       rw [hm]
       clear hm
       go_enter Tryz.func68,Tryz.ntmps68
       go_wp2
       go_ret
       exact ⟨rfl,HE.out⟩
     ·
      have d4 : decide ((1 : Int) ≤ z) = false:=decide_eq_false g4
      have hm : mayT ⟨s,p,z,f,k⟩ = false:=zex fun h => by
       have:=h
       simp only at this
       omega
      rw [hm]
      clear hm
      go_enter Tryz.func68,Tryz.ntmps68
      go_wp2
      go_ret
      exact ⟨rfl,HE.out⟩
    ·
     have d3 : decide (p ≤ 16) = false:=decide_eq_false g3
     have hm : mayT ⟨s,p,z,f,k⟩ = false:=zex fun h => by
      have:=h
      simp only at this
      omega
     rw [hm]
     clear hm
     go_enter Tryz.func68,Tryz.ntmps68
     go_wp2
     go_ret
     exact ⟨rfl,HE.out⟩
   ·
    have d2 : decide ((1 : Int) ≤ p) = false:=decide_eq_false g2
    have hm : mayT ⟨s,p,z,f,k⟩ = false:=zex fun h => by
     have:=h
     simp only at this
     omega
    rw [hm]
    clear hm
    go_enter Tryz.func68,Tryz.ntmps68
    go_wp2
    go_ret
    exact ⟨rfl,HE.out⟩
  ·
   have d1 : decide (s ≤ 2147483647) = false:=decide_eq_false g1
   have hm : mayT ⟨s,p,z,f,k⟩ = false:=zex fun h => by
    have:=h
    simp only at this
    omega
   rw [hm]
   clear hm
   go_enter Tryz.func68,Tryz.ntmps68
   go_wp2
   go_ret
   exact ⟨rfl,HE.out⟩
 ·
  have d0 : decide ((1 : Int) ≤ s) = false:=decide_eq_false g0
  have hm : mayT ⟨s,p,z,f,k⟩ = false:=zex fun h => by
   have:=h
   simp only at this
   omega
  rw [hm]
  clear hm
  go_enter Tryz.func68,Tryz.ntmps68
  go_wp2
  go_ret
  exact ⟨rfl,HE.out⟩
theorem infoN4 : (Tryz.prog.info? 27).map (·.size) = some 4:=by kernel_rfl
def nc (x : Nat) : Array Value:=#[vI vU (wd x 0),vI vU (wd x 1),vI vU (wd x 2),vI vU (wd x 3)]
def nv (x : Nat) : Value:=.agg (nc x)
theorem zek (x : Nat) : (nc x).all (·.oneCell') = true:=by simp [nc,Value.oneCell']
theorem iN (x : Nat) : (Tryz.prog.info? 27).map (·.size) = some (nc x).size:=by exact infoN4
theorem uN : Tryz.prog.underlying 27 = some (.array 4 25):=Tryz.underlying27
section
variable {P : Program} {o : Oper} {a : Act} {w : World}
theorem zad {f : FuncId} {fn : Func} {c : Code} (hf : P.funcs[f]? = some fn) (hname : (fn.name == "runtime.NumGoroutine") = false) (hb : fn.body = some c) (args : Array Value) (w : World) :
  (callFunc f args).run P w = .ok (.enter f args) w:=by
 have hn : ¬ fn.name = "runtime.NumGoroutine":=by simpa using hname
 simp [callFunc,go_sem,hf,hb,hn]
theorem zak {k : FuncId} {xs : List Operand} {ts : Array TypeId} {args : List Value} {v : Value} (ho : o.op = .call { callee:=.value (.func k),args:=xs.toArray,argTypes:=ts }) (hx : xs.map a.eval = args)
  (he : ∀ W,(callFunc k args.toArray).run P W = .ok (.enter k args.toArray) W) (hc : ∀ W,Ext w W → Calls P k args.toArray W fun e W' => e = .returned v ∧ Ext W W') : Made P o v a w :=
 made_call (fun W => by
  have h1 : execOp a.eval o = callFunc k (#[] ++ xs.toArray.map a.eval ++ #[]):=by
   cases o
   subst ho
   rfl
  rw [h1,List.map_toArray,hx]
  simpa using he W) hc
theorem zkt {k : FuncId} {xs : List Operand} {ts : Array TypeId} {args : List Value} {v p : Value} {f : Tmp} (ho : o.op = .call { callee:=.value (.tmp f),args:=xs.toArray,argTypes:=ts }) (hf : a.eval (.tmp f) = .func (.func k) #[p] #[]) (hx : xs.map a.eval = args)
  (he : ∀ W,(callFunc k (p :: args).toArray).run P W = .ok (.enter k (p :: args).toArray) W) (hc : ∀ W,Ext w W → Calls P k (p :: args).toArray W fun e W' => e = .returned v ∧ Ext W W') : Made P o v a w :=
 made_call (fun W => by
  unfold execOp
  simp only [ho,resolve,hf,List.map_toArray,hx,Deferred.ofValue,Sem.run_bind,Sem.run_pure,Result.andThen_ok,invoke]
  simpa using he W) hc
theorem zib {x : Operand} {ty ty2 : TypeId} {c : Int} {v : Bool} (ho : o.op = .binOp .geq ty x (.const (.int .i64 0)) ty2) (hx : a.eval x = .int .i64 c) (hv : decide (0 ≤ c) = v) : Made P o (.bool v) a w:=zbp fun W _ => by
 have h0 : a.eval (.const (.int .i64 0)) = .int .i64 0:=rfl
 unfold execOp
 simp only [ho]
 generalize a.eval = ρ at *
 subst hv
 rw [hx,h0]
 simp [go_sem,eqGuard]
theorem zic {op : BinOp} {x y : Operand} {ty ty2 : TypeId} {u v r : Value} (ho : o.op = .binOp op ty x y ty2) (hx : a.eval x = u) (hy : a.eval y = v)
  (hg : ∀ W,(eqGuard op ty x y u v).run P W = .ok () W) (hr : ∀ W,(binOp op ty u v).run P W = .ok r W) : Made P o r a w:=zbp fun W _ => by
 unfold execOp
 simp only [ho,hx,hy,Sem.run_bind,hg W,Result.andThen_ok,hr W,Sem.run_pure]
theorem zhg {ty : TypeId} {x : Operand} {lo hi mx : Option Operand} {u v : Value} (ho : o.op = .slice ty x lo hi mx) (hx : a.eval x = u)
  (h : ∀ W,(Instr.sliceAt ty u (lo.map a.eval) (hi.map a.eval) (mx.map a.eval)).run P W = .ok v W) : Made P o v a w:=zbp fun W _ => by
 unfold execOp
 simp only [ho,hx,Sem.run_bind,h W,Result.andThen_ok,Sem.run_pure]
theorem neq_of {t : TypeId} {c d : Array Value} {b r : Bool} {W : World} (h : (binOp .eql t (.agg c) (.agg d)).run P W = .ok (.bool b) W) (hr : (!b) = r) : (binOp .neq t (.agg c) (.agg d)).run P W = .ok (.bool r) W:=by
 subst hr
 have h1 : (do pure (Value.bool (← Op.equal t (.agg c) (.agg d))) : Sem Value).run P W = .ok (.bool b) W:=h
 show (do pure (Value.bool (!(← Op.equal t (.agg c) (.agg d)))) : Sem Value).run P W = .ok (.bool (!b)) W
 simp only [Sem.run_bind,Sem.run_pure] at h1 ⊢
 generalize (Op.equal t (.agg c) (.agg d)).run P W = r at h1 ⊢
 cases r with
 | ok v w' =>
  simp only [Result.andThen_ok,Result.ok.injEq,Value.bool.injEq] at h1 ⊢
  exact ⟨by rw [h1.1],h1.2⟩
 | halt x w' => simp [Result.andThen] at h1
end
section
variable (W : World)
theorem hzN : (Instr.alloc 27 true (.tuple #[])).run Tryz.prog W = .ok (ptrTo W.heap.size) (W.alloc (.cells #[vI vU 0,vI vU 0,vI vU 0,vI vU 0] 27)):=by simp [Instr.alloc,go_sem]
theorem wd_z : wd 0 0 = 0 ∧ wd 0 1 = 0 ∧ wd 0 2 = 0 ∧ wd 0 3 = 0:=by decide
theorem bldN0 : (Instr.build 27 [].toArray).run Tryz.prog W = .ok (nv 0) W:=by
 obtain ⟨h0,h1,h2,h3⟩:=wd_z
 unfold nv nc
 rw [h0,h1,h2,h3]
 simp [Instr.build,go_sem]
end
theorem zee {w : World} {o : Obj} {k : Nat} (hk : k = w.heap.size) : (w.alloc o).heap[k]? = some o:=by subst hk; exact zar w o
theorem blocks1 (w : World) (A : Obj) : Ext w (w.alloc A) ∧ (w.alloc A).heap[w.heap.size]? = some A:=⟨Ext.alloc _ _,zee rfl⟩
theorem blocks2 (w : World) (A B : Obj) : Ext w ((w.alloc A).alloc B) ∧ ((w.alloc A).alloc B).heap[w.heap.size]? = some A ∧ ((w.alloc A).alloc B).heap[w.heap.size + 1]? = some B :=
 ⟨(Ext.alloc _ _).trans (Ext.alloc _ _),(Ext.alloc _ _).block (zee rfl),zee (by simp)⟩
theorem blocks3 (w : World) (A B C : Obj) : Ext w (((w.alloc A).alloc B).alloc C) ∧ (((w.alloc A).alloc B).alloc C).heap[w.heap.size]? = some A ∧ (((w.alloc A).alloc B).alloc C).heap[w.heap.size + 1]? = some B ∧ (((w.alloc A).alloc B).alloc C).heap[w.heap.size + 1 + 1]? = some C :=
 ⟨(Ext.alloc _ _).trans ((Ext.alloc _ _).trans (Ext.alloc _ _)),((Ext.alloc _ _).trans (Ext.alloc _ _)).block (zee rfl),(Ext.alloc _ _).block (zee (by simp)),zee (by simp)⟩
theorem blocks4 (w : World) (A B C D : Obj) : Ext w ((((w.alloc A).alloc B).alloc C).alloc D) ∧ ((((w.alloc A).alloc B).alloc C).alloc D).heap[w.heap.size]? = some A ∧ ((((w.alloc A).alloc B).alloc C).alloc D).heap[w.heap.size + 1]? = some B ∧ ((((w.alloc A).alloc B).alloc C).alloc D).heap[w.heap.size + 1 + 1]? = some C ∧ ((((w.alloc A).alloc B).alloc C).alloc D).heap[w.heap.size + 1 + 1 + 1]? = some D :=
 ⟨(Ext.alloc _ _).trans ((Ext.alloc _ _).trans ((Ext.alloc _ _).trans (Ext.alloc _ _))),((Ext.alloc _ _).trans ((Ext.alloc _ _).trans (Ext.alloc _ _))).block (zee rfl),((Ext.alloc _ _).trans (Ext.alloc _ _)).block (zee (by simp)),(Ext.alloc _ _).block (zee (by simp)),zee (by simp)⟩
theorem zdp {P : Program} {c : Code} {Q : Exit → Act → World → Prop} {a : Act} {w : World} {A : Obj} (h : ∀ w1,Ext w w1 → w1.heap[w.heap.size]? = some A → c.wp P Q a w1) : c.wp P Q a (w.alloc A):=h _ (blocks1 w A).1 (blocks1 w A).2
theorem zgd {P : Program} {c : Code} {Q : Exit → Act → World → Prop} {a : Act} {w : World} {A B : Obj} (h : ∀ w1,Ext w w1 → w1.heap[w.heap.size]? = some A → w1.heap[w.heap.size + 1]? = some B → c.wp P Q a w1) : c.wp P Q a ((w.alloc A).alloc B):=h _ (blocks2 w A B).1 (blocks2 w A B).2.1 (blocks2 w A B).2.2
theorem zfj {P : Program} {c : Code} {Q : Exit → Act → World → Prop} {a : Act} {w : World} {A B C : Obj} (h : ∀ w1,Ext w w1 → w1.heap[w.heap.size]? = some A → w1.heap[w.heap.size + 1]? = some B → w1.heap[w.heap.size + 1 + 1]? = some C → c.wp P Q a w1) : c.wp P Q a (((w.alloc A).alloc B).alloc C):=h _ (blocks3 w A B C).1 (blocks3 w A B C).2.1 (blocks3 w A B C).2.2.1 (blocks3 w A B C).2.2.2
theorem wp_via4 {P : Program} {c : Code} {Q : Exit → Act → World → Prop} {a : Act} {w : World} {A B C D : Obj} (h : ∀ w1,Ext w w1 → w1.heap[w.heap.size]? = some A → w1.heap[w.heap.size + 1]? = some B → w1.heap[w.heap.size + 1 + 1]? = some C → w1.heap[w.heap.size + 1 + 1 + 1]? = some D → c.wp P Q a w1) : c.wp P Q a ((((w.alloc A).alloc B).alloc C).alloc D):=h _ (blocks4 w A B C D).1 (blocks4 w A B C D).2.1 (blocks4 w A B C D).2.2.1 (blocks4 w A B C D).2.2.2.1 (blocks4 w A B C D).2.2.2.2
theorem Ext.new {w w1 W : World} {r : Nat} (h : Ext w w1) (k : But r w1 W) (hr : w.heap.size ≤ r) : Ext w W:=Below.trans h (k.new hr (Below.size h))
theorem zbg {P : Program} {o : Oper} {a : Act} {w : World} {ty : TypeId} {x : Operand} {b r : Bool} (ho : o.op = .unOp .not ty x) (hx : a.eval x = .bool b) (hr : (!b) = r) : Made P o (.bool r) a w:=hr ▸ made_not ho hx
theorem wpl_load {P : Program} {ops : Array Oper} {Q : Exit → Act → World → Prop} {rest : List Oper} {o : Oper} {a : Act} {w : World} {ty : TypeId} {x : Operand} {g t : Nat} {C cs : Array Value} {fr : Nat × Nat} {d : TypeDesc} (hg : o.guard = none) (ho : o.op = .load ty x) (hx : a.eval x = ptrTo g) (hb : w.heap[g]? = some (.cells C t fr))
  (hcs : C = cs) (hu : P.underlying ty = some d) (hd : d.isRow = true) (hi : (P.info? ty).map (·.size) = some cs.size) (h : wpList P ops Q rest (a.put o.dst (.agg cs)) w) : wpList P ops Q (o :: rest) a w:=by
 subst hcs
 refine wpList_load_mid hg ty x ho g 0 hx C.toList d (fun j v hv => by rw [cell_of_row w g (0 + j) C t fr hb,Nat.zero_add]; simpa using hv) hu hd (by simpa using hi) ?_
 simpa using h
theorem zff {w W : World} {g r : Nat} {o : Obj} (hB : But r w W) (hg : w.heap[g]? = some o) (hne : g ≠ r) : W.heap[g]? = some o:=by
 rw [hB.block g (Array.getElem?_eq_some_iff.1 hg).1 (by intro e; simp at e; exact hne e),hg]
theorem eqN {X : Nat} (W : World) : (binOp .eql 27 (nv X) (nv X)).run Tryz.prog W = .ok (.bool true) W:=eql_num_same X W
theorem neN {X : Nat} (W : World) : (binOp .neq 27 (nv X) (nv X)).run Tryz.prog W = .ok (.bool false) W:=neq_of (eqN W) rfl
theorem gN (X Y : Nat) (op : BinOp) (x y : Operand) (W : World) : (eqGuard op 27 x y (nv X) (nv Y)).run Tryz.prog W = .ok () W:=by
 unfold nv nc
 cases op <;> simp [eqGuard,go_sem]
theorem hsN (X : Nat) : (#[vI vU 0,vI vU 0,vI vU 0,vI vU 0] : Array Value).size = (nc X).size:=by simp [nc]
def qc (x y : Nat) (f : Bool) : Array Value:=#[vI vU (wd x 0),vI vU (wd x 1),vI vU (wd x 2),vI vU (wd x 3),vI vU (wd y 0),vI vU (wd y 1),vI vU (wd y 2),vI vU (wd y 3),.bool (f)]
def qv (x y : Nat) (f : Bool) : Value:=.agg (qc x y f)
theorem zcz (x y : Nat) (f : Bool) : (qc x y f).all (·.oneCell') = true:=by simp [qc,Value.oneCell']
theorem iT (x y : Nat) (f : Bool) : (Tryz.prog.info? 29).map (·.size) = some (qc x y f).size:=by kernel_rfl
theorem zce (W : World) : (isAgg 4).run Tryz.prog W = .ok false W:=by simp [isAgg,go_sem]
section
variable (g : Nat) (W : World)
theorem fldT0 : (Instr.fieldAt 29 (ptrTo g) 0).run Tryz.prog W = .ok (.pointer (some ⟨g,0,none⟩)) W:=by simp [Instr.fieldAt,go_sem]
theorem fldT1 : (Instr.fieldAt 29 (ptrTo g) 1).run Tryz.prog W = .ok (.pointer (some ⟨g,4,none⟩)) W:=by simp [Instr.fieldAt,go_sem]
theorem fldT2 : (Instr.fieldAt 29 (ptrTo g) 2).run Tryz.prog W = .ok (.pointer (some ⟨g,8,none⟩)) W:=by simp [Instr.fieldAt,go_sem]
theorem hzT : (Instr.alloc 29 true (.tuple #[])).run Tryz.prog W = .ok (ptrTo W.heap.size) (W.alloc (.cells #[vI vU 0,vI vU 0,vI vU 0,vI vU 0,vI vU 0,vI vU 0,vI vU 0,vI vU 0,.bool false] 29)):=by simp [Instr.alloc,go_sem]
theorem bldT0 : (Instr.build 29 [].toArray).run Tryz.prog W = .ok (qv 0 0 false) W:=by
 obtain ⟨h0,h1,h2,h3⟩:=wd_z
 unfold qv qc
 rw [h0,h1,h2,h3]
 simp [Instr.build,go_sem]
theorem bldTF : (Instr.build 29 [(2,.bool true)].toArray).run Tryz.prog W = .ok (qv 0 0 true) W:=by
 obtain ⟨h0,h1,h2,h3⟩:=wd_z
 unfold qv qc
 rw [h0,h1,h2,h3]
 simp [Instr.build,go_sem]
end
theorem eqT {X Y : Nat} {f : Bool} (hX : X < top) (hY : Y < top) (W : World) : (binOp .eql 29 (qv X Y f) (qv X Y f)).run Tryz.prog W = .ok (.bool true) W:=by
 have e:=eql_pt hX hY hX hY f f W
 rw [decide_eq_true ⟨rfl,rfl,rfl⟩] at e
 exact e
theorem gT (X Y X' Y' : Nat) (f f' : Bool) (op : BinOp) (x y : Operand) (W : World) : (eqGuard op 29 x y (qv X Y f) (qv X' Y' f')).run Tryz.prog W = .ok () W:=by
 unfold qv qc
 cases op <;> simp [eqGuard,go_sem]
theorem mkErr2 (W : World) : (Instr.makeInterface 39 (.int .i64 2)).run Tryz.prog W = .ok (.iface 39 (.int .i64 2)) W:=by simp [Instr.makeInterface,go_sem]
theorem made_eqn {o : Oper} {a : Act} {w : World} {x y : Operand} {X Y : Nat} (ho : o.op = .binOp .eql 27 x y 27) (hx : a.eval x = nv X) (hy : a.eval y = nv Y) (lX : X < top) (lY : Y < top) : Made Tryz.prog o (.bool (decide (X = Y))) a w:=zbp fun W _ => by
 have k:=zjb lX lY W
 unfold execOp
 simp only [ho]
 generalize a.eval = ρ at *
 rw [hx,hy]
 unfold nv nc at *
 have hg : (eqGuard .eql 27 x y (.agg #[vI vU (wd X 0),vI vU (wd X 1),vI vU (wd X 2),vI vU (wd X 3)]) (.agg #[vI vU (wd Y 0),vI vU (wd Y 1),vI vU (wd Y 2),vI vU (wd Y 3)])).run Tryz.prog W = .ok () W:=by simp [eqGuard,go_sem]
 simp only [Sem.run_bind,hg,Result.andThen_ok,k,Sem.run_pure]
def gc (r s : Nat) : Array Value:=#[vI vU (wd r 0),vI vU (wd r 1),vI vU (wd r 2),vI vU (wd r 3),vI vU (wd s 0),vI vU (wd s 1),vI vU (wd s 2),vI vU (wd s 3)]
def gv (r s : Nat) : Value:=.agg (gc r s)
theorem zcw (r s : Nat) : (gc r s).all (·.oneCell') = true:=by simp [gc,Value.oneCell']
theorem iSg (r s : Nat) : (Tryz.prog.info? 78).map (·.size) = some (gc r s).size:=by kernel_rfl
def dgc (y : Nat → Nat) : Array Value:=arrOf 32 fun i => .int .u8 (y i : Nat)
def dgv (y : Nat → Nat) : Value:=.agg (dgc y)
theorem infoD32 : (Tryz.prog.info? 112).map (·.size) = some 32:=by kernel_rfl
theorem iDg (y : Nat → Nat) : (Tryz.prog.info? 112).map (·.size) = some (dgc y).size:=by
 unfold dgc
 rw [zaz]; exact infoD32
section
variable (g : Nat) (W : World)
theorem fldG0 : (Instr.fieldAt 78 (ptrTo g) 0).run Tryz.prog W = .ok (.pointer (some ⟨g,0,none⟩)) W:=by simp [Instr.fieldAt,go_sem]
theorem fldG1 : (Instr.fieldAt 78 (ptrTo g) 1).run Tryz.prog W = .ok (.pointer (some ⟨g,4,none⟩)) W:=by simp [Instr.fieldAt,go_sem]
theorem bldG (r s : Nat) : (Instr.build 78 [(0,nv r),(1,nv s)].toArray).run Tryz.prog W = .ok (gv r s) W:=by simp [Instr.build,go_sem,nv,nc,gv,gc]
theorem bldG0 : (Instr.build 78 [].toArray).run Tryz.prog W = .ok (gv 0 0) W:=by
 obtain ⟨h0,h1,h2,h3⟩:=wd_z
 unfold gv gc
 rw [h0,h1,h2,h3]
 simp [Instr.build,go_sem]
theorem sliceD : (Instr.sliceAt 112 (ptrTo g) none none none).run Tryz.prog W = .ok (.slice (some ⟨g,0,none⟩) 32 32) W:=by kernel_rfl
end
structure Low where
 dg : List Nat → Nat → Nat
 dgb : ∀ bs j,dg bs j < 256
 vf : Nat → Nat → Bool → (Nat → Nat) → Nat → Nat → Bool
structure LowR (L : Low) : Prop where
 num : ∀ A m c bs w,m = bs.length → m = 32 → Bs w A bs → Calls Tryz.prog 59 #[.slice A m c] w fun e w' => e = .returned (nv (valB bs)) ∧ Ext w w'
 sum : ∀ A m c bs w,m = bs.length → m ≤ 100000 → Bs w A bs → Calls Tryz.prog 70 #[.slice A m c] w fun e w' => e = .returned (dgv (L.dg bs)) ∧ Ext w w'
 ver : ∀ X Y f y R S w,X < top → Y < top → R < top → S < top → (∀ j,y j < 256) → Calls Tryz.prog 69 #[qv X Y f,dgv y,gv R S] w fun e w' => e = .returned (.bool (L.vf X Y f y R S)) ∧ Ext w w'
theorem zdy {P : Program} {fn : Func} {q p s : Tmp} {ty : TypeId} (h : fn.results = #[.tmp q,.cell p ty,.tmp s]) (tmps : Array Value) (w : World) (g : Nat) (t : TypeId) (cs : Array Value) (fr : Nat × Nat) (d : TypeDesc)
  (hp : tmps.getD p undef = .pointer (some ⟨g,0,none⟩)) (hg : w.heap[g]? = some (.cells cs t fr)) (hu : P.underlying ty = some d) (hd : d.isRow = true) (hi : (P.info? ty).map (·.size) = some cs.size) :
  (results fn tmps).run P w = .ok (.tuple #[tmps.getD q undef,.agg cs,tmps.getD s undef]) w:=by
 have hp' : tmps[p]?.getD undef = .pointer (some ⟨g,0,none⟩):=by simpa using hp
 have hl : (loadVar ty ⟨g,0,none⟩).run P w = .ok (.agg cs) w:=run_loadVar_mid w g 0 ty cs.toList d (fun j v hv => by rw [cell_of_row w g (0 + j) cs t fr hg,Nat.zero_add]; simpa using hv) hu hd (by simpa using hi)
 simp [results,h,hp',asAddr,hl]
def Z8 : Array Value:=#[vI vU 0,vI vU 0,vI vU 0,vI vU 0,vI vU 0,vI vU 0,vI vU 0,vI vU 0]
theorem z8_gc : Z8 = gc 0 0:=by
 obtain ⟨h0,h1,h2,h3⟩:=wd_z
 unfold gc Z8
 rw [h0,h1,h2,h3]
theorem iZ8 : (Tryz.prog.info? 78).map (·.size) = some Z8.size:=by kernel_rfl
theorem zfg : Z8.all (·.oneCell') = true:=by simp [Z8,Value.oneCell']
theorem off_z8 {w : World} {A : Option Addr} {bs : List Nat} {g : Nat} {fr : Nat × Nat} (h : Bs w A bs) (hg : w.heap[g]? = some (.cells Z8 78 fr)) : Off A bs (some g):=by
 by_cases h0 : bs.length = 0
 ·
  exact .inl h0
 ·
  refine .inr fun b o e e2 => ?_
  obtain ⟨b',o',e',_,hc⟩:=h.cell (j:=0) (by omega)
  rw [e] at e'
  injection e' with e'
  injection e' with e3 e4
  have e5 : g = b:=by injection e2
  subst e3 e4 e5
  rw [cell_of_row w g _ _ _ _ hg] at hc
  unfold Z8 at hc
  simp only [Nat.add_zero] at hc
  match o,hc with
  | 0,hc => simp at hc
  | 1,hc => simp at hc
  | 2,hc => simp at hc
  | 3,hc => simp at hc
  | 4,hc => simp at hc
  | 5,hc => simp at hc
  | 6,hc => simp at hc
  | 7,hc => simp at hc
  | n + 8,hc => simp at hc
def PartsA (w' : World) (bs : List Nat) (x y : Value) (G : Array Value) : Prop :=
 (partsB bs = none ∧ x = .slice none 0 0 ∧ G = gc 0 0 ∧ y = .bool false) ∨
 (∃ body r s,partsB bs = some (body,r,s) ∧ (∃ A c,x = .slice A body.length c ∧ body.length ≤ c ∧ Bs w' A body) ∧ G = gc r s ∧ y = .bool true)
theorem partsB_get {bs : List Nat} {fs : List Fd} (h : getFs bs = some fs) : partsB bs = if twoOk fs then some (bsF fs 0,sigR (bsF fs 1),sigS (bsF fs 1)) else none:=by
 unfold partsB
 rw [h]
theorem zbm {P : Program} {o : Oper} {a : Act} {ty : TypeId} {x : Operand} {g t : Nat} {cs : Array Value} {fr : Nat × Nat} {d : TypeDesc} {W : World} (ho : o.op = .load ty x) (hx : a.eval x = .pointer (some ⟨g,0,none⟩)) (hb : W.heap[g]? = some (.cells cs t fr))
  (hu : P.underlying ty = some d) (hd : d.isRow = true) (hi : (P.info? ty).map (·.size) = some cs.size) : (execOp a.eval o).run P W = .ok (.value (.agg cs)) W:=by
 have hl : (loadVar ty ⟨g,0,none⟩).run P W = .ok (.agg cs) W:=run_loadVar_mid W g 0 ty cs.toList d (fun j v hv => by rw [cell_of_row W g (0 + j) cs t fr hb,Nat.zero_add]; simpa using hv) hu hd (by simpa using hi)
 unfold execOp
 simp only [ho,hx,Instr.loadAt,Instr.sureAddr,Sem.run_bind,Sem.run_pure,Result.andThen_ok,hl]
theorem zhs {P : Program} {o : Oper} {a : Act} {ty : TypeId} {parts : List (Nat × Operand)} {vs : List (Nat × Value)} {v : Value} {W : World} (ho : o.op = .build ty parts.toArray) (hx : parts.map (fun p => (p.1,a.eval p.2)) = vs)
  (hb : (Instr.build ty vs.toArray).run P W = .ok v W) : (execOp a.eval o).run P W = .ok (.value v) W:=by
 unfold execOp
 simp only [ho,List.map_toArray]
 rw [show (parts.map fun x => match x with | (i,x) => (i,a.eval x)) = vs from hx]
 simp only [Sem.run_bind,hb,Result.andThen_ok,Sem.run_pure]
theorem sched_store {P : Program} {Q : Exit → Act → World → Prop} {l : List Oper} {n k : Nat} {r : Sched} {a : Act} {w : World} {ty t : TypeId} {x y : Operand} {g : Nat} {cells old : Array Value} (o : Oper) (ho : l[k]? = some o) (hg : o.guard = none) (hop : o.op = .store ty x y) (hd : o.dst = none) (hkn : ¬ k < n)
  (hx : a.eval x = ptrTo g) (hy : a.eval y = .agg cells) (hb : w.heap[g]? = some (.cells old t (0,0))) (hi : (P.info? ty).map (·.size) = some cells.size) (hold : old.size = cells.size) (h1 : cells.all (·.oneCell') = true)
  (h : ∀ W,But g w W → W.heap[g]? = some (.cells cells t (0,0)) → wpSched P l Q n r a W) : wpSched P l Q n ((false,[k]) :: r) a w:=by
 refine zeh o ho hg fun W hW => wp_store_row ty x y hop g cells hx hy t old (hW.block hb) hi hold h1 ⟨fun h => absurd h hkn,?_⟩
 rw [hd]
 exact h _ (zeq (zjf hW) cells) (setRow_heap W g old cells t (0,0) (hW.block hb))
theorem Up.block {w : World} {D : World → Prop} (h : Up w D) {g : Nat} {o : Obj} (hb : w.heap[g]? = some o) (x : Gw D) : x.val.heap[g]? = some o:=(h.grown _ x.property).block hb
theorem run_slice_lv {P : Program} {o : Oper} {a : Act} {t : TypeId} {x z : Operand} {v v' vz : Value} {W : World} (ho : o.op = .slice t x (some z) none none) (hx : a.eval x = v) (hz : a.eval z = vz)
  (h : (Instr.sliceAt t v (some vz) none none).run P W = .ok v' W) : (execOp a.eval o).run P W = .ok (.value v') W:=by
 unfold execOp
 simp only [ho,hx,hz,Option.map_some,Option.map_none,Sem.run_bind,h,Result.andThen_ok,Sem.run_pure]
theorem zjh {L : Low} (R : LowR L) (A : Option Addr) (m c : Nat) (bs : List Nat) (hm : m = bs.length) (hmc : m ≤ c) (hle : m ≤ 100000000) (w : World) (hS : Bs w A bs) :
  Calls Tryz.prog 66 #[.slice A m c] w fun e w' => ∃ x G y,e = .returned (.tuple #[x,.agg G,y]) ∧ Ext w w' ∧ PartsA w' bs x y G:=by
 have hzz : (w.alloc (.cells #[vI vU 0,vI vU 0,vI vU 0,vI vU 0,vI vU 0,vI vU 0,vI vU 0,vI vU 0] 78)).heap[w.heap.size]? = some (.cells #[vI vU 0,vI vU 0,vI vU 0,vI vU 0,vI vU 0,vI vU 0,vI vU 0,vI vU 0] 78 (0,0)):=zar w _
 have hE0:=Ext.alloc w (.cells #[vI vU 0,vI vU 0,vI vU 0,vI vU 0,vI vU 0,vI vU 0,vI vU 0,vI vU 0] 78)
 have KG:=veil (fun W hW => rget8_any A m c bs hm hmc hle W hW)
 have HW:=veil (And.intro hzz (And.intro hE0 (hS.ext hE0)))
 clear hzz hE0 hm hmc hle hS
 go_enter Tryz.func66,Tryz.ntmps66
 go_upto_region 1 with (fail)
 generalize w.alloc (.cells #[vI vU 0,vI vU 0,vI vU 0,vI vU 0,vI vU 0,vI vU 0,vI vU 0,vI vU 0] 78) = w0 at *
 go_upto_region 2 with (go_at_call 33; refine (KG.out w0 HW.out.2.2).mono ?_; rintro e w1 ⟨x,y,rfl,hE1,hA⟩)
 have H1:=veil (And.intro (hE1.block HW.out.1) (HW.out.2.1.trans hE1))
 clear hE1
 rcases hA with ⟨hn,rfl,rfl⟩ | ⟨fs,hs,hF,rfl⟩
 ·
  have hr : partsB bs = none:=by
   unfold partsB
   rw [hn]
  clear KG
  go_wp2_with (first
   | ((with_reducible refine zap ?_); refine wpList_store_row rfl 78 _ _ rfl w.heap.size Z8 rfl rfl 78 _ H1.out.1 iZ8 rfl zfg ?_))
  refine bodyPost_ret (zdy rfl _ _ w.heap.size 78 Z8 (0,0) _ rfl (setRow_heap w1 w.heap.size _ Z8 78 (0,0) H1.out.1) Tryz.underlying78 rfl iZ8) rfl ⟨_,_,_,rfl,zat H1.out.2 (Nat.le_refl _) _,.inl ⟨hr,rfl,z8_gc,rfl⟩⟩
 ·
  have hpb:=partsB_get hs
  obtain ⟨hB,AL,cl,rfl,hcl,hx⟩:=hF
  obtain ⟨q,hq⟩ : ∃ q,q = fs.length:=⟨_,rfl⟩
  rw [← hq] at hx hcl ⊢
  have HX:=veil (And.intro hx (And.intro hq hpb))
  clear KG hx hq hpb hs hB hcl
  by_cases g0 : q = 2
  ·
   have hqI : decide ((q : Int) = 2) = true:=by simp; omega
   have HQ:=veil g0
   obtain ⟨b,o,hAL,hb,hcl⟩:=HX.out.1.resolve_left (by omega)
   obtain ⟨h1,A0,k0,h2,h3,h4⟩:=hcl 0 (by omega)
   obtain ⟨j1,A1,k1,j2,j3,j4⟩:=hcl 1 (by omega)
   have c0 : w1.cell? ⟨b,o,none⟩ = some (.int .i64 (tgF fs 0)):=h1
   have c1 : w1.cell? ⟨b,o + 1,none⟩ = some (.slice A0 (bsF fs 0).length k0):=h2
   have d0 : w1.cell? ⟨b,o + 2,none⟩ = some (.int .i64 (tgF fs 1)):=j1
   have d1 : w1.cell? ⟨b,o + 3,none⟩ = some (.slice A1 (bsF fs 1).length k1):=j2
   obtain ⟨T0,hT0⟩ : ∃ T,T = tgF fs 0:=⟨_,rfl⟩
   obtain ⟨T1,hT1⟩ : ∃ T,T = tgF fs 1:=⟨_,rfl⟩
   obtain ⟨L0,hL0⟩ : ∃ L,L = (bsF fs 0).length:=⟨_,rfl⟩
   obtain ⟨L1,hL1⟩ : ∃ L,L = (bsF fs 1).length:=⟨_,rfl⟩
   rw [← hT0] at c0
   rw [← hT1] at d0
   rw [← hL0] at c1
   rw [← hL1] at d1
   have HT:=veil (And.intro hT0 (And.intro hT1 (And.intro hL0 hL1)))
   have HB:=veil (And.intro h3 (And.intro h4 (And.intro j3 j4)))
   have hno : ¬ (T0 = 1 ∧ T1 = 2 ∧ L1 = 64) → partsB bs = none:=fun h => by
    rw [HX.out.2.2,if_neg]
    intro hk
    refine h ⟨?_,?_,?_⟩
    ·
     rw [HT.out.1]; exact hk.2.1
    ·
     rw [HT.out.2.1]; exact hk.2.2.1
    ·
     rw [HT.out.2.2.2]; exact hk.2.2.2
   have HNO:=veil hno
   subst hAL
   subst g0
   clear h1 h2 h3 h4 j1 j2 j3 j4 hT0 hT1 hL0 hL1 hcl hno hqI
   by_cases g1 : T0 = 1
   ·
    have f1 : (T0 == 1) = true:=by simp [g1]
    by_cases g2 : T1 = 2
    ·
     have f2 : (T1 == 2) = true:=by simp [g2]
     by_cases g3 : L1 = 64
     ·
      have HG:=veil (And.intro g1 (And.intro g2 g3))
      subst g1 g2 g3
      have hk1 : 64 ≤ k1:=by have h:=HB.out.2.2.1; have h2:=HT.out.2.2.2; omega
      obtain ⟨D1,hD1⟩ : ∃ D,D = bsF fs 1:=⟨_,rfl⟩
      have HD:=veil (And.intro hD1 (And.intro (show D1.length = 64 from by rw [hD1]; exact HT.out.2.2.2.symm) (show Bs w1 A1 D1 from by rw [hD1]; exact HB.out.2.2.2)))
      have htd : (D1.drop 32).take 32 = D1.drop 32:=List.take_of_length_le (by rw [List.length_drop,HD.out.2.1]; decide)
      have HTD:=veil htd
      clear hD1 htd f1 f2
      have KR:=veil (fun W (hW : Bs W A1 D1) => R.num A1 32 k1 (D1.take 32) W (by rw [List.length_take,HD.out.2.1]; rfl) rfl (bs_take hW 32))
      have KS:=veil (fun W (hW : Bs W A1 D1) => by
       have h:=R.num (cutA A1 32 k1) 32 (k1 - 32) ((D1.drop 32).take 32) W (by rw [List.length_take,List.length_drop,HD.out.2.1]; rfl) rfl (hW.cut 32 (n:=32) (c:=k1) (by rw [HD.out.2.1]; exact Nat.le_refl _) (by rw [HD.out.2.1]; exact hk1))
       rw [HTD.out] at h
       exact h)
      have hk32 : 32 ≤ k1:=by omega
      go_upto_region 5 with (first
       | ((with_reducible refine zas 48 ?_); refine zdc (.slice A1 32 k1) rfl (run_slice_hv rfl rfl rfl (cut_to_b A1 _ k1 32 hk32 _ rfl)) ?_)
       | (go_at_call 59; refine (KR.out _ HD.out.2.2).mono ?_; rintro e w2 ⟨rfl,hE2⟩)
       | ((with_reducible refine zap ?_); refine wpList_store_row rfl 27 _ _ rfl w2.heap.size (nc (valB (D1.take 32))) rfl rfl 27 _ (zar w2 _) (iN _) rfl (zek _) ?_; rw [World.setRow_alloc_new]))
      obtain ⟨g7,hg7⟩ : ∃ g,g = w2.heap.size:=⟨_,rfl⟩
      have hW3 : Ext w1 (w2.alloc (.cells (nc (valB (D1.take 32))) 27)):=hE2.trans (Ext.alloc _ _)
      have hb7 : (w2.alloc (.cells (nc (valB (D1.take 32))) 27)).heap[g7]? = some (.cells (nc (valB (D1.take 32))) 27 (0,0)):=by rw [hg7]; exact zar _ _
      rw [← hg7]
      generalize w2.alloc (.cells (nc (valB (D1.take 32))) 27) = w3 at *
      have c0':=(hW3.cell hb).trans c0
      have c1':=(hW3.cell hb).trans c1
      have d0':=(hW3.cell hb).trans d0
      have d1':=(hW3.cell hb).trans d1
      have hb3:=Nat.lt_of_lt_of_le hb hW3.size
      have HB7:=veil (And.intro hb7 hW3)
      clear c0 c1 d0 d1 hb hg7 hb7 hE2 KR
      go_upto_region 6 with (first
       | ((with_reducible refine zas 54 ?_); refine zdc (.slice (cutA A1 32 k1) 32 (k1 - 32)) rfl (run_slice_lv rfl rfl rfl (cut_from A1 64 k1 32 (by decide) _)) ?_)
       | (go_at_call 59; refine (KS.out _ (HD.out.2.2.ext HB7.out.2)).mono ?_; rintro e w4 ⟨rfl,hE4⟩)
       | ((with_reducible refine zap ?_); refine wpList_store_row rfl 27 _ _ rfl w4.heap.size (nc (valB (D1.drop 32))) rfl rfl 27 _ (zar w4 _) (iN _) rfl (zek _) ?_; rw [World.setRow_alloc_new]))
      obtain ⟨g8,hg8⟩ : ∃ g,g = w4.heap.size:=⟨_,rfl⟩
      have hW5 : Ext w3 (w4.alloc (.cells (nc (valB (D1.drop 32))) 27)):=hE4.trans (Ext.alloc _ _)
      have hb8 : (w4.alloc (.cells (nc (valB (D1.drop 32))) 27)).heap[g8]? = some (.cells (nc (valB (D1.drop 32))) 27 (0,0)):=by rw [hg8]; exact zar _ _
      rw [← hg8]
      generalize w4.alloc (.cells (nc (valB (D1.drop 32))) 27) = w5 at *
      have c0:=(hW5.cell hb3).trans c0'
      have c1:=(hW5.cell hb3).trans c1'
      have hb5:=Nat.lt_of_lt_of_le hb3 hW5.size
      have H5:=veil (And.intro (hW5.block HB7.out.1) (And.intro hb8 (And.intro (hW5.block (HB7.out.2.block H1.out.1)) (And.intro (H1.out.2.trans (HB7.out.2.trans hW5)) (HB7.out.2.trans hW5)))))
      clear c0' c1' d0' d1' hb3 hg8 hb8 hE4 KS HB7 hW5 hW3
      simp only [Act.put]
      refine zfb 8 [(true,[0,1,2,3,4,5,6,7]),(false,[8]),(false,[9])] (by kernel_rfl) (by kernel_rfl) fun Q' hQ' => ?_
      refine' zcj (A:=_) _ rfl (by kernel_rfl) ?_ ?_
      rotate_left
      ·
       intro D hD hN
       have e0:=hD.cell c0
       have e1:=hD.cell c1
       simp only [pickI,consO,List.getElem?_cons_zero,List.getElem?_cons_succ]
       iterate 4 (go_big_quiet_step (fail))
       go_big_quiet_want
       refine zcu (nv (valB (D1.take 32))) (fun x => zbm rfl rfl (hD.block H5.out.1 x) Tryz.underlying27 rfl (iN _)) ?_
       simp only [aP,lA,lZ,lS]
       go_big_quiet_on
       go_big_quiet_want
       refine zcu (nv (valB (D1.drop 32))) (fun x => zbm rfl rfl (hD.block H5.out.2.1 x) Tryz.underlying27 rfl (iN _)) ?_
       simp only [aP,lA,lZ,lS]
       go_big_quiet_on
       go_big_quiet_want
       refine zcu (gv (valB (D1.take 32)) (valB (D1.drop 32))) (fun x => zhs (vs:=[(0,nv (valB (D1.take 32))),(1,nv (valB (D1.drop 32)))]) rfl rfl (bldG x.val _ _)) ?_
       simp only [aP,lA,lZ,lS]
       go_big_quiet_on
       go_big_quiet_step (fail)
       exact zea
      refine sched_store (cells:=gc (valB (D1.take 32)) (valB (D1.drop 32))) _ rfl rfl rfl rfl (by decide) rfl rfl H5.out.2.2.1 (iSg _ _) rfl (zcw _ _) ?_
      intro w6 hB6 hb6
      refine zhb (.bool true) _ rfl rfl rfl rfl rfl ?_
      intro w7 hE7
      simp only [aP,lA,lZ,lS]
      refine zdx hQ' fun w8 hE8 => ?_
      have hr : partsB bs = some (bsF fs 0,valB (D1.take 32),valB (D1.drop 32)):=by
       rw [HX.out.2.2,if_pos ⟨HX.out.2.1.symm,HT.out.1.symm,HT.out.2.1.symm,HT.out.2.2.2.symm⟩,HD.out.1]
       rfl
      have hB0 : Bs w5 A0 (bsF fs 0):=HB.out.2.1.ext H5.out.2.2.2.2
      have hE6 : Ext w w6:=Below.trans H5.out.2.2.2.1 (hB6.new (Nat.le_refl _) (Below.size H5.out.2.2.2.1))
      have hB8:=((hB0.but hB6 (off_z8 hB0 H5.out.2.2.1)).ext hE7).ext hE8
      have hF:=veil (And.intro (((hE7.trans hE8)).block hb6) (And.intro hr (And.intro hB8 (hE6.trans (hE7.trans hE8)))))
      have hL0:=HT.out.2.2.1
      have hk0:=HB.out.1
      rw [← hL0] at hk0
      clear hr hB0 hE6 hB8 hb6 hB6
      go_wp2
      refine bodyPost_ret (zdy rfl _ _ w.heap.size 78 (gc (valB (D1.take 32)) (valB (D1.drop 32))) (0,0) _ rfl hF.out.1 Tryz.underlying78 rfl (iSg _ _)) rfl ⟨_,_,_,rfl,hF.out.2.2.2,.inr ⟨_,_,_,hF.out.2.1,⟨A0,k0,by rw [← hL0]; rfl,by rw [← hL0]; exact hk0,hF.out.2.2.1⟩,rfl,rfl⟩⟩
     ·
      have hr:=HNO.out (fun h => g3 h.2.2)
      have f3 : ((L1 : Int) == 64) = false:=by simp; omega
      have f4 : ¬ ((L1 : Int) = 64):=by omega
      go_wp2_with (first
       | ((with_reducible refine zap ?_); refine wpList_store_row rfl 78 _ _ rfl w.heap.size Z8 rfl rfl 78 _ H1.out.1 iZ8 rfl zfg ?_))
      refine bodyPost_ret (zdy rfl _ _ w.heap.size 78 Z8 (0,0) _ rfl (setRow_heap w1 w.heap.size _ Z8 78 (0,0) H1.out.1) Tryz.underlying78 rfl iZ8) rfl ⟨_,_,_,rfl,zat H1.out.2 (Nat.le_refl _) _,.inl ⟨hr,rfl,z8_gc,rfl⟩⟩
    ·
     have hr:=HNO.out (fun h => g2 h.2.1)
     have f2 : (T1 == 2) = false:=by simp [g2]
     go_wp2_with (first
      | ((with_reducible refine zap ?_); refine wpList_store_row rfl 78 _ _ rfl w.heap.size Z8 rfl rfl 78 _ H1.out.1 iZ8 rfl zfg ?_))
     refine bodyPost_ret (zdy rfl _ _ w.heap.size 78 Z8 (0,0) _ rfl (setRow_heap w1 w.heap.size _ Z8 78 (0,0) H1.out.1) Tryz.underlying78 rfl iZ8) rfl ⟨_,_,_,rfl,zat H1.out.2 (Nat.le_refl _) _,.inl ⟨hr,rfl,z8_gc,rfl⟩⟩
   ·
    have hr:=HNO.out (fun h => g1 h.1)
    have f1 : (T0 == 1) = false:=by simp [g1]
    go_wp2_with (first
     | ((with_reducible refine zap ?_); refine wpList_store_row rfl 78 _ _ rfl w.heap.size Z8 rfl rfl 78 _ H1.out.1 iZ8 rfl zfg ?_))
    refine bodyPost_ret (zdy rfl _ _ w.heap.size 78 Z8 (0,0) _ rfl (setRow_heap w1 w.heap.size _ Z8 78 (0,0) H1.out.1) Tryz.underlying78 rfl iZ8) rfl ⟨_,_,_,rfl,zat H1.out.2 (Nat.le_refl _) _,.inl ⟨hr,rfl,z8_gc,rfl⟩⟩
  ·
   have f0 : ((q : Int) == 2) = false:=by simp; omega
   have f1 : ¬ ((q : Int) = 2):=by omega
   have hr : partsB bs = none:=by
    rw [HX.out.2.2,if_neg]
    intro h
    exact g0 (HX.out.2.1.trans h.1)
   clear HX
   go_wp2_with (first
    | ((with_reducible refine zap ?_); refine wpList_store_row rfl 78 _ _ rfl w.heap.size Z8 rfl rfl 78 _ H1.out.1 iZ8 rfl zfg ?_))
   refine bodyPost_ret (zdy rfl _ _ w.heap.size 78 Z8 (0,0) _ rfl (setRow_heap w1 w.heap.size _ Z8 78 (0,0) H1.out.1) Tryz.underlying78 rfl iZ8) rfl ⟨_,_,_,rfl,zat H1.out.2 (Nat.le_refl _) _,.inl ⟨hr,rfl,z8_gc,rfl⟩⟩
def TZ : Array Value:=#[.int .i64 0,.int .i64 0,.int .i64 0,.int .i64 0,.int .i64 0]
theorem iTZ : (Tryz.prog.info? 47).map (·.size) = some TZ.size:=by kernel_rfl
theorem zci : TZ.all (·.oneCell') = true:=by simp [TZ,Value.oneCell']
theorem tz_tk : TZ = tkC ⟨0,0,0,0,0⟩:=rfl
def OpenA (bs : List Nat) (T G : Array Value) (y : Value) : Prop :=
 (openB bs = none ∧ T = tkC ⟨0,0,0,0,0⟩ ∧ G = gc 0 0 ∧ y = .bool false) ∨ (∃ t r s,openB bs = some (t,r,s) ∧ T = tkC t ∧ G = gc r s ∧ y = .bool true)
theorem zbr {P : Program} {fn : Func} {q p s : Tmp} {ty ty2 : TypeId} (h : fn.results = #[.cell q ty,.cell p ty2,.tmp s]) (tmps : Array Value) (w : World) (g g2 : Nat) (t t2 : TypeId) (cs cs2 : Array Value) (fr fr2 : Nat × Nat) (d d2 : TypeDesc)
  (hq : tmps.getD q undef = .pointer (some ⟨g,0,none⟩)) (hg : w.heap[g]? = some (.cells cs t fr)) (hu : P.underlying ty = some d) (hd : d.isRow = true) (hi : (P.info? ty).map (·.size) = some cs.size)
  (hp : tmps.getD p undef = .pointer (some ⟨g2,0,none⟩)) (hg2 : w.heap[g2]? = some (.cells cs2 t2 fr2)) (hu2 : P.underlying ty2 = some d2) (hd2 : d2.isRow = true) (hi2 : (P.info? ty2).map (·.size) = some cs2.size) :
  (results fn tmps).run P w = .ok (.tuple #[.agg cs,.agg cs2,tmps.getD s undef]) w:=by
 have hq' : tmps[q]?.getD undef = .pointer (some ⟨g,0,none⟩):=by simpa using hq
 have hp' : tmps[p]?.getD undef = .pointer (some ⟨g2,0,none⟩):=by simpa using hp
 have hl : (loadVar ty ⟨g,0,none⟩).run P w = .ok (.agg cs) w:=run_loadVar_mid w g 0 ty cs.toList d (fun j v hv => by rw [cell_of_row w g (0 + j) cs t fr hg,Nat.zero_add]; simpa using hv) hu hd (by simpa using hi)
 have hl2 : (loadVar ty2 ⟨g2,0,none⟩).run P w = .ok (.agg cs2) w:=run_loadVar_mid w g2 0 ty2 cs2.toList d2 (fun j v hv => by rw [cell_of_row w g2 (0 + j) cs2 t2 fr2 hg2,Nat.zero_add]; simpa using hv) hu2 hd2 (by simpa using hi2)
 simp [results,h,hq',hp',asAddr,hl,hl2]
theorem partsA_all {w : World} {bs : List Nat} {x y : Value} {G : Array Value} (hb : Byt bs) (h : PartsA w bs x y G) :
  ∃ r s body A c o,G = gc r s ∧ x = .slice A body.length c ∧ body.length ≤ c ∧ body.length ≤ 65535 ∧ Bs w A body ∧ y = .bool o ∧ ((partsB bs = none ∧ o = false) ∨ (partsB bs = some (body,r,s) ∧ o = true)):=by
 rcases h with ⟨h,rfl,rfl,rfl⟩ | ⟨body,r,s,h,⟨A,c,rfl,hc,hB⟩,rfl,rfl⟩
 ·
  exact ⟨0,0,[],none,0,false,rfl,rfl,Nat.le_refl _,by decide,⟨fun b hb => absurd hb (List.not_mem_nil),Or.inl rfl⟩,rfl,.inl ⟨h,rfl⟩⟩
 ·
  exact ⟨r,s,body,A,c,true,rfl,rfl,hc,(zkk hb h).2.2.1,hB,rfl,.inr ⟨h,rfl⟩⟩
theorem openB_some {bs body : List Nat} {r s : Nat} (h : partsB bs = some (body,r,s)) {l : List Int} (h2 : numbersB body 5 = some l) : openB bs = if mayT (tkOf l) = true then some (tkOf l,r,s) else none:=by
 unfold openB
 rw [h]
 show (match numbersB body 5 with | some l => _ | none => _) = _
 rw [h2]
theorem zhf {bs : List Nat} (h : partsB bs = none) : openB bs = none:=by
 unfold openB
 rw [h]
theorem openB_none2 {bs body : List Nat} {r s : Nat} (h : partsB bs = some (body,r,s)) (h2 : numbersB body 5 = none) : openB bs = none:=by
 unfold openB
 rw [h]
 show (match numbersB body 5 with | some l => _ | none => _) = _
 rw [h2]
theorem zde {W : World} {g g' t : Nat} {cs : Array Value} (T : Array Value) (h : W.heap[g']? = some (.cells cs t (0,0))) (hg : g < g') : (W.setRow g T).heap[g']? = some (.cells cs t (0,0)):=(zbz W T (by omega)).trans h
theorem zcr {w W : World} {g g' t t' : Nat} {T G T0 G0 : Array Value} (hE : Ext w W) (h : W.heap[g]? = some (.cells T0 t (0,0))) (h' : W.heap[g']? = some (.cells G0 t' (0,0))) (hg : w.heap.size ≤ g ∧ g < g') :
  Ext w ((W.setRow g T).setRow g' G) ∧ ((W.setRow g T).setRow g' G).heap[g]? = some (.cells T t (0,0)) ∧ ((W.setRow g T).setRow g' G).heap[g']? = some (.cells G t' (0,0)) :=
 ⟨zat (zat hE hg.1 T) (by omega) G,(zbz _ G (by omega)).trans (setRow_heap W g T0 T t (0,0) h),setRow_heap _ g' G0 G t' (0,0) (zde T h' hg.2)⟩
theorem sched_alloc {P : Program} {Q : Exit → Act → World → Prop} {l : List Oper} {n k d : Nat} {r : Sched} {a : Act} {w : World} {t : TypeId} {C : Array Value} (o : Oper) (ho : l[k]? = some o) (hg : o.guard = none) (hd : o.dst = some d)
  (hb : ∀ W,(execOp a.eval o).run P W = .ok (.value (ptrTo W.heap.size)) (W.alloc (.cells C t)))
  (h : ∀ g W,w.heap.size ≤ g → W.heap[g]? = some (.cells C t (0,0)) → Ext w W → wpSched P l Q n r (a.put (some d) (ptrTo g)) W) : wpSched P l Q n ((false,[k]) :: r) a w:=by
 refine zeh o ho hg fun W hW => ?_
 unfold Oper.wp
 rw [hb W]
 show (k < n → Ext W _) ∧ _
 rw [hd]
 exact ⟨fun _ => Ext.alloc W _,h _ _ (Below.size hW) (zar W _) (hW.trans (Ext.alloc W _))⟩
/-! ### a region that draws its order,order by order -/
section
variable {P : Program} {ops : Array Oper} {Q : Exit → Act → World → Prop} {f j d : Nat} {listed : Array Bool} {a : Act} {w : World}
theorem wp_tree {id : Nat} {l : List Oper} (hm : P.follows .mixedOrders = true) (h : ∀ Q',Hid (Q' = NoPanic Q) → wpG P .any l.toArray Q' 0 l.length (Array.replicate l.length false) a w) : (Code.region id l.toArray true).wp P Q a w:=by
 refine wp_region_noPanic ?_
 refine wp_region_any hm (zgx (n:=0) _ _ _ _ ?_)
 have:=wpG.ext (h _ (veil rfl)) (Ext.drew w)
 simpa using this
abbrev GOne (P : Program) (ops : Array Oper) (Q : Exit → Act → World → Prop) (f : Nat) (listed : Array Bool) (j : Nat) (a : Act) (w : World) : Prop :=
 ∀ W,Ext w W → wpOp P ops Q j (fun a' W' => (j < 0 → Ext W W') ∧ wpG P .any ops Q 0 f (listed.setIfInBounds j true) a' W') a W
theorem G_one (hr : Region.ready .any ops listed = [j]) (h : GOne P ops Q f listed j a w) : wpG P .any ops Q 0 (f + 1) listed a w :=
 ⟨fun h0 => (by rw [hr] at h0; cases h0),fun i hi W hW => by
  rw [hr] at hi
  have e : i = j:=by simpa using hi
  subst e
  exact h W hW⟩
theorem G_two {i : Nat} (hr : Region.ready .any ops listed = [i,j]) (h : GOne P ops Q f listed i a w) (h2 : GOne P ops Q f listed j a w) : wpG P .any ops Q 0 (f + 1) listed a w :=
 ⟨fun h0 => (by rw [hr] at h0; cases h0),fun k hk W hW => by
  rw [hr] at hk
  have e : k = i ∨ k = j:=by simpa using hk
  rcases e with e | e <;> subst e
  ·
   exact h W hW
  ·
   exact h2 W hW⟩
theorem G_end {R : Exit → Act → World → Prop} (hr : Region.ready .any ops listed = []) (hQ : Hid (Q = NoPanic R)) (h : ∀ W,Ext w W → R .normal a W) : wpG P .any ops Q 0 0 listed a w :=
 ⟨hr,fun W hW => by rw [hQ.out]; exact h W hW⟩
theorem G_val {v : Value} (o : Oper) (ho : ops[j]? = some o) (hg : o.guard = none) (hd : o.dst = some d) (hm : ∀ W,Ext w W → (execOp a.eval o).run P W = .ok (.value v) W)
  (h : wpG P .any ops Q 0 f (listed.setIfInBounds j true) (a.put (some d) v) w) : GOne P ops Q f listed j a w:=fun W hW => zbj ho hg (by
 unfold Oper.wp
 rw [hm W hW,Oper.upon_value,hd]
 exact ⟨fun h => absurd h (Nat.not_lt_zero _),h.ext hW⟩)
theorem zds {ty t : TypeId} {x y : Operand} {g : Nat} {cells old : Array Value} (o : Oper) (ho : ops[j]? = some o) (hgd : o.guard = none) (hop : o.op = .store ty x y) (hd : o.dst = none)
  (hx : a.eval x = ptrTo g) (hy : a.eval y = .agg cells) (hb : w.heap[g]? = some (.cells old t (0,0))) (hi : (P.info? ty).map (·.size) = some cells.size) (hold : old.size = cells.size) (h1 : cells.all (·.oneCell') = true)
  (h : ∀ W,But g w W → W.heap[g]? = some (.cells cells t (0,0)) → wpG P .any ops Q 0 f (listed.setIfInBounds j true) a W) : GOne P ops Q f listed j a w:=fun W hW =>
 zbj ho hgd (wp_store_row ty x y hop g cells hx hy t old (hW.block hb) hi hold h1 ⟨fun h => absurd h (Nat.not_lt_zero _),by
  rw [hd]
  exact h _ (zeq (zjf hW) cells) (setRow_heap W g old cells t (0,0) (hW.block hb))⟩)
theorem zgn {w w7 W8 W9 W10 : World} {g2 g3 t t' : Nat} {T G : Array Value} (hE : Ext w w7) (hg : w.heap.size ≤ g2 ∧ g2 < g3) (hB8 : But g2 w7 W8) (h8 : W8.heap[g2]? = some (.cells T t (0,0))) (hB9 : But g3 W8 W9) (h9 : W9.heap[g3]? = some (.cells G t' (0,0))) (hE10 : Ext W9 W10) :
  Ext w W10 ∧ W10.heap[g2]? = some (.cells T t (0,0)) ∧ W10.heap[g3]? = some (.cells G t' (0,0)):=by
 have e8 : Ext w W8:=Below.trans hE (hB8.new hg.1 (Below.size hE))
 have e9 : Ext w W9:=Below.trans e8 (hB9.new (by omega) (Below.size e8))
 exact ⟨e9.trans hE10,hE10.block ((hB9.block g2 (Array.getElem?_eq_some_iff.mp h8).1 (fun e => by injection e with e; omega)).trans h8),hE10.block h9⟩
theorem zgi {w W : World} {g k : Nat} {o : Obj} (hB : But g w W) (h : w.heap[k]? = some o) (hne : k ≠ g) : W.heap[k]? = some o:=(hB.block k (Array.getElem?_eq_some_iff.mp h).1 (fun e => hne (by injection e))).trans h
end
theorem zkn {L : Low} (R : LowR L) (A : Option Addr) (m c : Nat) (bs : List Nat) (hm : m = bs.length) (hmc : m ≤ c) (hle : m ≤ 100000000) (w : World) (hS : Bs w A bs) :
  Calls Tryz.prog 38 #[.slice A m c] w fun e w' => ∃ T G y,e = .returned (.tuple #[.agg T,.agg G,y]) ∧ Ext w w' ∧ OpenA bs T G y:=by
 have KP:=veil (fun W => zjh R A m c bs hm hmc hle W)
 have HB:=veil hS
 clear hm hmc hle hS
 go_enter Tryz.func38,Tryz.ntmps38
 go_upto_region 1 with (fail)
 obtain ⟨g2,hg2⟩ : ∃ g,g = w.heap.size:=⟨_,rfl⟩
 obtain ⟨g3,hg3⟩ : ∃ g,g = w.heap.size + 1:=⟨_,rfl⟩
 obtain ⟨w0,hw0⟩ : ∃ W,W = (w.alloc (.cells TZ 47)).alloc (.cells Z8 78):=⟨_,rfl⟩
 have hE0 : Ext w w0:=by rw [hw0]; exact (Ext.alloc _ _).trans (Ext.alloc _ _)
 have h2 : w0.heap[g2]? = some (.cells TZ 47 (0,0)):=by rw [hw0,hg2]; exact (Ext.alloc _ _).block (zar w _)
 have h3 : w0.heap[g3]? = some (.cells Z8 78 (0,0)):=by
  have h:=zar (w.alloc (.cells TZ 47)) (.cells Z8 78)
  rw [World.size_alloc] at h
  rw [hw0,hg3]
  exact h
 have h23 : w.heap.size ≤ g2 ∧ g2 < g3:=by
  rw [hg2,hg3]
  omega
 have H0:=veil (And.intro hE0 (And.intro h2 (And.intro h3 (And.intro h23 (HB.out.ext hE0)))))
 unfold TZ at hw0
 unfold Z8 at hw0
 rw [← hw0,← hg3,← hg2]
 clear hw0 hg3 hg2 hE0 h2 h3 h23
 go_upto_region 2 with (first
  | (go_at_call 66; refine (KP.out w0 H0.out.2.2.2.2).mono ?_; rintro e w1 ⟨x,G,y,rfl,hE1,hA⟩; obtain ⟨r,s,body,A1,c1,o,rfl,rfl,hc1,hl1,hB1,rfl,hY⟩:=partsA_all HB.out.1 hA)
  | ((with_reducible refine zap ?_); refine wpList_store_row rfl 78 _ _ rfl w1.heap.size (gc r s) rfl rfl 78 _ (zar w1 _) (iSg r s) rfl (zcw r s) ?_; rw [World.setRow_alloc_new]))
 have hE2 : Ext w0 (w1.alloc (.cells (gc r s) 78)):=hE1.trans (Ext.alloc _ _)
 have hB2:=hB1.ext (Ext.alloc w1 (.cells (gc r s) 78))
 obtain ⟨g6,hg6⟩ : ∃ g,g = w1.heap.size:=⟨_,rfl⟩
 have h6 : (w1.alloc (.cells (gc r s) 78)).heap[g6]? = some (.cells (gc r s) 78 (0,0)):=by rw [hg6]; exact zar _ _
 have h36 : g3 < g6:=by
  have h:=(Array.getElem?_eq_some_iff.mp (hE1.block H0.out.2.2.1)).1
  omega
 rw [← hg6]
 generalize w1.alloc (.cells (gc r s) 78) = w2 at *
 have H2:=veil (And.intro (H0.out.1.trans hE2) (And.intro (hE2.block H0.out.2.1) (And.intro (hE2.block H0.out.2.2.1) (And.intro h6 (And.intro H0.out.2.2.2.1.1 (And.intro H0.out.2.2.2.1.2 h36))))))
 have KN : Hid (Calls Tryz.prog 67 #[.slice A1 body.length c1,.int .i64 5] w2 fun e w' => ∃ x y,e = .returned (.tuple #[x,y]) ∧ Ext w2 w' ∧ NumA w' body 5 x y):=veil (rnums8_calls A1 _ c1 body 5 rfl hc1 (by omega) (by decide) w2 hB2)
 have HY:=veil hY
 have HBB:=veil hB2.1
 clear hA hY hE1 hE2 hB1 hB2 hg6 h6 h36 hc1 hl1 H0 KP
 go_upto_region 3 with (go_at_call 67; refine KN.out.mono ?_; rintro e w3 ⟨x,y,rfl,hE3,hA⟩)
 have H3:=veil (And.intro (H2.out.1.trans hE3) (And.intro (hE3.block H2.out.2.1) (And.intro (hE3.block H2.out.2.2.1) (And.intro (hE3.block H2.out.2.2.2.1) H2.out.2.2.2.2))))
 clear hE3 H2 KN
 rcases HY.out with ⟨hp,rfl⟩ | ⟨hp,rfl⟩
 ·
  have hr:=zhf hp
  clear hA HY hp
  go_wp2_with (first
   | ((with_reducible refine zap ?_); refine wpList_store_row rfl 47 _ _ rfl g2 TZ rfl rfl 47 _ H3.out.2.1 iTZ rfl zci ?_)
   | ((with_reducible refine zap ?_); refine wpList_store_row rfl 78 _ _ rfl g3 Z8 rfl rfl 78 _ (zde TZ H3.out.2.2.1 H3.out.2.2.2.2.2.1) iZ8 rfl zfg ?_))
  have hF:=zcr (T:=TZ) (G:=Z8) H3.out.1 H3.out.2.1 H3.out.2.2.1 ⟨H3.out.2.2.2.2.1,H3.out.2.2.2.2.2.1⟩
  refine bodyPost_ret (zbr rfl _ _ g2 g3 47 78 TZ Z8 (0,0) (0,0) _ _ rfl hF.2.1 Tryz.underlying47 rfl iTZ rfl hF.2.2 Tryz.underlying78 rfl iZ8) rfl ⟨_,_,_,rfl,hF.1,.inl ⟨hr,tz_tk,z8_gc,rfl⟩⟩
 ·
  rcases hA with ⟨hn,rfl,rfl⟩ | ⟨l,hn,hI,rfl⟩
  ·
   have hr:=openB_none2 hp hn
   clear HY hp hn
   go_upto_region 4 with (fail)
   go_wp2_with (first
    | ((with_reducible refine zap ?_); refine wpList_store_row rfl 47 _ _ rfl g2 TZ rfl rfl 47 _ H3.out.2.1 iTZ rfl zci ?_)
    | ((with_reducible refine zap ?_); refine wpList_store_row rfl 78 _ _ rfl g3 Z8 rfl rfl 78 _ (zde TZ H3.out.2.2.1 H3.out.2.2.2.2.2.1) iZ8 rfl zfg ?_))
   have hF:=zcr (T:=TZ) (G:=Z8) H3.out.1 H3.out.2.1 H3.out.2.2.1 ⟨H3.out.2.2.2.2.1,H3.out.2.2.2.2.2.1⟩
   refine bodyPost_ret (zbr rfl _ _ g2 g3 47 78 TZ Z8 (0,0) (0,0) _ _ rfl hF.2.1 Tryz.underlying47 rfl iTZ rfl hF.2.2 Tryz.underlying78 rfl iZ8) rfl ⟨_,_,_,rfl,hF.1,.inl ⟨hr,tz_tk,z8_gc,rfl⟩⟩
  ·
   have hr:=openB_some hp hn
   have h5:=(zma HBB.out hn).1
   clear HY hp hn
   match l,h5,hI,hr with
   | [t0,t1,t2,t3,t4],_,hI,hr =>
    obtain ⟨A2,c2,rfl,hc2,hx⟩:=hI
    obtain ⟨b2,o2,hA2,hb2,hcl⟩:=hx.resolve_left (by simp)
    have d0 : w3.cell? ⟨b2,o2,none⟩ = some (.int .i64 t0):=hcl 0 (by simp)
    have d1 : w3.cell? ⟨b2,o2 + 1,none⟩ = some (.int .i64 t1):=hcl 1 (by simp)
    have d2 : w3.cell? ⟨b2,o2 + 2,none⟩ = some (.int .i64 t2):=hcl 2 (by simp)
    have d3 : w3.cell? ⟨b2,o2 + 3,none⟩ = some (.int .i64 t3):=hcl 3 (by simp)
    have d4 : w3.cell? ⟨b2,o2 + 4,none⟩ = some (.int .i64 t4):=hcl 4 (by simp)
    have HR:=veil (show openB bs = if mayT ⟨t0,t1,t2,t3,t4⟩ = true then some (⟨t0,t1,t2,t3,t4⟩,r,s) else none from hr)
    have hc2' : 5 ≤ c2:=hc2
    subst hA2
    clear hx hcl hr hc2
    rw [show ([t0,t1,t2,t3,t4] : List Int).length = 5 from rfl]
    go_upto_region 5 with (fail)
    try simp only [Act.put]
    refine zfb 17 [(true,[0,1,2,3,4,5,6,7,8,9,10,11,12,13,14,15]),(false,[16]),(false,[17])] (by kernel_rfl) (by kernel_rfl) fun Q' hQ' => ?_
    refine' zcj (A:=_) _ rfl (by kernel_rfl) ?_ ?_
    rotate_left
    ·
     intro D hD hN
     have e0:=hD.cell d0
     have e1:=hD.cell d1
     have e2:=hD.cell d2
     have e3:=hD.cell d3
     have e4:=hD.cell d4
     simp only [pickI,consO,List.getElem?_cons_zero,List.getElem?_cons_succ]
     iterate 15 (go_big_quiet_step (fail))
     go_big_quiet_step (fail)
     exact zea
    refine sched_alloc (C:=TZ) (t:=47) _ rfl rfl rfl (fun _ => rfl) ?_
    intro g10 w4 hg10 hb10 hE4
    simp only [aP,lA,lZ,lS]
    obtain ⟨T,hT⟩ : ∃ T,T = tkC ⟨t0,t1,t2,t3,t4⟩:=⟨_,rfl⟩
    have HT:=veil (And.intro hT (And.intro (show (Tryz.prog.info? 47).map (·.size) = some T.size by rw [hT]; exact iTk _) (And.intro (show TZ.size = T.size by rw [hT]; rfl) (show T.all (·.oneCell') = true by rw [hT]; exact zbw _))))
    have KM:=veil (fun W => rmay9_calls ⟨t0,t1,t2,t3,t4⟩ W)
    unfold tkV at KM
    rw [← hT] at KM
    unfold tkC at hT
    rw [← hT]
    clear hT
    refine sched_store (cells:=T) _ rfl rfl rfl rfl (by decide) rfl rfl hb10 HT.out.2.1 HT.out.2.2.1 HT.out.2.2.2 ?_
    intro w5 hB5 hb5
    refine zdx hQ' fun w6 hE6 => ?_
    have hE35 : Ext w3 w5:=Below.trans hE4 (hB5.new hg10 (Below.size hE4))
    have hE3:=hE35.trans hE6
    have hlt : g6 < g10:=by
     have h:=(Array.getElem?_eq_some_iff.mp H3.out.2.2.2.1).1
     omega
    have H6:=veil (And.intro (H3.out.1.trans hE3) (And.intro (hE3.block H3.out.2.1) (And.intro (hE3.block H3.out.2.2.1) (And.intro (hE3.block H3.out.2.2.2.1) (And.intro (hE6.block hb5) H3.out.2.2.2.2)))))
    clear hE3 hE35 hE4 hB5 hE6 hb5 hb10 hg10 hlt d0 d1 d2 d3 d4 hb2 H3
    go_upto_region 7 with (first
     | ((with_reducible refine zas 47 ?_); refine wpList_load_row rfl 47 _ rfl g10 rfl 47 T (0,0) _ H6.out.2.2.2.2.1 Tryz.underlying47 rfl HT.out.2.1 ?_)
     | (go_at_call 68; refine (KM.out _).mono ?_; rintro e w7 ⟨rfl,hE7⟩))
    have H7:=veil (And.intro (H6.out.1.trans hE7) (And.intro (hE7.block H6.out.2.1) (And.intro (hE7.block H6.out.2.2.1) (And.intro (hE7.block H6.out.2.2.2.1) (And.intro (hE7.block H6.out.2.2.2.2.1) H6.out.2.2.2.2.2)))))
    clear hE7 H6 KM
    cases hm : mayT ⟨t0,t1,t2,t3,t4⟩ with
    | false =>
     have hr : openB bs = none:=by rw [HR.out,hm]; rfl
     clear hm HR
     go_wp2_with (first
      | ((with_reducible refine zap ?_); refine wpList_store_row rfl 47 _ _ rfl g2 TZ rfl rfl 47 _ H7.out.2.1 iTZ rfl zci ?_)
      | ((with_reducible refine zap ?_); refine wpList_store_row rfl 78 _ _ rfl g3 Z8 rfl rfl 78 _ (zde TZ H7.out.2.2.1 H7.out.2.2.2.2.2.2.1) iZ8 rfl zfg ?_))
     have hF:=zcr (T:=TZ) (G:=Z8) H7.out.1 H7.out.2.1 H7.out.2.2.1 ⟨H7.out.2.2.2.2.2.1,H7.out.2.2.2.2.2.2.1⟩
     refine bodyPost_ret (zbr rfl _ _ g2 g3 47 78 TZ Z8 (0,0) (0,0) _ _ rfl hF.2.1 Tryz.underlying47 rfl iTZ rfl hF.2.2 Tryz.underlying78 rfl iZ8) rfl ⟨_,_,_,rfl,hF.1,.inl ⟨hr,tz_tk,z8_gc,rfl⟩⟩
    | true =>
     have hr : openB bs = some (⟨t0,t1,t2,t3,t4⟩,r,s):=by rw [HR.out,hm]; rfl
     have HR:=veil hr
     clear hm hr
     go_upto_region 9 with (fail)
     have n26 : g6 ≠ g2:=by have h:=H7.out.2.2.2.2.2.2; omega
     have n32 : g3 ≠ g2:=by have h:=H7.out.2.2.2.2.2.2; omega
     refine wp_tree (by kernel_rfl) fun Q' hQ' => ?_
     refine G_two (i:=0) (j:=1) (by kernel_rfl) ?_ ?_
     ·
      refine G_val _ rfl rfl rfl (fun W hW => zbm rfl rfl (hW.block H7.out.2.2.2.2.1) Tryz.underlying47 rfl HT.out.2.1) ?_
      simp only [aP,lA,lZ,lS]
      refine G_two (i:=1) (j:=2) (by kernel_rfl) ?_ ?_
      ·
       refine G_val _ rfl rfl rfl (fun W hW => zbm rfl rfl (hW.block (H7.out.2.2.2.1)) Tryz.underlying78 rfl (iSg r s)) ?_
       simp only [aP,lA,lZ,lS]
       refine G_one (j:=2) (by kernel_rfl) ?_
       refine zds (cells:=T) _ rfl rfl rfl rfl rfl rfl H7.out.2.1 HT.out.2.1 HT.out.2.2.1 HT.out.2.2.2 ?_
       intro W8 hB8 h8
       refine G_one (j:=3) (by kernel_rfl) ?_
       refine zds (cells:=gc r s) _ rfl rfl rfl rfl rfl rfl (zgi hB8 H7.out.2.2.1 n32) (iSg r s) rfl (zcw r s) ?_
       intro W9 hB9 h9
       refine G_one (j:=4) (by kernel_rfl) ?_
       refine G_val _ rfl rfl rfl (fun W hW => zcp rfl rfl W) ?_
       simp only [aP,lA,lZ,lS]
       refine G_end (by kernel_rfl) hQ' fun W10 hE10 => ?_
       have hF:=zgn H7.out.1 ⟨H7.out.2.2.2.2.2.1,H7.out.2.2.2.2.2.2.1⟩ hB8 h8 hB9 h9 hE10
       clear hB8 h8 hB9 h9 hE10 n26 n32
       go_wp2
       refine bodyPost_ret (zbr rfl _ _ g2 g3 47 78 T (gc r s) (0,0) (0,0) _ _ rfl hF.2.1 Tryz.underlying47 rfl HT.out.2.1 rfl hF.2.2 Tryz.underlying78 rfl (iSg r s)) rfl ⟨_,_,_,rfl,hF.1,.inr ⟨_,_,_,HR.out,HT.out.1,rfl,rfl⟩⟩
      ·
       refine zds (cells:=T) _ rfl rfl rfl rfl rfl rfl H7.out.2.1 HT.out.2.1 HT.out.2.2.1 HT.out.2.2.2 ?_
       intro W8 hB8 h8
       refine G_one (j:=1) (by kernel_rfl) ?_
       refine G_val _ rfl rfl rfl (fun W hW => zbm rfl rfl (hW.block (zgi hB8 H7.out.2.2.2.1 n26)) Tryz.underlying78 rfl (iSg r s)) ?_
       simp only [aP,lA,lZ,lS]
       refine G_one (j:=3) (by kernel_rfl) ?_
       refine zds (cells:=gc r s) _ rfl rfl rfl rfl rfl rfl (zgi hB8 H7.out.2.2.1 n32) (iSg r s) rfl (zcw r s) ?_
       intro W9 hB9 h9
       refine G_one (j:=4) (by kernel_rfl) ?_
       refine G_val _ rfl rfl rfl (fun W hW => zcp rfl rfl W) ?_
       simp only [aP,lA,lZ,lS]
       refine G_end (by kernel_rfl) hQ' fun W10 hE10 => ?_
       have hF:=zgn H7.out.1 ⟨H7.out.2.2.2.2.2.1,H7.out.2.2.2.2.2.2.1⟩ hB8 h8 hB9 h9 hE10
       clear hB8 h8 hB9 h9 hE10 n26 n32
       go_wp2
       refine bodyPost_ret (zbr rfl _ _ g2 g3 47 78 T (gc r s) (0,0) (0,0) _ _ rfl hF.2.1 Tryz.underlying47 rfl HT.out.2.1 rfl hF.2.2 Tryz.underlying78 rfl (iSg r s)) rfl ⟨_,_,_,rfl,hF.1,.inr ⟨_,_,_,HR.out,HT.out.1,rfl,rfl⟩⟩
     ·
      refine G_val _ rfl rfl rfl (fun W hW => zbm rfl rfl (hW.block (H7.out.2.2.2.1)) Tryz.underlying78 rfl (iSg r s)) ?_
      simp only [aP,lA,lZ,lS]
      refine G_one (j:=0) (by kernel_rfl) ?_
      refine G_val _ rfl rfl rfl (fun W hW => zbm rfl rfl (hW.block H7.out.2.2.2.2.1) Tryz.underlying47 rfl HT.out.2.1) ?_
      simp only [aP,lA,lZ,lS]
      refine G_one (j:=2) (by kernel_rfl) ?_
      refine zds (cells:=T) _ rfl rfl rfl rfl rfl rfl H7.out.2.1 HT.out.2.1 HT.out.2.2.1 HT.out.2.2.2 ?_
      intro W8 hB8 h8
      refine G_one (j:=3) (by kernel_rfl) ?_
      refine zds (cells:=gc r s) _ rfl rfl rfl rfl rfl rfl (zgi hB8 H7.out.2.2.1 n32) (iSg r s) rfl (zcw r s) ?_
      intro W9 hB9 h9
      refine G_one (j:=4) (by kernel_rfl) ?_
      refine G_val _ rfl rfl rfl (fun W hW => zcp rfl rfl W) ?_
      simp only [aP,lA,lZ,lS]
      refine G_end (by kernel_rfl) hQ' fun W10 hE10 => ?_
      have hF:=zgn H7.out.1 ⟨H7.out.2.2.2.2.2.1,H7.out.2.2.2.2.2.2.1⟩ hB8 h8 hB9 h9 hE10
      clear hB8 h8 hB9 h9 hE10 n26 n32
      go_wp2
      refine bodyPost_ret (zbr rfl _ _ g2 g3 47 78 T (gc r s) (0,0) (0,0) _ _ rfl hF.2.1 Tryz.underlying47 rfl HT.out.2.1 rfl hF.2.2 Tryz.underlying78 rfl (iSg r s)) rfl ⟨_,_,_,rfl,hF.1,.inr ⟨_,_,_,HR.out,HT.out.1,rfl,rfl⟩⟩
theorem eqCodes (k i : Int) (w : World) : (binOp .eql 35 (.iface 39 (.int .i64 k)) (.iface 39 (.int .i64 i))).run Tryz.prog w = .ok (.bool (k == i)) w:=by kernel_rfl
theorem eqCodeNil (k : Int) (w : World) : (binOp .eql 35 (.iface 39 (.int .i64 k)) .nilIface).run Tryz.prog w = .ok (.bool false) w:=by kernel_rfl
theorem eqNilNil (w : World) : (binOp .eql 35 .nilIface .nilIface).run Tryz.prog w = .ok (.bool true) w:=by kernel_rfl
def errV (k : Nat) : Value:=if k = 0 then .nilIface else .iface 39 (.int .i64 (k : Int))
theorem code0_nil (w : World) : Calls Tryz.prog 19 #[.nilIface] w fun e w' => e = .returned (.int .i64 0) ∧ Ext w w':=by
 go_enter Tryz.func19,Tryz.ntmps19
 have h:=eqNilNil
 go_wp2
 go_ret
 exact ⟨rfl,Ext.refl _⟩
theorem code0_some (k : Nat) (h1 : 1 ≤ k) (h9 : k ≤ 9) (w : World) : Calls Tryz.prog 19 #[.iface 39 (.int .i64 (k : Int))] w fun e w' => e = .returned (.int .i64 (k : Int)) ∧ Ext w w':=by
 have H:=veil (And.intro h1 h9)
 clear h1 h9
 have hn:=eqCodeNil (k : Int)
 go_enter Tryz.func19,Tryz.ntmps19
 go_upto_region 4 with (fail)
 clear hn
 go_loopw [3] (fun u wr => ∃ i : Nat,1 ≤ i ∧ i ≤ k ∧ u = .int .i64 (i : Int) ∧ Ext w wr)
  (fun v _ => k - (intOf v).toNat)
 case atStart => exact ⟨1,by omega,H.out.1,rfl,Ext.refl _⟩
 case round =>
  obtain ⟨i,hi1,hi,rfl,hE⟩:=hrel
  have hk9:=H.out.2
  have hd1 : decide ((i : Int) ≤ 9) = true:=by simp; omega
  have hii : (i : Int) ≤ 9:=by omega
  by_cases hlt : i < k
  ·
   have he : ((k : Int) == (i : Int)) = false:=by simp; omega
   have hc:=fun W => (eqCodes (k : Int) (i : Int) W).trans (by rw [he])
   go_wp2
   go_roundw
   case rel => exact ⟨i + 1,by omega,by omega,by go_num,hE⟩
   case measure => simp [intOf]; omega
  ·
   obtain rfl : i = k:=by omega
   have he : ((i : Int) == (i : Int)) = true:=by simp
   have hc:=fun W => (eqCodes (i : Int) (i : Int) W).trans (by rw [he])
   go_wp2
   go_ret
   exact ⟨rfl,hE⟩
theorem code0 (k : Nat) (h9 : k ≤ 9) (w : World) : Calls Tryz.prog 19 #[errV k] w fun e w' => e = .returned (.int .i64 (k : Int)) ∧ Ext w w':=by
 unfold errV
 by_cases h : k = 0
 ·
  rw [if_pos h,h]
  exact code0_nil w
 ·
  rw [if_neg h]
  exact code0_some k (by omega) h9 w
end Go.Proofs.YthlbemnbmbmjhaaGreatDoor
