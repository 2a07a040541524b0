/-
  Of K1 K2 T6 T8 TA K3 K4 Gv K5 K6 K7 K8.
-/
import Derived.Laws.IdiomStrings
import Derived.Great.BuildSlice
import Derived.Lib.SmallJoins
import Derived.Test.YtbfkecfcolcclaaGreatDoorZB1
import Derived.Test.YtbfkecfcolcclaaGreatDoorZB5
import Derived.Test.YtbfkecfcolcclaaGreatDoorZB4
import Derived.Test.YtbfkecfcolcclaaGreatDoorZB3
set_option maxRecDepth 1000000
set_option maxHeartbeats 20000000
namespace Go.Proofs.YtbfkecfcolcclaaGreatDoor
structure Tk where
 s : Int
 p : Int
 z : Int
 f : Int
 k : Int
def Tk.list (t : Tk) : List Int:=[t.s,t.p,t.z,t.f,t.k]
def tkOf (l : List Int) : Tk:=⟨l.getD 0 0,l.getD 1 0,l.getD 2 0,l.getD 3 0,l.getD 4 0⟩
theorem list_tkOf {l : List Int} (h : l.length = 5) : (tkOf l).list = l:=by
 match l,h with
 | [a,b,c,d,e],_ => rfl
def mayT (t : Tk) : Bool:=decide (1 ≤ t.s ∧ t.s ≤ 2147483647 ∧ 1 ≤ t.p ∧ t.p ≤ 16 ∧ 1 ≤ t.z ∧ t.z ≤ 255 ∧ 0 ≤ t.f ∧ t.f ≤ 1073741824 ∧ 1 ≤ t.k ∧ t.k ≤ 2147483647)
def tkB (t : Tk) : List Nat:=bodyB t.list
theorem mayT_each {t : Tk} (h : mayT t = true) : ∀ n ∈ t.list,0 ≤ n ∧ n ≤ 9223372036854775807:=by
 have h:=of_decide_eq_true h
 intro n hn
 simp only [Tk.list,List.mem_cons,List.not_mem_nil,or_false] at hn
 rcases hn with rfl | rfl | rfl | rfl | rfl <;> omega
theorem tkB_length (t : Tk) : (tkB t).length = 55:=by
 unfold tkB bodyB Tk.list numFs numFs numFs numFs numFs numFs encF encF encF encF encF encF
 simp only [List.length_append,zha,zbp,List.length_nil]
def signedB (body : List Nat) (r s : Nat) : List Nat:=encF [(1,body),(2,sigB r s)]
def twoOk (fs : List Fd) : Prop:=fs.length = 2 ∧ tgF fs 0 = 1 ∧ tgF fs 1 = 2 ∧ (bsF fs 1).length = 64
instance (fs : List Fd) : Decidable (twoOk fs):=by unfold twoOk; exact inferInstance
def partsB (bs : List Nat) : Option (List Nat × Nat × Nat):=match getFs bs with
 | some fs => if twoOk fs then some (bsF fs 0,sigR (bsF fs 1),sigS (bsF fs 1)) else none
 | none => none
theorem zji {bs body : List Nat} {r s : Nat} (hb : Byt bs) (h : partsB bs = some (body,r,s)) : signedB body r s = bs ∧ Byt body ∧ body.length ≤ 65535 ∧ r < 256 ^ 32 ∧ s < 256 ^ 32:=by
 unfold partsB at h
 cases hg : getFs bs with
 | none => rw [hg] at h; cases h
 | some fs =>
  rw [hg] at h
  simp only at h
  split at h
  ·
   rename_i hok
   injection h with h
   injection h with h1 h
   injection h with h2 h3
   obtain ⟨hl,t0,t1,h64⟩:=hok
   have hB:=get_byt hb hg
   match fs,hl with
   | [(a,x),(c,y)],_ =>
    have hx : Byt x:=hB (a,x) (by simp)
    have hy : Byt y:=hB (c,y) (by simp)
    have e0 : a = 1:=t0
    have e1 : c = 2:=t1
    have e2 : y.length = 64:=h64
    have m0:=mayFs_each (zjt hg).2 (a,x) (by simp)
    subst e0 e1
    have g1 : x = body:=h1
    have g2 : sigR y = r:=h2
    have g3 : sigS y = s:=h3
    subst g1 g2 g3
    refine ⟨?_,hx,m0.2.2,?_,?_⟩
    ·
     unfold signedB
     rw [sig_fore hy e2]
     exact enc_get hb hg
    ·
     have:=zgh (hy.take 32)
     rw [List.length_take,e2] at this
     exact this
    ·
     have:=zgh (hy.drop 32)
     rw [List.length_drop,e2] at this
     exact this
  ·
   cases h
def openB (bs : List Nat) : Option (Tk × Nat × Nat):=match partsB bs with
 | some (body,r,s) => match numbersB body 5 with
  | some l => if mayT (tkOf l) = true then some (tkOf l,r,s) else none
  | none => none
 | none => none
theorem zgi {bs : List Nat} {t : Tk} {r s : Nat} (hb : Byt bs) (h : openB bs = some (t,r,s)) : signedB (tkB t) r s = bs ∧ mayT t = true ∧ partsB bs = some (tkB t,r,s) ∧ r < 256 ^ 32 ∧ s < 256 ^ 32:=by
 unfold openB at h
 cases hp : partsB bs with
 | none => rw [hp] at h; cases h
 | some x =>
  obtain ⟨body,r',s'⟩:=x
  rw [hp] at h
  simp only at h
  obtain ⟨g1,g2,g3,g4,g5⟩:=zji hb hp
  cases hn : numbersB body 5 with
  | none => rw [hn] at h; cases h
  | some l =>
   rw [hn] at h
   simp only at h
   split at h
   ·
    rename_i hm
    injection h with h
    injection h with h1 h
    injection h with h2 h3
    subst h1 h2 h3
    obtain ⟨k1,k2⟩:=zkb g2 hn
    have e : tkB (tkOf l) = body:=by unfold tkB; rw [list_tkOf k1]; exact k2
    rw [e]
    exact ⟨g1,hm,rfl,g4,g5⟩
   ·
    cases h
end Go.Proofs.YtbfkecfcolcclaaGreatDoor
namespace Go.Proofs.YtbfkecfcolcclaaGreatDoor
open Go.RowKit
open Go.Value renaming int → vI
open Go.IntKind renaming u64 → vU
open Go.Act renaming put → aP
open List renaming setIfInBounds_toArray → lA, set_cons_zero → lZ, set_cons_succ → lS
def Is (w : World) (v : Value) (l : List Int) : Prop:=∃ A c,v = .slice A l.length c ∧ l.length ≤ c ∧ (l.length = 0 ∨ ∃ b o,A = some ⟨b,o,none⟩ ∧ b < w.heap.size ∧ ∀ i,i < l.length → w.cell? ⟨b,o + i,none⟩ = some (.int .i64 (l.getD i 0)))
theorem Is.ext {w w' : World} {v : Value} {l : List Int} (h : Is w v l) (k : Ext w w') : Is w' v l:=by
 obtain ⟨A,c,e,hc,h⟩:=h
 exact ⟨A,c,e,hc,h.imp id fun ⟨b,o,e,hb,hx⟩ => ⟨b,o,e,Nat.lt_of_lt_of_le hb k.size,fun i hi => (k.cell hb).trans (hx i hi)⟩⟩
section
variable {Q : Exit → Act → World → Prop} {ops : Array Oper} {rest : List Oper} {a : Act} {w : World} {o : Oper}
end
theorem zbu {bs : List Nat} : getFs bs = match parse bs with | some fs => if mayFs fs = true then some fs else none | none => none:=by
 unfold getFs
 cases parse bs with
 | none => rfl
 | some fs => cases h : mayFs fs <;> simp [Option.filter,h]
theorem rget8_calls (A : Option Addr) (m c : Nat) (bs : List Nat) (hm : m = bs.length) (hmc : m ≤ c) (hle : m ≤ 100000000) (w : World) (hS : Bs w A bs) :
  Calls Tryz.prog 121 #[.slice A m c] w fun e w' => Ext w w' ∧ ((getFs bs = none ∧ e = .returned (.tuple #[.slice none 0 0,.bool false])) ∨ (∃ fs v,getFs bs = some fs ∧ Fl w' v fs ∧ e = .returned (.tuple #[v,.bool true]))):=by
 have HS:=veil hS
 have HM:=veil hm
 clear hS hm
 go_enter Tryz.func121,Tryz.ntmps121
 go_wp2
 go_loopw [4,5,6] (fun v u _ wr => ∃ (p : Nat) (fs : List Fd),p ≤ m ∧ u = .int .i64 (p : Int) ∧ OwnFs wr w.heap.size v fs ∧ fs.length ≤ p ∧ parse bs = (parse (bs.drop p)).map (fs ++ ·) ∧ Ext w wr)
  (fun _ v _ _ => m - (intOf v).toNat)
 case atStart => exact ⟨0,[],by omega,rfl,OwnFs.nil _ _,by simp,by simp,Ext.refl _⟩
 case round =>
  obtain ⟨p,fs,hp,rfl,hO,hfl,hpar,hE⟩:=hrel
  by_cases hlt : p < m
  ·
   have hd1 : decide ((p : Int) < (m : Int)) = true:=by simp; omega
   have hii : (p : Int) < (m : Int):=by omega
   by_cases h3 : m < p + 3
   ·
    have hd2 : decide ((m : Int) < (p : Int) + 3) = true:=by simp; omega
    have hn : getFs bs = none:=by
     rw [zbu,hpar,parse_short (by have:=HM.out; omega) (by have:=HM.out; omega)]
     rfl
    clear hpar hO
    go_wp2
    go_ret2
    exact ⟨hE,.inl ⟨hn,rfl⟩⟩
   ·
    have hd2 : decide ((m : Int) < (p : Int) + 3) = false:=by simp; omega
    have hb:=HS.out.ext hE
    obtain ⟨b,o,hA,hbl,c1⟩:=hb.cell (j:=p + 1) (by have:=HM.out; omega)
    obtain ⟨b',o',hA',_,c2⟩:=hb.cell (j:=p + 2) (by have:=HM.out; omega)
    obtain ⟨b'',o'',hA'',_,c0⟩:=hb.cell (j:=p) (by have:=HM.out; omega)
    obtain ⟨e1,e2⟩ : b' = b ∧ o' = o:=by rw [hA] at hA'; injection hA' with h; injection h with h1 h2; exact ⟨h1.symm,h2.symm⟩
    obtain ⟨e3,e4⟩ : b'' = b ∧ o'' = o:=by rw [hA] at hA''; injection hA'' with h; injection h with h1 h2; exact ⟨h1.symm,h2.symm⟩
    subst e1 e2 e3 e4
    have l1:=HS.out.1.getD (p + 1)
    have l2:=HS.out.1.getD (p + 2)
    have l0:=HS.out.1.getD p
    obtain ⟨X,hX⟩ : ∃ X,X = bs.getD (p + 1) 0:=⟨_,rfl⟩
    obtain ⟨Y,hY⟩ : ∃ Y,Y = bs.getD (p + 2) 0:=⟨_,rfl⟩
    obtain ⟨T,hT⟩ : ∃ T,T = bs.getD p 0:=⟨_,rfl⟩
    rw [← hX] at c1 l1
    rw [← hY] at c2 l2
    rw [← hT] at c0 l0
    have HXY:=veil (And.intro hX (And.intro hY hT))
    have k1 : (X : Int) ≤ 255:=by omega
    have k2 : (Y : Int) ≤ 255:=by omega
    have k0 : (T : Int) ≤ 255:=by omega
    have i1 : (p : Int) + 1 < (m : Int):=by omega
    have i2 : (p : Int) + 2 < (m : Int):=by omega
    have HO:=veil (And.intro hO (And.intro hfl hpar))
    have HB:=veil hb
    clear hX hY hT l1 l2 l0 hA' hA'' hO hfl hpar hb
    subst hA
    go_wp2_with fail
    go_quiet (fail)
    obtain ⟨N,hN⟩ : ∃ N,N = 256 * X + Y:=⟨_,rfl⟩
    have hNi : (256 * (X : Int) + (Y : Int)) = (N : Int):=by omega
    have hN2 : N ≤ 65535:=by omega
    have HN:=veil hN
    rw [hNi]
    clear hN hNi c1 c2 k1 k2 i1 i2
    generalize hwr : wr.drewN nq = wr1 at *
    have hE1 : Ext wr wr1:=by rw [← hwr]; exact Ext.drewK _ _
    have hc0 : wr1.cell? ⟨b'',o'' + p,none⟩ = some (.int .u8 T):=(hE1.cell hbl).trans c0
    have hEE:=hE.trans hE1
    have HO1:=veil (And.intro (HO.out.1.keep hE1) (HB.out.ext hE1))
    clear hwr c0
    by_cases h4 : m < p + 3 + N
    ·
     have hd3 : decide ((m : Int) < (p : Int) + 3 + (N : Int)) = true:=by simp; omega
     have hn : getFs bs = none:=by
      rw [zbu,HO.out.2.2,parse_long (n:=N) (by have:=HM.out; omega) (by rw [HN.out,HXY.out.1,HXY.out.2.1]) (by have:=HM.out; omega)]
      rfl
     go_wp2
     go_ret2
     exact ⟨hEE,.inl ⟨hn,rfl⟩⟩
    ·
     have hd3 : decide ((m : Int) < (p : Int) + 3 + (N : Int)) = false:=by simp; omega
     have hst:=parse_more (n:=N) (by have:=HM.out; omega) (by rw [HN.out,HXY.out.1,HXY.out.2.1]) (by have:=HM.out; omega : p + 3 + N ≤ bs.length)
     have HST:=veil hst
     clear hst
     go_upto_region 9 with (fail)
     refine zds 18 [(true,[0,1,2,3,4,5,7,8,9,10,11,12,13,14]),(false,[6]),(false,[15]),(true,[16]),(false,[17]),(false,[18]),(false,[19])] (by kernel_rfl) (by kernel_rfl) fun Q' hQ' => ?_
     refine' zbs (A:=_) _ rfl (by kernel_rfl) ?h1 ?h2
     case h1 =>
      intro D hD hN
      have d0:=hD.cell hc0
      simp only [pickI,consO,List.getElem?_cons_zero,List.getElem?_cons_succ]
      iterate 13 (go_big_quiet_step (fail))
      go_big_quiet_want
      refine zch (.slice (cutA (some ⟨b'',o'',none⟩) (p + 3) c) N (c - (p + 3))) (fun x => run_slice_v rfl rfl rfl rfl (cut_mid _ _ _ _ _ (by omega) _ (by omega) (by omega))) ?_
      simp only [aP,lA,lZ,lS]
      go_big_quiet_on
      exact zcx
     refine zet (vs:=[]) (C:=#[]) (e:=5) _ rfl rfl rfl rfl rfl (fun W => by simp [Instr.buildSlice,go_sem]) ?_
     intro g W hg hgb hEW
     simp only [aP,lA,lZ,lS]
     have hBc:=(HO1.out.2.cut (p + 3) (n:=N) (c:=c) (by have:=HM.out; omega) (by have:=HM.out; omega)).ext hEW
     have hl : N = ((bs.drop (p + 3)).take N).length:=by rw [List.length_take,List.length_drop]; have:=HM.out; omega
     refine sched_append0 _ rfl rfl rfl rfl rfl rfl hgb hBc hl (by omega) ?_
     intro A' c' W2 hE2 hc' hB' hF'
     simp only [aP,lA,lZ,lS]
     have HB2:=veil (And.intro hB' (And.intro hF' hl))
     have hEW2:=hEW.trans hE2
     have hsz:=Below.size hEW
     clear hB' hF' hl hBc hgb hg hE2 hEW
     refine' zbs (A:=_) _ rfl (by kernel_rfl) ?k1 ?k2
     case k1 =>
      intro D hD hN
      simp only [pickI,consO,List.getElem?_cons_zero,List.getElem?_cons_succ]
      repeat (go_big_quiet_step (fail))
      exact zcx
     refine zet (vs:=[(0,.agg #[.int .i64 (T : Int),.slice A' N c'])]) (C:=#[.int .i64 (T : Int),.slice A' N c']) (e:=135) _ rfl rfl rfl rfl rfl (fun W => by simp [Instr.buildSlice,go_sem]) ?_
     intro g2 W3 hg2 hgb2 hE3
     simp only [aP,lA,lZ,lS]
     have hEW3:=hEW2.trans hE3
     have hown3:=HO1.out.1.keep hEW3
     have hoff : Off A' ((bs.drop (p + 3)).take N) (Value.ownBlock u4):=HB2.out.2.1.off fun k hk => Nat.lt_of_lt_of_le (HO1.out.1.lt hk).2 hsz
     have hBn:=HB2.out.1.ext hE3
     have hbase:=Nat.le_trans (Below.size hEE) (Below.size hEW3)
     have hNl:=HB2.out.2.2
     have hfl : fs.length ≤ 1000000000:=by have:=HO.out.2.1; omega
     rw [hNl] at hgb2 hc'
     refine zgc (f:=((T : Int),(bs.drop (p + 3)).take N)) (al:=(A',c')) _ rfl rfl rfl rfl rfl rfl (by decide) hown3 hgb2 hc' hBn hoff hfl hbase ?_
     intro v' W4 W5 hE4 hO5 hG5
     simp only [aP,lA,lZ,lS]
     have hE5 : Ext w W5:=(hEE.trans (hEW3.trans hE4)).grown hG5 (Below.size (hEE.trans (hEW3.trans hE4))) fun k hk => (HO1.out.1.lt hk).1
     have HO5:=veil (And.intro hO5 hE5)
     clear hown3 hoff hBn hbase hNl hgb2 hc' hO5 hE5 hG5
     refine zfu v' _ rfl rfl rfl rfl rfl ?_
     intro W6 hE6
     simp only [aP,lA,lZ,lS]
     refine zcu hQ' fun W7 hE7 => ?_
     go_wp2
     go_roundw
     case rel =>
      refine ⟨p + 3 + N,_,by omega,by go_num,(HO5.out.1.keep hE6).keep hE7,?_,?_,HO5.out.2.trans (hE6.trans hE7)⟩
      ·
       rw [List.length_append,List.length_singleton]; have:=HO.out.2.1; omega
      ·
       rw [HO.out.2.2,HST.out,← HXY.out.2.2]
       cases parse (bs.drop (p + 3 + N)) with
       | none => rfl
       | some x => simp
     case measure => simp [intOf]; omega
  ·
   obtain rfl : p = m:=by omega
   have hd1 : decide ((p : Int) < (p : Int)) = false:=by simp
   have hpar2 : parse bs = some fs:=by
    rw [hpar,HM.out,parse_end]
    simp
   have hF:=hO.fl
   have HP:=veil (And.intro hpar2 (And.intro hF hE))
   have hfb : fs.length ≤ 1000000000:=by omega
   have KM:=veil (fun v hv => rmay8_calls v fs wr hv hfb)
   clear hpar hpar2 hF hO
   go_upto_region 12 with (go_at_call 167; refine (KM.out _ HP.out.2.1).mono ?_; rintro e w2 ⟨rfl,hE2⟩)
   cases hmay : mayFs fs with
   | false =>
    have hn : getFs bs = none:=by
     rw [zbu,HP.out.1]
     simp [hmay]
    go_wp2
    go_ret2
    exact ⟨HP.out.2.2.trans hE2,.inl ⟨hn,rfl⟩⟩
   | true =>
    have hn : getFs bs = some fs:=by
     rw [zbu,HP.out.1]
     simp [hmay]
    go_wp2
    go_ret2
    exact ⟨HP.out.2.2.trans hE2,.inr ⟨fs,_,hn,HP.out.2.1.ext hE2,rfl⟩⟩
theorem valB_le {bs : List Nat} (h : Byt bs) (h0 : bs.getD 0 0 ≤ 127) (hl : bs.length = 8) {i : Nat} (hi : i < 8) : valB (bs.take (i + 1)) ≤ 9223372036854775807:=by
 have h1:=zjf h h0 i (by omega)
 have h2 : 128 * 256 ^ i ≤ 128 * 256 ^ 7:=Nat.mul_le_mul_left _ (Nat.pow_le_pow_right (by decide) (by omega))
 have : (128 : Nat) * 256 ^ 7 = 9223372036854775808:=by decide
 omega
theorem rof8_calls (A : Option Addr) (m c : Nat) (bs : List Nat) (hm : m = bs.length) (w : World) (hS : Bs w A bs) :
  Calls Tryz.prog 123 #[.slice A m c] w fun e w' => e = .returned (.int .i64 (ofB bs)) ∧ Ext w w':=by
 have HS:=veil (And.intro hS hm)
 by_cases h8 : m = 8
 ·
  subst h8
  obtain ⟨b,o,hA,hb,c0⟩:=hS.cell (j:=0) (by omega)
  rw [Nat.add_zero] at c0
  have l0:=hS.1.getD 0
  obtain ⟨R,hR⟩ : ∃ R,R = ofB bs:=⟨_,rfl⟩
  rw [← hR]
  obtain ⟨X,hX⟩ : ∃ X,X = bs.getD 0 0:=⟨_,rfl⟩
  rw [← hX] at c0 l0
  have HX:=veil (And.intro hR hX)
  subst hA
  clear hS hm hR hX
  have k0 : (X : Int) ≤ 255:=by omega
  by_cases hx : 127 < X
  ·
   have hd : decide ((127 : Int) < (X : Int)) = true:=by simp; omega
   have hd2 : decide (127 < X) = true:=by simp; omega
   have hr : R = -1:=by
    rw [HX.out.1]
    unfold ofB
    rw [if_neg]
    intro h
    have:=HX.out.2
    omega
   subst hr
   go_enter Tryz.func123,Tryz.ntmps123
   go_wp2_with fail
   go_ret
   exact ⟨rfl,Ext.refl _⟩
  ·
   have hd : decide ((127 : Int) < (X : Int)) = false:=by simp; omega
   have hd2 : decide (127 < X) = false:=by simp; omega
   have hr : R = (valB bs : Nat):=by
    rw [HX.out.1]
    unfold ofB
    rw [if_pos]
    have:=HX.out.2
    have:=HS.out.2
    omega
   have HR:=veil hr
   have hx0 : bs.getD 0 0 ≤ 127:=by rw [← HX.out.2]; omega
   have HV:=veil (fun (i : Nat) (hi : i < 8) => valB_le HS.out.1.1 hx0 HS.out.2.symm hi)
   clear hr hx0
   go_enter Tryz.func123,Tryz.ntmps123
   go_wp2_with fail
   go_loopw [3,4] (fun v u wr => ∃ i : Nat,i ≤ 8 ∧ u = .int .i64 (i : Int) ∧ v = .int .i64 ((valB (bs.take i) : Nat) : Int) ∧ Ext w wr)
    (fun _ v _ => 8 - (intOf v).toNat)
   case atStart => exact ⟨0,by omega,rfl,rfl,Ext.refl _⟩
   case round =>
    obtain ⟨i,hi,rfl,rfl,hE⟩:=hrel
    by_cases hlt : i < 8
    ·
     have hii : (i : Int) < 8:=by omega
     obtain ⟨b2,o2,hA,_,c1⟩:=(HS.out.1.ext hE).cell (j:=i) (by have:=HS.out.2; omega)
     obtain ⟨e1,e2⟩ : b2 = b ∧ o2 = o:=by injection hA with h; injection h with h1 h2; exact ⟨h1.symm,h2.symm⟩
     subst e1 e2
     have l1:=HS.out.1.1.getD i
     have hv:=HV.out i hlt
     rw [zbj (by have:=HS.out.2; omega)] at hv
     obtain ⟨V,hV⟩ : ∃ V,V = valB (bs.take i):=⟨_,rfl⟩
     obtain ⟨Y,hY⟩ : ∃ Y,Y = bs.getD i 0:=⟨_,rfl⟩
     rw [← hV,← hY] at hv
     rw [← hY] at c1 l1
     rw [← hV]
     have HVY:=veil (And.intro hV hY)
     have k1 : (Y : Int) ≤ 255:=by omega
     have k2 : 256 * (V : Int) + (Y : Int) ≤ 9223372036854775807:=by omega
     clear hV hY hv l1 hA
     go_wp2
     go_roundw
     case rel =>
      refine ⟨i + 1,by omega,by go_num,?_,hE⟩
      rw [zbj (by have:=HS.out.2; omega),← HVY.out.1,← HVY.out.2]
      simp
     case measure => simp [intOf]; omega
    ·
     obtain rfl : i = 8:=by omega
     have e : bs.take 8 = bs:=List.take_of_length_le (by have:=HS.out.2; omega)
     rw [e]
     go_wp2
     go_ret
     exact ⟨by rw [HR.out]; rfl,hE⟩
 ·
  have hr : ofB bs = -1:=by
   unfold ofB
   rw [if_neg]
   intro h
   omega
  rw [hr]
  have h8' : ¬ ((m : Int) = 8):=by omega
  clear hr hS hm
  go_enter Tryz.func123,Tryz.ntmps123
  go_wp2_with fail
  go_ret
  exact ⟨rfl,Ext.refl _⟩
def PutA (w' : World) (fs : List Fd) (x ev : Value) : Prop :=
 (mayFs fs = false ∧ (∃ A c,x = .slice A 0 c) ∧ ev = .iface 38 (.int .i64 1)) ∨
 (mayFs fs = true ∧ ev = .nilIface ∧ ∃ A c,x = .slice A (encF fs).length c ∧ (encF fs).length ≤ c ∧ Bs w' A (encF fs))
def GetA (w' : World) (bs : List Nat) (x ev : Value) : Prop :=
 (getFs bs = none ∧ (∃ A c,x = .slice A 0 c) ∧ ev = .iface 38 (.int .i64 2)) ∨ (∃ fs,getFs bs = some fs ∧ ev = .nilIface ∧ Fl w' x fs)
def OfA (bs : List Nat) (x ev : Value) : Prop:=(ofB bs < 0 ∧ x = .int .i64 0 ∧ ev = .iface 38 (.int .i64 2)) ∨ (0 ≤ ofB bs ∧ x = .int .i64 (ofB bs) ∧ ev = .nilIface)
def RGetA (w' : World) (bs : List Nat) (x y : Value) : Prop:=(getFs bs = none ∧ x = .slice none 0 0 ∧ y = .bool false) ∨ (∃ fs,getFs bs = some fs ∧ Fl w' x fs ∧ y = .bool true)
theorem rget8_any (A : Option Addr) (m c : Nat) (bs : List Nat) (hm : m = bs.length) (hmc : m ≤ c) (hle : m ≤ 100000000) (w : World) (hS : Bs w A bs) :
  Calls Tryz.prog 121 #[.slice A m c] w fun e w' => ∃ x y,e = .returned (.tuple #[x,y]) ∧ Ext w w' ∧ RGetA w' bs x y :=
 (rget8_calls A m c bs hm hmc hle w hS).mono fun e w' ⟨hE,h⟩ => by
  rcases h with ⟨h,rfl⟩ | ⟨fs,v,h,hF,rfl⟩
  ·
   exact ⟨_,_,rfl,hE,.inl ⟨h,rfl,rfl⟩⟩
  ·
   exact ⟨_,_,rfl,hE,.inr ⟨fs,h,hF,rfl⟩⟩
structure Code8 : Prop where
 may : ∀ (v : Value) (fs : List Fd) (w : World),Fl w v fs → fs.length ≤ 1000000000 → Calls Tryz.prog 140 #[v] w fun e w' => e = .returned (.bool (mayFs fs)) ∧ Ext w w'
 put : ∀ (v : Value) (fs : List Fd) (w : World),Fl w v fs → fs.length ≤ 1000000000 → Calls Tryz.prog 141 #[v] w fun e w' => ∃ x ev,e = .returned (.tuple #[x,ev]) ∧ Ext w w' ∧ PutA w' fs x ev
 get : ∀ (A : Option Addr) (m c : Nat) (bs : List Nat) (w : World),m = bs.length → m ≤ c → m ≤ 100000000 → Bs w A bs → Calls Tryz.prog 90 #[.slice A m c] w fun e w' => ∃ x ev,e = .returned (.tuple #[x,ev]) ∧ Ext w w' ∧ GetA w' bs x ev
 number : ∀ (n : Int) (w : World),-9223372036854775808 ≤ n → n ≤ 9223372036854775807 → Calls Tryz.prog 94 #[.int .i64 n] w fun e w' => ∃ A c,e = .returned (.slice A 8 c) ∧ 8 ≤ c ∧ Bs w' A (numB n) ∧ Ext w w'
 of : ∀ (A : Option Addr) (m c : Nat) (bs : List Nat) (w : World),m = bs.length → m ≤ c → Bs w A bs → Calls Tryz.prog 91 #[.slice A m c] w fun e w' => ∃ x ev,e = .returned (.tuple #[x,ev]) ∧ Ext w w' ∧ OfA bs x ev
theorem is_of_own {w : World} {base n : Nat} {v : Value} {l : List Int} (o : Own w base 3 v n (fun j => .int .i64 (l.getD j 0))) (hn : n = l.length) : Is w v l:=by
 subst hn
 by_cases h : l.length = 0
 ·
  rcases o.2 with ⟨rfl,h0⟩ | ⟨b,cap,cur,rfl,_,_,hnc,_⟩
  ·
   exact ⟨none,0,by rw [h],by omega,.inl h⟩
  ·
   exact ⟨_,cap,rfl,hnc,.inl h⟩
 ·
  obtain ⟨b,cap,rfl,hnc,_,hp⟩:=o.pre (by omega)
  exact ⟨_,cap,rfl,hnc,.inr ⟨b,0,rfl,hp.lt,fun j hj => by rw [Nat.zero_add]; exact hp.cell hj⟩⟩
theorem infoI9 : (Tryz.prog.info? 3).map (fun i => (i.zero,i.size,i.bytes)) = some (some (.int .i64 0),1,8):=by kernel_rfl
def NumA (w' : World) (bs : List Nat) (many : Nat) (x y : Value) : Prop:=(numbersB bs many = none ∧ x = .slice none 0 0 ∧ y = .bool false) ∨ (∃ l,numbersB bs many = some l ∧ Is w' x l ∧ y = .bool true)
theorem numbersB_get {bs : List Nat} {fs : List Fd} (many : Nat) (h : getFs bs = some fs) : numbersB bs many = if numsOk fs many then some (numsOf fs) else none:=by
 unfold numbersB
 rw [h]
theorem rnums8_calls (A : Option Addr) (m c : Nat) (bs : List Nat) (many : Nat) (hm : m = bs.length) (hmc : m ≤ c) (hle : m ≤ 100000000) (hmany : many ≤ 64) (w : World) (hS : Bs w A bs) :
  Calls Tryz.prog 85 #[.slice A m c,.int .i64 (many : Int)] w fun e w' => ∃ x y,e = .returned (.tuple #[x,y]) ∧ Ext w w' ∧ NumA w' bs many x y:=by
 have KG:=veil (rget8_any A m c bs hm hmc hle w hS)
 clear hm hmc hS hle
 go_enter Tryz.func85,Tryz.ntmps85
 go_upto_region 2 with (go_at_call 121; refine KG.out.mono ?_; rintro e w1 ⟨x,y,rfl,hE1,hA⟩)
 rcases hA with ⟨hn,rfl,rfl⟩ | ⟨fs,hs,hF,rfl⟩
 ·
  have hr : numbersB bs many = none:=by
   unfold numbersB
   rw [hn]
  clear KG
  go_wp2
  go_ret2
  exact ⟨_,_,rfl,hE1,.inl ⟨hr,rfl,rfl⟩⟩
 ·
  have hnum:=numbersB_get many hs
  have hE0:=hE1
  obtain ⟨hB,AL,cl,rfl,hcl,hx⟩:=hF
  obtain ⟨q,hq⟩ : ∃ q,q = fs.length:=⟨_,rfl⟩
  rw [← hq] at hx hcl ⊢
  by_cases hqm : q = many
  ·
   subst hqm
   have HX:=veil (And.intro hx (And.intro hq (And.intro hnum hE1)))
   obtain ⟨i8,hi8,hz0,hz1,hz2⟩:=info_parts infoI9
   have HI:=veil (And.intro hi8 (And.intro hz0 (And.intro hz1 hz2)))
   clear KG hx hq hnum hE1 hs hB hcl hi8 hz0 hz1 hz2 hE0
   go_upto_region 6 with (fail)
   go_loopw [8,9,10] (fun v u _ wr => ∃ i : Nat,i ≤ q ∧ u = .int .i64 (i : Int) ∧ Own wr w1.heap.size 3 v i (fun j => .int .i64 (ofB (bsF fs j))) ∧ (∀ j,j < i → tgF fs j = (j : Int) + 1 ∧ 0 ≤ ofB (bsF fs j)) ∧ Ext w1 wr)
    (fun _ v _ _ => q - (intOf v).toNat)
   case atStart => exact ⟨0,by omega,rfl,Own.nil _ _ _ _,fun j hj => by omega,Ext.refl _⟩
   case round =>
    obtain ⟨i,hi,rfl,hO,hall,hE⟩:=hrel
    by_cases hlt : i < q
    ·
     have hd1 : decide ((i : Int) < (q : Int)) = true:=by simp; omega
     have hii : (i : Int) < (q : Int):=by omega
     obtain ⟨b,o,hAL,hb,hcl⟩:=HX.out.1.resolve_left (by omega)
     obtain ⟨h1,A',k',h2,h3,h4⟩:=hcl i hlt
     have c0:=(hE.cell hb).trans h1
     have c1:=(hE.cell hb).trans h2
     obtain ⟨T,hT⟩ : ∃ T,T = tgF fs i:=⟨_,rfl⟩
     obtain ⟨L,hL⟩ : ∃ L,L = (bsF fs i).length:=⟨_,rfl⟩
     obtain ⟨N,hN⟩ : ∃ N,N = ofB (bsF fs i):=⟨_,rfl⟩
     have KO:=veil (rof8_calls A' L k' (bsF fs i) hL wr (h4.ext hE))
     rw [← hT] at c0
     rw [← hL] at c1
     rw [← hN] at KO
     have HT:=veil (And.intro hT (And.intro hN (And.intro hO (And.intro hall hE))))
     have hno : ¬ (T = (i : Int) + 1 ∧ 0 ≤ N) → numbersB bs q = none:=fun h => by
      rw [HX.out.2.2.1,if_neg]
      intro hk
      refine h ?_
      rw [HT.out.1,HT.out.2.1]
      exact hk.2 i hlt
     have HNO:=veil hno
     have hNr : -1 ≤ N ∧ N ≤ 9223372036854775807:=by
      have:=ofB_le h4.1
      rw [← hN] at this
      omega
     subst hAL
     clear h1 h2 h3 h4 hT hL hN hO hall hcl hno
     go_upto_region 9 with (go_at_call 123; refine KO.out.mono ?_; rintro e w2 ⟨rfl,hE2⟩)
     have c0':=(hE2.cell (World.block_lt_of_cell? wr ⟨b,o + i * 2,none⟩ c0)).trans c0
     have HE2:=veil (HT.out.2.2.2.2.trans hE2)
     have HO2:=veil (HT.out.2.2.1.below hE2 (Nat.le_refl _))
     clear c0 c1 KO hE2 hE
     by_cases g1 : N < 0
     ·
      have hd : decide (N < 0) = true:=decide_eq_true g1
      have hr:=HNO.out (fun h => by omega)
      go_wp2
      go_ret2
      exact ⟨_,_,rfl,HX.out.2.2.2.trans HE2.out,.inl ⟨hr,rfl,rfl⟩⟩
     ·
      have hd : decide (N < 0) = false:=decide_eq_false g1
      by_cases g2 : T = (i : Int) + 1
      ·
       have f1 : (T == (i : Int) + 1) = true:=by simp [g2]
       have HG:=veil g2
       subst g2
       go_wp2_with ((with_reducible refine zaa 50 ?_); refine zap _ rfl _ _ 47 rfl w1.heap.size 3 i8 (.int .i64 0) 8 Tryz.underlying47 HI.out.1 HI.out.2.1 HI.out.2.2.1 HI.out.2.2.2 rfl _ i _ rfl (HO2.out.alloc _) _ 1 1 rfl (fun _ => .int .i64 N) (zgx _ _ _) (fun _ => rfl) (by unfold maxLen; omega) (by omega) (Nat.le_trans (Below.size HE2.out) (by simp)) ?_; intro v6 w6 hO6 hg6 hat6; clear hat6)
       have hEa:=HE2.out.trans (Ext.alloc w2 (.cells #[.int .i64 N] 3))
       go_roundw
       case rel =>
        refine ⟨i + 1,by omega,by go_num,hO6.congr fun j hj => ?_,fun j hj => ?_,hEa.grown hg6 (Below.size hEa) fun j hj => (HO2.out.lt hj).1⟩
        ·
         by_cases e : j < i
         ·
          rw [if_pos e]
         ·
          rw [if_neg e,show j = i by omega,HT.out.2.1]
        ·
         by_cases e : j = i
         ·
          subst e
          refine ⟨HT.out.1.symm.trans HG.out,?_⟩
          rw [← HT.out.2.1]; omega
         ·
          exact HT.out.2.2.2.1 j (by omega)
       case measure => simp [intOf]; omega
      ·
       have f1 : (T == (i : Int) + 1) = false:=by simp [g2]
       have hr:=HNO.out (fun h => g2 h.1)
       go_wp2
       go_ret2
       exact ⟨_,_,rfl,HX.out.2.2.2.trans HE2.out,.inl ⟨hr,rfl,rfl⟩⟩
    ·
     obtain rfl : i = q:=by omega
     have hr : numbersB bs i = some (numsOf fs):=by
      rw [HX.out.2.2.1,if_pos]
      exact ⟨HX.out.2.1.symm,hall⟩
     have hI:=is_of_own (l:=numsOf fs) (hO.congr fun j hj => by rw [numsOf_get (by have:=HX.out.2.1; omega)]) (by rw [zdn]; exact HX.out.2.1)
     clear hO hall
     go_wp2
     go_ret2
     exact ⟨_,_,rfl,HX.out.2.2.2.trans hE,.inr ⟨_,hr,hI,rfl⟩⟩
  ·
   have hr : numbersB bs many = none:=by
    rw [hnum,if_neg]
    intro h
    exact hqm (hq.trans h.1)
   have f1 : ((q : Int) == (many : Int)) = false:=by simp; omega
   have f2 : ¬ ((q : Int) = (many : Int)):=by omega
   clear KG hx hq hnum hs hB hcl
   go_wp2
   go_ret2
   exact ⟨_,_,rfl,hE0,.inl ⟨hr,rfl,rfl⟩⟩
def tkC (t : Tk) : Array Value:=#[.int .i64 t.s,.int .i64 t.p,.int .i64 t.z,.int .i64 t.f,.int .i64 t.k]
def tkV (t : Tk) : Value:=.agg (tkC t)
theorem iTk (t : Tk) : (Tryz.prog.info? 24).map (·.size) = some (tkC t).size:=by
 show _ = some 5
 kernel_rfl
theorem zbd (t : Tk) : (tkC t).all (·.oneCell') = true:=by simp [tkC,Value.oneCell']
theorem zdp {t : Tk} (h : ¬ (1 ≤ t.s ∧ t.s ≤ 2147483647 ∧ 1 ≤ t.p ∧ t.p ≤ 16 ∧ 1 ≤ t.z ∧ t.z ≤ 255 ∧ 0 ≤ t.f ∧ t.f ≤ 1073741824 ∧ 1 ≤ t.k ∧ t.k ≤ 2147483647)) : mayT t = false:=decide_eq_false h
theorem rmay9_calls (t : Tk) (w : World) : Calls Tryz.prog 21 #[tkV t] w fun e w' => e = .returned (.bool (mayT t)) ∧ Ext w w':=by
 obtain ⟨s,p,z,f,k⟩:=t
 unfold tkV tkC
 have hE:=Ext.alloc w (.cells #[.int .i64 s,.int .i64 p,.int .i64 z,.int .i64 f,.int .i64 k] 24)
 have HE:=veil hE
 clear hE
 by_cases g0 : (1 : Int) ≤ s
 ·
  have d0 : decide ((1 : Int) ≤ s) = true:=decide_eq_true g0
  by_cases g1 : s ≤ 2147483647
  ·
   have d1 : decide (s ≤ 2147483647) = true:=decide_eq_true g1
   by_cases g2 : (1 : Int) ≤ p
   ·
    have d2 : decide ((1 : Int) ≤ p) = true:=decide_eq_true g2
    by_cases g3 : p ≤ 16
    ·
     have d3 : decide (p ≤ 16) = true:=decide_eq_true g3
     by_cases g4 : (1 : Int) ≤ z
     ·
      have d4 : decide ((1 : Int) ≤ z) = true:=decide_eq_true g4
      by_cases g5 : z ≤ 255
      ·
       have d5 : decide (z ≤ 255) = true:=decide_eq_true g5
       by_cases g6 : (0 : Int) ≤ f
       ·
        have d6 : decide ((0 : Int) ≤ f) = true:=decide_eq_true g6
        by_cases g7 : f ≤ 1073741824
        ·
         have d7 : decide (f ≤ 1073741824) = true:=decide_eq_true g7
         by_cases g8 : (1 : Int) ≤ k
         ·
          have d8 : decide ((1 : Int) ≤ k) = true:=decide_eq_true g8
          by_cases g9 : k ≤ 2147483647
          ·
           have d9 : decide (k ≤ 2147483647) = true:=decide_eq_true g9
           have hm : mayT ⟨s,p,z,f,k⟩ = true:=decide_eq_true ⟨g0,g1,g2,g3,g4,g5,g6,g7,g8,g9⟩
           rw [hm]
           clear hm
           go_enter Tryz.func21,Tryz.ntmps21
           go_wp2
           go_ret
           exact ⟨rfl,HE.out⟩
          ·
           have d9 : decide (k ≤ 2147483647) = false:=decide_eq_false g9
           have hm : mayT ⟨s,p,z,f,k⟩ = false:=zdp fun h => by
            have:=h
            simp only at this
            omega
           rw [hm]
           clear hm
           go_enter Tryz.func21,Tryz.ntmps21
           go_wp2
           go_ret
           exact ⟨rfl,HE.out⟩
         ·
          have d8 : decide ((1 : Int) ≤ k) = false:=decide_eq_false g8
          have hm : mayT ⟨s,p,z,f,k⟩ = false:=zdp fun h => by
           have:=h
           simp only at this
           omega
          rw [hm]
          clear hm
          go_enter Tryz.func21,Tryz.ntmps21
          go_wp2
          go_ret
          exact ⟨rfl,HE.out⟩
        ·
         have d7 : decide (f ≤ 1073741824) = false:=decide_eq_false g7
         have hm : mayT ⟨s,p,z,f,k⟩ = false:=zdp fun h => by
          have:=h
          simp only at this
          omega
         rw [hm]
         clear hm
         go_enter Tryz.func21,Tryz.ntmps21
         go_wp2
         go_ret
         exact ⟨rfl,HE.out⟩
       ·
        have d6 : decide ((0 : Int) ≤ f) = false:=decide_eq_false g6
        have hm : mayT ⟨s,p,z,f,k⟩ = false:=zdp fun h => by
         have:=h
         simp only at this
         omega
        rw [hm]
        clear hm
        go_enter Tryz.func21,Tryz.ntmps21
        go_wp2
        go_ret
        exact ⟨rfl,HE.out⟩
      ·
       have d5 : decide (z ≤ 255) = false:=decide_eq_false g5
       have hm : mayT ⟨s,p,z,f,k⟩ = false:=zdp fun h => by
        have:=h
        simp only at this
        omega
       rw [hm]
       clear hm
       go_enter Tryz.func21,Tryz.ntmps21
       go_wp2
       go_ret
       exact ⟨rfl,HE.out⟩
     ·
      have d4 : decide ((1 : Int) ≤ z) = false:=decide_eq_false g4
      have hm : mayT ⟨s,p,z,f,k⟩ = false:=zdp fun h => by
       have:=h
       simp only at this
       omega
      rw [hm]
      clear hm
      go_enter Tryz.func21,Tryz.ntmps21
      go_wp2
      go_ret
      exact ⟨rfl,HE.out⟩
    ·
     have d3 : decide (p ≤ 16) = false:=decide_eq_false g3
     have hm : mayT ⟨s,p,z,f,k⟩ = false:=zdp fun h => by
      have:=h
      simp only at this
      omega
     rw [hm]
     clear hm
     go_enter Tryz.func21,Tryz.ntmps21
     go_wp2
     go_ret
     exact ⟨rfl,HE.out⟩
   ·
    have d2 : decide ((1 : Int) ≤ p) = false:=decide_eq_false g2
    have hm : mayT ⟨s,p,z,f,k⟩ = false:=zdp fun h => by
     have:=h
     simp only at this
     omega
    rw [hm]
    clear hm
    go_enter Tryz.func21,Tryz.ntmps21
    go_wp2
    go_ret
    exact ⟨rfl,HE.out⟩
  ·
   have d1 : decide (s ≤ 2147483647) = false:=decide_eq_false g1
   have hm : mayT ⟨s,p,z,f,k⟩ = false:=zdp fun h => by
    have:=h
    simp only at this
    omega
   rw [hm]
   clear hm
   go_enter Tryz.func21,Tryz.ntmps21
   go_wp2
   go_ret
   exact ⟨rfl,HE.out⟩
 ·
  have d0 : decide ((1 : Int) ≤ s) = false:=decide_eq_false g0
  have hm : mayT ⟨s,p,z,f,k⟩ = false:=zdp fun h => by
   have:=h
   simp only at this
   omega
  rw [hm]
  clear hm
  go_enter Tryz.func21,Tryz.ntmps21
  go_wp2
  go_ret
  exact ⟨rfl,HE.out⟩
def gc (r s : Nat) : Array Value:=#[vI vU (wd r 0),vI vU (wd r 1),vI vU (wd r 2),vI vU (wd r 3),vI vU (wd s 0),vI vU (wd s 1),vI vU (wd s 2),vI vU (wd s 3)]
def gv (r s : Nat) : Value:=.agg (gc r s)
theorem zcm (r s : Nat) : (gc r s).all (·.oneCell') = true:=by simp [gc,Value.oneCell']
theorem iSg (r s : Nat) : (Tryz.prog.info? 69).map (·.size) = some (gc r s).size:=by kernel_rfl
def dgc (y : Nat → Nat) : Array Value:=arrOf 32 fun i => .int .u8 (y i : Nat)
def dgv (y : Nat → Nat) : Value:=.agg (dgc y)
theorem infoD32 : (Tryz.prog.info? 109).map (·.size) = some 32:=by kernel_rfl
theorem iDg (y : Nat → Nat) : (Tryz.prog.info? 109).map (·.size) = some (dgc y).size:=by
 unfold dgc
 rw [zau]; exact infoD32
section
variable (g : Nat) (W : World)
theorem fldG0 : (Instr.fieldAt 69 (ptrTo g) 0).run Tryz.prog W = .ok (.pointer (some ⟨g,0,none⟩)) W:=by simp [Instr.fieldAt,go_sem]
theorem fldG1 : (Instr.fieldAt 69 (ptrTo g) 1).run Tryz.prog W = .ok (.pointer (some ⟨g,4,none⟩)) W:=by simp [Instr.fieldAt,go_sem]
theorem bldG (r s : Nat) : (Instr.build 69 [(0,nv r),(1,nv s)].toArray).run Tryz.prog W = .ok (gv r s) W:=by simp [Instr.build,go_sem,nv,nc,gv,gc]
theorem sliceD : (Instr.sliceAt 109 (ptrTo g) none none none).run Tryz.prog W = .ok (.slice (some ⟨g,0,none⟩) 32 32) W:=by kernel_rfl
end
structure Low where
 dg : List Nat → Nat → Nat
 dgb : ∀ bs j,dg bs j < 256
 vf : Nat → Nat → Bool → (Nat → Nat) → Nat → Nat → Bool
structure LowR (L : Low) : Prop where
 num : ∀ A m c bs w,m = bs.length → m = 32 → Bs w A bs → Calls Tryz.prog 122 #[.slice A m c] w fun e w' => e = .returned (nv (valB bs)) ∧ Ext w w'
 sum : ∀ A m c bs w,m = bs.length → m ≤ 100000 → Bs w A bs → Calls Tryz.prog 87 #[.slice A m c] w fun e w' => e = .returned (dgv (L.dg bs)) ∧ Ext w w'
 ver : ∀ X Y f y R S w,X < top → Y < top → R < top → S < top → (∀ j,y j < 256) → Calls Tryz.prog 86 #[qv X Y f,dgv y,gv R S] w fun e w' => e = .returned (.bool (L.vf X Y f y R S)) ∧ Ext w w'
theorem zcv {P : Program} {fn : Func} {q p s : Tmp} {ty : TypeId} (h : fn.results = #[.tmp q,.cell p ty,.tmp s]) (tmps : Array Value) (w : World) (g : Nat) (t : TypeId) (cs : Array Value) (fr : Nat × Nat) (d : TypeDesc)
  (hp : tmps.getD p undef = .pointer (some ⟨g,0,none⟩)) (hg : w.heap[g]? = some (.cells cs t fr)) (hu : P.underlying ty = some d) (hd : d.isRow = true) (hi : (P.info? ty).map (·.size) = some cs.size) :
  (results fn tmps).run P w = .ok (.tuple #[tmps.getD q undef,.agg cs,tmps.getD s undef]) w:=by
 have hp' : tmps[p]?.getD undef = .pointer (some ⟨g,0,none⟩):=by simpa using hp
 have hl : (loadVar ty ⟨g,0,none⟩).run P w = .ok (.agg cs) w:=run_loadVar_mid w g 0 ty cs.toList d (fun j v hv => by rw [cell_of_row w g (0 + j) cs t fr hg,Nat.zero_add]; simpa using hv) hu hd (by simpa using hi)
 simp [results,h,hp',asAddr,hl]
def Z8 : Array Value:=#[vI vU 0,vI vU 0,vI vU 0,vI vU 0,vI vU 0,vI vU 0,vI vU 0,vI vU 0]
theorem z8_gc : Z8 = gc 0 0:=by
 obtain ⟨h0,h1,h2,h3⟩:=wd_z
 unfold gc Z8
 rw [h0,h1,h2,h3]
theorem iZ8 : (Tryz.prog.info? 69).map (·.size) = some Z8.size:=by kernel_rfl
theorem zdv : Z8.all (·.oneCell') = true:=by simp [Z8,Value.oneCell']
theorem off_z8 {w : World} {A : Option Addr} {bs : List Nat} {g : Nat} {fr : Nat × Nat} (h : Bs w A bs) (hg : w.heap[g]? = some (.cells Z8 69 fr)) : Off A bs (some g):=by
 by_cases h0 : bs.length = 0
 ·
  exact .inl h0
 ·
  refine .inr fun b o e e2 => ?_
  obtain ⟨b',o',e',_,hc⟩:=h.cell (j:=0) (by omega)
  rw [e] at e'
  injection e' with e'
  injection e' with e3 e4
  have e5 : g = b:=by injection e2
  subst e3 e4 e5
  rw [cell_of_row w g _ _ _ _ hg] at hc
  unfold Z8 at hc
  simp only [Nat.add_zero] at hc
  match o,hc with
  | 0,hc => simp at hc
  | 1,hc => simp at hc
  | 2,hc => simp at hc
  | 3,hc => simp at hc
  | 4,hc => simp at hc
  | 5,hc => simp at hc
  | 6,hc => simp at hc
  | 7,hc => simp at hc
  | n + 8,hc => simp at hc
def PartsA (w' : World) (bs : List Nat) (x y : Value) (G : Array Value) : Prop :=
 (partsB bs = none ∧ x = .slice none 0 0 ∧ G = gc 0 0 ∧ y = .bool false) ∨
 (∃ body r s,partsB bs = some (body,r,s) ∧ (∃ A c,x = .slice A body.length c ∧ body.length ≤ c ∧ Bs w' A body) ∧ G = gc r s ∧ y = .bool true)
theorem partsB_get {bs : List Nat} {fs : List Fd} (h : getFs bs = some fs) : partsB bs = if twoOk fs then some (bsF fs 0,sigR (bsF fs 1),sigS (bsF fs 1)) else none:=by
 unfold partsB
 rw [h]
theorem zaw {P : Program} {o : Oper} {a : Act} {ty : TypeId} {x : Operand} {g t : Nat} {cs : Array Value} {fr : Nat × Nat} {d : TypeDesc} {W : World} (ho : o.op = .load ty x) (hx : a.eval x = .pointer (some ⟨g,0,none⟩)) (hb : W.heap[g]? = some (.cells cs t fr))
  (hu : P.underlying ty = some d) (hd : d.isRow = true) (hi : (P.info? ty).map (·.size) = some cs.size) : (execOp a.eval o).run P W = .ok (.value (.agg cs)) W:=by
 have hl : (loadVar ty ⟨g,0,none⟩).run P W = .ok (.agg cs) W:=run_loadVar_mid W g 0 ty cs.toList d (fun j v hv => by rw [cell_of_row W g (0 + j) cs t fr hb,Nat.zero_add]; simpa using hv) hu hd (by simpa using hi)
 unfold execOp
 simp only [ho,hx,Instr.loadAt,Instr.sureAddr,Sem.run_bind,Sem.run_pure,Result.andThen_ok,hl]
theorem run_build_v {P : Program} {o : Oper} {a : Act} {ty : TypeId} {parts : List (Nat × Operand)} {vs : List (Nat × Value)} {v : Value} {W : World} (ho : o.op = .build ty parts.toArray) (hx : parts.map (fun p => (p.1,a.eval p.2)) = vs)
  (hb : (Instr.build ty vs.toArray).run P W = .ok v W) : (execOp a.eval o).run P W = .ok (.value v) W:=by
 unfold execOp
 simp only [ho,List.map_toArray]
 rw [show (parts.map fun x => match x with | (i,x) => (i,a.eval x)) = vs from hx]
 simp only [Sem.run_bind,hb,Result.andThen_ok,Sem.run_pure]
theorem sched_store {P : Program} {Q : Exit → Act → World → Prop} {l : List Oper} {n k : Nat} {r : Sched} {a : Act} {w : World} {ty t : TypeId} {x y : Operand} {g : Nat} {cells old : Array Value} (o : Oper) (ho : l[k]? = some o) (hg : o.guard = none) (hop : o.op = .store ty x y) (hd : o.dst = none) (hkn : ¬ k < n)
  (hx : a.eval x = ptrTo g) (hy : a.eval y = .agg cells) (hb : w.heap[g]? = some (.cells old t (0,0))) (hi : (P.info? ty).map (·.size) = some cells.size) (hold : old.size = cells.size) (h1 : cells.all (·.oneCell') = true)
  (h : ∀ W,But g w W → W.heap[g]? = some (.cells cells t (0,0)) → wpSched P l Q n r a W) : wpSched P l Q n ((false,[k]) :: r) a w:=by
 refine zdf o ho hg fun W hW => wp_store_row ty x y hop g cells hx hy t old (hW.block hb) hi hold h1 ⟨fun h => absurd h hkn,?_⟩
 rw [hd]
 exact h _ (zix (but_ext hW) cells) (setRow_heap W g old cells t (0,0) (hW.block hb))
theorem Up.block {w : World} {D : World → Prop} (h : Up w D) {g : Nat} {o : Obj} (hb : w.heap[g]? = some o) (x : Gw D) : x.val.heap[g]? = some o:=(h.grown _ x.property).block hb
theorem run_slice_lv {P : Program} {o : Oper} {a : Act} {t : TypeId} {x z : Operand} {v v' vz : Value} {W : World} (ho : o.op = .slice t x (some z) none none) (hx : a.eval x = v) (hz : a.eval z = vz)
  (h : (Instr.sliceAt t v (some vz) none none).run P W = .ok v' W) : (execOp a.eval o).run P W = .ok (.value v') W:=by
 unfold execOp
 simp only [ho,hx,hz,Option.map_some,Option.map_none,Sem.run_bind,h,Result.andThen_ok,Sem.run_pure]
theorem zhx {L : Low} (R : LowR L) (A : Option Addr) (m c : Nat) (bs : List Nat) (hm : m = bs.length) (hmc : m ≤ c) (hle : m ≤ 100000000) (w : World) (hS : Bs w A bs) :
  Calls Tryz.prog 84 #[.slice A m c] w fun e w' => ∃ x G y,e = .returned (.tuple #[x,.agg G,y]) ∧ Ext w w' ∧ PartsA w' bs x y G:=by
 have hzz : (w.alloc (.cells #[vI vU 0,vI vU 0,vI vU 0,vI vU 0,vI vU 0,vI vU 0,vI vU 0,vI vU 0] 69)).heap[w.heap.size]? = some (.cells #[vI vU 0,vI vU 0,vI vU 0,vI vU 0,vI vU 0,vI vU 0,vI vU 0,vI vU 0] 69 (0,0)):=zab w _
 have hE0:=Ext.alloc w (.cells #[vI vU 0,vI vU 0,vI vU 0,vI vU 0,vI vU 0,vI vU 0,vI vU 0,vI vU 0] 69)
 have KG:=veil (fun W hW => rget8_any A m c bs hm hmc hle W hW)
 have HW:=veil (And.intro hzz (And.intro hE0 (hS.ext hE0)))
 clear hzz hE0 hm hmc hle hS
 go_enter Tryz.func84,Tryz.ntmps84
 go_upto_region 1 with (fail)
 generalize w.alloc (.cells #[vI vU 0,vI vU 0,vI vU 0,vI vU 0,vI vU 0,vI vU 0,vI vU 0,vI vU 0] 69) = w0 at *
 go_upto_region 2 with (go_at_call 121; refine (KG.out w0 HW.out.2.2).mono ?_; rintro e w1 ⟨x,y,rfl,hE1,hA⟩)
 have H1:=veil (And.intro (hE1.block HW.out.1) (HW.out.2.1.trans hE1))
 clear hE1
 rcases hA with ⟨hn,rfl,rfl⟩ | ⟨fs,hs,hF,rfl⟩
 ·
  have hr : partsB bs = none:=by
   unfold partsB
   rw [hn]
  clear KG
  go_wp2_with (first
   | ((with_reducible refine zac ?_); refine wpList_store_row rfl 69 _ _ rfl w.heap.size Z8 rfl rfl 69 _ H1.out.1 iZ8 rfl zdv ?_))
  refine bodyPost_ret (zcv rfl _ _ w.heap.size 69 Z8 (0,0) _ rfl (setRow_heap w1 w.heap.size _ Z8 69 (0,0) H1.out.1) Tryz.underlying69 rfl iZ8) rfl ⟨_,_,_,rfl,zae H1.out.2 (Nat.le_refl _) _,.inl ⟨hr,rfl,z8_gc,rfl⟩⟩
 ·
  have hpb:=partsB_get hs
  obtain ⟨hB,AL,cl,rfl,hcl,hx⟩:=hF
  obtain ⟨q,hq⟩ : ∃ q,q = fs.length:=⟨_,rfl⟩
  rw [← hq] at hx hcl ⊢
  have HX:=veil (And.intro hx (And.intro hq hpb))
  clear KG hx hq hpb hs hB hcl
  by_cases g0 : q = 2
  ·
   have hqI : decide ((q : Int) = 2) = true:=by simp; omega
   have HQ:=veil g0
   obtain ⟨b,o,hAL,hb,hcl⟩:=HX.out.1.resolve_left (by omega)
   obtain ⟨h1,A0,k0,h2,h3,h4⟩:=hcl 0 (by omega)
   obtain ⟨j1,A1,k1,j2,j3,j4⟩:=hcl 1 (by omega)
   have c0 : w1.cell? ⟨b,o,none⟩ = some (.int .i64 (tgF fs 0)):=h1
   have c1 : w1.cell? ⟨b,o + 1,none⟩ = some (.slice A0 (bsF fs 0).length k0):=h2
   have d0 : w1.cell? ⟨b,o + 2,none⟩ = some (.int .i64 (tgF fs 1)):=j1
   have d1 : w1.cell? ⟨b,o + 3,none⟩ = some (.slice A1 (bsF fs 1).length k1):=j2
   obtain ⟨T0,hT0⟩ : ∃ T,T = tgF fs 0:=⟨_,rfl⟩
   obtain ⟨T1,hT1⟩ : ∃ T,T = tgF fs 1:=⟨_,rfl⟩
   obtain ⟨L0,hL0⟩ : ∃ L,L = (bsF fs 0).length:=⟨_,rfl⟩
   obtain ⟨L1,hL1⟩ : ∃ L,L = (bsF fs 1).length:=⟨_,rfl⟩
   rw [← hT0] at c0
   rw [← hT1] at d0
   rw [← hL0] at c1
   rw [← hL1] at d1
   have HT:=veil (And.intro hT0 (And.intro hT1 (And.intro hL0 hL1)))
   have HB:=veil (And.intro h3 (And.intro h4 (And.intro j3 j4)))
   have hno : ¬ (T0 = 1 ∧ T1 = 2 ∧ L1 = 64) → partsB bs = none:=fun h => by
    rw [HX.out.2.2,if_neg]
    intro hk
    refine h ⟨?_,?_,?_⟩
    ·
     rw [HT.out.1]; exact hk.2.1
    ·
     rw [HT.out.2.1]; exact hk.2.2.1
    ·
     rw [HT.out.2.2.2]; exact hk.2.2.2
   have HNO:=veil hno
   subst hAL
   subst g0
   clear h1 h2 h3 h4 j1 j2 j3 j4 hT0 hT1 hL0 hL1 hcl hno hqI
   by_cases g1 : T0 = 1
   ·
    have f1 : (T0 == 1) = true:=by simp [g1]
    by_cases g2 : T1 = 2
    ·
     have f2 : (T1 == 2) = true:=by simp [g2]
     by_cases g3 : L1 = 64
     ·
      have HG:=veil (And.intro g1 (And.intro g2 g3))
      subst g1 g2 g3
      have hk1 : 64 ≤ k1:=by have h:=HB.out.2.2.1; have h2:=HT.out.2.2.2; omega
      obtain ⟨D1,hD1⟩ : ∃ D,D = bsF fs 1:=⟨_,rfl⟩
      have HD:=veil (And.intro hD1 (And.intro (show D1.length = 64 from by rw [hD1]; exact HT.out.2.2.2.symm) (show Bs w1 A1 D1 from by rw [hD1]; exact HB.out.2.2.2)))
      have htd : (D1.drop 32).take 32 = D1.drop 32:=List.take_of_length_le (by rw [List.length_drop,HD.out.2.1]; decide)
      have HTD:=veil htd
      clear hD1 htd f1 f2
      have KR:=veil (fun W (hW : Bs W A1 D1) => R.num A1 32 k1 (D1.take 32) W (by rw [List.length_take,HD.out.2.1]; rfl) rfl (bs_take hW 32))
      have KS:=veil (fun W (hW : Bs W A1 D1) => by
       have h:=R.num (cutA A1 32 k1) 32 (k1 - 32) ((D1.drop 32).take 32) W (by rw [List.length_take,List.length_drop,HD.out.2.1]; rfl) rfl (hW.cut 32 (n:=32) (c:=k1) (by rw [HD.out.2.1]; exact Nat.le_refl _) (by rw [HD.out.2.1]; exact hk1))
       rw [HTD.out] at h
       exact h)
      have hk32 : 32 ≤ k1:=by omega
      go_upto_region 5 with (first
       | ((with_reducible refine zaa 48 ?_); refine wpl_val (.slice A1 32 k1) rfl (run_slice_hv rfl rfl rfl (cut_to_b A1 _ k1 32 hk32 _ rfl)) ?_)
       | (go_at_call 122; refine (KR.out _ HD.out.2.2).mono ?_; rintro e w2 ⟨rfl,hE2⟩)
       | ((with_reducible refine zac ?_); refine wpList_store_row rfl 58 _ _ rfl w2.heap.size (nc (valB (D1.take 32))) rfl rfl 58 _ (zab w2 _) (iN _) rfl (nc_one _) ?_; rw [World.setRow_alloc_new]))
      obtain ⟨g7,hg7⟩ : ∃ g,g = w2.heap.size:=⟨_,rfl⟩
      have hW3 : Ext w1 (w2.alloc (.cells (nc (valB (D1.take 32))) 58)):=hE2.trans (Ext.alloc _ _)
      have hb7 : (w2.alloc (.cells (nc (valB (D1.take 32))) 58)).heap[g7]? = some (.cells (nc (valB (D1.take 32))) 58 (0,0)):=by rw [hg7]; exact zab _ _
      rw [← hg7]
      generalize w2.alloc (.cells (nc (valB (D1.take 32))) 58) = w3 at *
      have c0':=(hW3.cell hb).trans c0
      have c1':=(hW3.cell hb).trans c1
      have d0':=(hW3.cell hb).trans d0
      have d1':=(hW3.cell hb).trans d1
      have hb3:=Nat.lt_of_lt_of_le hb hW3.size
      have HB7:=veil (And.intro hb7 hW3)
      clear c0 c1 d0 d1 hb hg7 hb7 hE2 KR
      go_upto_region 6 with (first
       | ((with_reducible refine zaa 54 ?_); refine wpl_val (.slice (cutA A1 32 k1) 32 (k1 - 32)) rfl (run_slice_lv rfl rfl rfl (cut_from A1 64 k1 32 (by decide) _)) ?_)
       | (go_at_call 122; refine (KS.out _ (HD.out.2.2.ext HB7.out.2)).mono ?_; rintro e w4 ⟨rfl,hE4⟩)
       | ((with_reducible refine zac ?_); refine wpList_store_row rfl 58 _ _ rfl w4.heap.size (nc (valB (D1.drop 32))) rfl rfl 58 _ (zab w4 _) (iN _) rfl (nc_one _) ?_; rw [World.setRow_alloc_new]))
      obtain ⟨g8,hg8⟩ : ∃ g,g = w4.heap.size:=⟨_,rfl⟩
      have hW5 : Ext w3 (w4.alloc (.cells (nc (valB (D1.drop 32))) 58)):=hE4.trans (Ext.alloc _ _)
      have hb8 : (w4.alloc (.cells (nc (valB (D1.drop 32))) 58)).heap[g8]? = some (.cells (nc (valB (D1.drop 32))) 58 (0,0)):=by rw [hg8]; exact zab _ _
      rw [← hg8]
      generalize w4.alloc (.cells (nc (valB (D1.drop 32))) 58) = w5 at *
      have c0:=(hW5.cell hb3).trans c0'
      have c1:=(hW5.cell hb3).trans c1'
      have hb5:=Nat.lt_of_lt_of_le hb3 hW5.size
      have H5:=veil (And.intro (hW5.block HB7.out.1) (And.intro hb8 (And.intro (hW5.block (HB7.out.2.block H1.out.1)) (And.intro (H1.out.2.trans (HB7.out.2.trans hW5)) (HB7.out.2.trans hW5)))))
      clear c0' c1' d0' d1' hb3 hg8 hb8 hE4 KS HB7 hW5 hW3
      simp only [Act.put]
      refine zds 8 [(true,[0,1,2,3,4,5,6,7]),(false,[8]),(false,[9])] (by kernel_rfl) (by kernel_rfl) fun Q' hQ' => ?_
      refine' zbs (A:=_) _ rfl (by kernel_rfl) ?_ ?_
      rotate_left
      ·
       intro D hD hN
       have e0:=hD.cell c0
       have e1:=hD.cell c1
       simp only [pickI,consO,List.getElem?_cons_zero,List.getElem?_cons_succ]
       iterate 4 (go_big_quiet_step (fail))
       go_big_quiet_want
       refine zch (nv (valB (D1.take 32))) (fun x => zaw rfl rfl (hD.block H5.out.1 x) Tryz.underlying58 rfl (iN _)) ?_
       simp only [aP,lA,lZ,lS]
       go_big_quiet_on
       go_big_quiet_want
       refine zch (nv (valB (D1.drop 32))) (fun x => zaw rfl rfl (hD.block H5.out.2.1 x) Tryz.underlying58 rfl (iN _)) ?_
       simp only [aP,lA,lZ,lS]
       go_big_quiet_on
       go_big_quiet_want
       refine zch (gv (valB (D1.take 32)) (valB (D1.drop 32))) (fun x => run_build_v (vs:=[(0,nv (valB (D1.take 32))),(1,nv (valB (D1.drop 32)))]) rfl rfl (bldG x.val _ _)) ?_
       simp only [aP,lA,lZ,lS]
       go_big_quiet_on
       go_big_quiet_step (fail)
       exact zcx
      refine sched_store (cells:=gc (valB (D1.take 32)) (valB (D1.drop 32))) _ rfl rfl rfl rfl (by decide) rfl rfl H5.out.2.2.1 (iSg _ _) rfl (zcm _ _) ?_
      intro w6 hB6 hb6
      refine zfu (.bool true) _ rfl rfl rfl rfl rfl ?_
      intro w7 hE7
      simp only [aP,lA,lZ,lS]
      refine zcu hQ' fun w8 hE8 => ?_
      have hr : partsB bs = some (bsF fs 0,valB (D1.take 32),valB (D1.drop 32)):=by
       rw [HX.out.2.2,if_pos ⟨HX.out.2.1.symm,HT.out.1.symm,HT.out.2.1.symm,HT.out.2.2.2.symm⟩,HD.out.1]
       rfl
      have hB0 : Bs w5 A0 (bsF fs 0):=HB.out.2.1.ext H5.out.2.2.2.2
      have hE6 : Ext w w6:=Below.trans H5.out.2.2.2.1 (hB6.new (Nat.le_refl _) (Below.size H5.out.2.2.2.1))
      have hB8:=((hB0.but hB6 (off_z8 hB0 H5.out.2.2.1)).ext hE7).ext hE8
      have hF:=veil (And.intro (((hE7.trans hE8)).block hb6) (And.intro hr (And.intro hB8 (hE6.trans (hE7.trans hE8)))))
      have hL0:=HT.out.2.2.1
      have hk0:=HB.out.1
      rw [← hL0] at hk0
      clear hr hB0 hE6 hB8 hb6 hB6
      go_wp2
      refine bodyPost_ret (zcv rfl _ _ w.heap.size 69 (gc (valB (D1.take 32)) (valB (D1.drop 32))) (0,0) _ rfl hF.out.1 Tryz.underlying69 rfl (iSg _ _)) rfl ⟨_,_,_,rfl,hF.out.2.2.2,.inr ⟨_,_,_,hF.out.2.1,⟨A0,k0,by rw [← hL0]; rfl,by rw [← hL0]; exact hk0,hF.out.2.2.1⟩,rfl,rfl⟩⟩
     ·
      have hr:=HNO.out (fun h => g3 h.2.2)
      have f3 : ((L1 : Int) == 64) = false:=by simp; omega
      have f4 : ¬ ((L1 : Int) = 64):=by omega
      go_wp2_with (first
       | ((with_reducible refine zac ?_); refine wpList_store_row rfl 69 _ _ rfl w.heap.size Z8 rfl rfl 69 _ H1.out.1 iZ8 rfl zdv ?_))
      refine bodyPost_ret (zcv rfl _ _ w.heap.size 69 Z8 (0,0) _ rfl (setRow_heap w1 w.heap.size _ Z8 69 (0,0) H1.out.1) Tryz.underlying69 rfl iZ8) rfl ⟨_,_,_,rfl,zae H1.out.2 (Nat.le_refl _) _,.inl ⟨hr,rfl,z8_gc,rfl⟩⟩
    ·
     have hr:=HNO.out (fun h => g2 h.2.1)
     have f2 : (T1 == 2) = false:=by simp [g2]
     go_wp2_with (first
      | ((with_reducible refine zac ?_); refine wpList_store_row rfl 69 _ _ rfl w.heap.size Z8 rfl rfl 69 _ H1.out.1 iZ8 rfl zdv ?_))
     refine bodyPost_ret (zcv rfl _ _ w.heap.size 69 Z8 (0,0) _ rfl (setRow_heap w1 w.heap.size _ Z8 69 (0,0) H1.out.1) Tryz.underlying69 rfl iZ8) rfl ⟨_,_,_,rfl,zae H1.out.2 (Nat.le_refl _) _,.inl ⟨hr,rfl,z8_gc,rfl⟩⟩
   ·
    have hr:=HNO.out (fun h => g1 h.1)
    have f1 : (T0 == 1) = false:=by simp [g1]
    go_wp2_with (first
     | ((with_reducible refine zac ?_); refine wpList_store_row rfl 69 _ _ rfl w.heap.size Z8 rfl rfl 69 _ H1.out.1 iZ8 rfl zdv ?_))
    refine bodyPost_ret (zcv rfl _ _ w.heap.size 69 Z8 (0,0) _ rfl (setRow_heap w1 w.heap.size _ Z8 69 (0,0) H1.out.1) Tryz.underlying69 rfl iZ8) rfl ⟨_,_,_,rfl,zae H1.out.2 (Nat.le_refl _) _,.inl ⟨hr,rfl,z8_gc,rfl⟩⟩
  ·
   have f0 : ((q : Int) == 2) = false:=by simp; omega
   have f1 : ¬ ((q : Int) = 2):=by omega
   have hr : partsB bs = none:=by
    rw [HX.out.2.2,if_neg]
    intro h
    exact g0 (HX.out.2.1.trans h.1)
   clear HX
   go_wp2_with (first
    | ((with_reducible refine zac ?_); refine wpList_store_row rfl 69 _ _ rfl w.heap.size Z8 rfl rfl 69 _ H1.out.1 iZ8 rfl zdv ?_))
   refine bodyPost_ret (zcv rfl _ _ w.heap.size 69 Z8 (0,0) _ rfl (setRow_heap w1 w.heap.size _ Z8 69 (0,0) H1.out.1) Tryz.underlying69 rfl iZ8) rfl ⟨_,_,_,rfl,zae H1.out.2 (Nat.le_refl _) _,.inl ⟨hr,rfl,z8_gc,rfl⟩⟩
def TZ : Array Value:=#[.int .i64 0,.int .i64 0,.int .i64 0,.int .i64 0,.int .i64 0]
theorem iTZ : (Tryz.prog.info? 24).map (·.size) = some TZ.size:=by kernel_rfl
theorem zbr : TZ.all (·.oneCell') = true:=by simp [TZ,Value.oneCell']
theorem tz_tk : TZ = tkC ⟨0,0,0,0,0⟩:=rfl
def OpenA (bs : List Nat) (T G : Array Value) (y : Value) : Prop :=
 (openB bs = none ∧ T = tkC ⟨0,0,0,0,0⟩ ∧ G = gc 0 0 ∧ y = .bool false) ∨ (∃ t r s,openB bs = some (t,r,s) ∧ T = tkC t ∧ G = gc r s ∧ y = .bool true)
theorem zay {P : Program} {fn : Func} {q p s : Tmp} {ty ty2 : TypeId} (h : fn.results = #[.cell q ty,.cell p ty2,.tmp s]) (tmps : Array Value) (w : World) (g g2 : Nat) (t t2 : TypeId) (cs cs2 : Array Value) (fr fr2 : Nat × Nat) (d d2 : TypeDesc)
  (hq : tmps.getD q undef = .pointer (some ⟨g,0,none⟩)) (hg : w.heap[g]? = some (.cells cs t fr)) (hu : P.underlying ty = some d) (hd : d.isRow = true) (hi : (P.info? ty).map (·.size) = some cs.size)
  (hp : tmps.getD p undef = .pointer (some ⟨g2,0,none⟩)) (hg2 : w.heap[g2]? = some (.cells cs2 t2 fr2)) (hu2 : P.underlying ty2 = some d2) (hd2 : d2.isRow = true) (hi2 : (P.info? ty2).map (·.size) = some cs2.size) :
  (results fn tmps).run P w = .ok (.tuple #[.agg cs,.agg cs2,tmps.getD s undef]) w:=by
 have hq' : tmps[q]?.getD undef = .pointer (some ⟨g,0,none⟩):=by simpa using hq
 have hp' : tmps[p]?.getD undef = .pointer (some ⟨g2,0,none⟩):=by simpa using hp
 have hl : (loadVar ty ⟨g,0,none⟩).run P w = .ok (.agg cs) w:=run_loadVar_mid w g 0 ty cs.toList d (fun j v hv => by rw [cell_of_row w g (0 + j) cs t fr hg,Nat.zero_add]; simpa using hv) hu hd (by simpa using hi)
 have hl2 : (loadVar ty2 ⟨g2,0,none⟩).run P w = .ok (.agg cs2) w:=run_loadVar_mid w g2 0 ty2 cs2.toList d2 (fun j v hv => by rw [cell_of_row w g2 (0 + j) cs2 t2 fr2 hg2,Nat.zero_add]; simpa using hv) hu2 hd2 (by simpa using hi2)
 simp [results,h,hq',hp',asAddr,hl,hl2]
theorem partsA_all {w : World} {bs : List Nat} {x y : Value} {G : Array Value} (hb : Byt bs) (h : PartsA w bs x y G) :
  ∃ r s body A c o,G = gc r s ∧ x = .slice A body.length c ∧ body.length ≤ c ∧ body.length ≤ 65535 ∧ Bs w A body ∧ y = .bool o ∧ ((partsB bs = none ∧ o = false) ∨ (partsB bs = some (body,r,s) ∧ o = true)):=by
 rcases h with ⟨h,rfl,rfl,rfl⟩ | ⟨body,r,s,h,⟨A,c,rfl,hc,hB⟩,rfl,rfl⟩
 ·
  exact ⟨0,0,[],none,0,false,rfl,rfl,Nat.le_refl _,by decide,⟨fun b hb => absurd hb (List.not_mem_nil),Or.inl rfl⟩,rfl,.inl ⟨h,rfl⟩⟩
 ·
  exact ⟨r,s,body,A,c,true,rfl,rfl,hc,(zji hb h).2.2.1,hB,rfl,.inr ⟨h,rfl⟩⟩
theorem openB_some {bs body : List Nat} {r s : Nat} (h : partsB bs = some (body,r,s)) {l : List Int} (h2 : numbersB body 5 = some l) : openB bs = if mayT (tkOf l) = true then some (tkOf l,r,s) else none:=by
 unfold openB
 rw [h]
 show (match numbersB body 5 with | some l => _ | none => _) = _
 rw [h2]
theorem zfw {bs : List Nat} (h : partsB bs = none) : openB bs = none:=by
 unfold openB
 rw [h]
theorem openB_none2 {bs body : List Nat} {r s : Nat} (h : partsB bs = some (body,r,s)) (h2 : numbersB body 5 = none) : openB bs = none:=by
 unfold openB
 rw [h]
 show (match numbersB body 5 with | some l => _ | none => _) = _
 rw [h2]
theorem zcg {W : World} {g g' t : Nat} {cs : Array Value} (T : Array Value) (h : W.heap[g']? = some (.cells cs t (0,0))) (hg : g < g') : (W.setRow g T).heap[g']? = some (.cells cs t (0,0)):=(zei W T (by omega)).trans h
theorem zbx {w W : World} {g g' t t' : Nat} {T G T0 G0 : Array Value} (hE : Ext w W) (h : W.heap[g]? = some (.cells T0 t (0,0))) (h' : W.heap[g']? = some (.cells G0 t' (0,0))) (hg : w.heap.size ≤ g ∧ g < g') :
  Ext w ((W.setRow g T).setRow g' G) ∧ ((W.setRow g T).setRow g' G).heap[g]? = some (.cells T t (0,0)) ∧ ((W.setRow g T).setRow g' G).heap[g']? = some (.cells G t' (0,0)) :=
 ⟨zae (zae hE hg.1 T) (by omega) G,(zei _ G (by omega)).trans (setRow_heap W g T0 T t (0,0) h),setRow_heap _ g' G0 G t' (0,0) (zcg T h' hg.2)⟩
theorem sched_alloc {P : Program} {Q : Exit → Act → World → Prop} {l : List Oper} {n k d : Nat} {r : Sched} {a : Act} {w : World} {t : TypeId} {C : Array Value} (o : Oper) (ho : l[k]? = some o) (hg : o.guard = none) (hd : o.dst = some d)
  (hb : ∀ W,(execOp a.eval o).run P W = .ok (.value (ptrTo W.heap.size)) (W.alloc (.cells C t)))
  (h : ∀ g W,w.heap.size ≤ g → W.heap[g]? = some (.cells C t (0,0)) → Ext w W → wpSched P l Q n r (a.put (some d) (ptrTo g)) W) : wpSched P l Q n ((false,[k]) :: r) a w:=by
 refine zdf o ho hg fun W hW => ?_
 unfold Oper.wp
 rw [hb W]
 show (k < n → Ext W _) ∧ _
 rw [hd]
 exact ⟨fun _ => Ext.alloc W _,h _ _ (Below.size hW) (zab W _) (hW.trans (Ext.alloc W _))⟩
/-! ### a region that draws its order,order by order -/
section
variable {P : Program} {ops : Array Oper} {Q : Exit → Act → World → Prop} {f j d : Nat} {listed : Array Bool} {a : Act} {w : World}
theorem wp_tree {id : Nat} {l : List Oper} (hm : P.follows .mixedOrders = true) (h : ∀ Q',Hid (Q' = NoPanic Q) → wpG P .any l.toArray Q' 0 l.length (Array.replicate l.length false) a w) : (Code.region id l.toArray true).wp P Q a w:=by
 refine wp_region_noPanic ?_
 refine wp_region_any hm (zeh (n:=0) _ _ _ _ ?_)
 have:=wpG.ext (h _ (veil rfl)) (Ext.drew w)
 simpa using this
abbrev GOne (P : Program) (ops : Array Oper) (Q : Exit → Act → World → Prop) (f : Nat) (listed : Array Bool) (j : Nat) (a : Act) (w : World) : Prop :=
 ∀ W,Ext w W → wpOp P ops Q j (fun a' W' => (j < 0 → Ext W W') ∧ wpG P .any ops Q 0 f (listed.setIfInBounds j true) a' W') a W
theorem G_one (hr : Region.ready .any ops listed = [j]) (h : GOne P ops Q f listed j a w) : wpG P .any ops Q 0 (f + 1) listed a w :=
 ⟨fun h0 => (by rw [hr] at h0; cases h0),fun i hi W hW => by
  rw [hr] at hi
  have e : i = j:=by simpa using hi
  subst e
  exact h W hW⟩
theorem G_two {i : Nat} (hr : Region.ready .any ops listed = [i,j]) (h : GOne P ops Q f listed i a w) (h2 : GOne P ops Q f listed j a w) : wpG P .any ops Q 0 (f + 1) listed a w :=
 ⟨fun h0 => (by rw [hr] at h0; cases h0),fun k hk W hW => by
  rw [hr] at hk
  have e : k = i ∨ k = j:=by simpa using hk
  rcases e with e | e <;> subst e
  ·
   exact h W hW
  ·
   exact h2 W hW⟩
theorem G_end {R : Exit → Act → World → Prop} (hr : Region.ready .any ops listed = []) (hQ : Hid (Q = NoPanic R)) (h : ∀ W,Ext w W → R .normal a W) : wpG P .any ops Q 0 0 listed a w :=
 ⟨hr,fun W hW => by rw [hQ.out]; exact h W hW⟩
theorem G_val {v : Value} (o : Oper) (ho : ops[j]? = some o) (hg : o.guard = none) (hd : o.dst = some d) (hm : ∀ W,Ext w W → (execOp a.eval o).run P W = .ok (.value v) W)
  (h : wpG P .any ops Q 0 f (listed.setIfInBounds j true) (a.put (some d) v) w) : GOne P ops Q f listed j a w:=fun W hW => zax ho hg (by
 unfold Oper.wp
 rw [hm W hW,Oper.upon_value,hd]
 exact ⟨fun h => absurd h (Nat.not_lt_zero _),h.ext hW⟩)
theorem zcs {ty t : TypeId} {x y : Operand} {g : Nat} {cells old : Array Value} (o : Oper) (ho : ops[j]? = some o) (hgd : o.guard = none) (hop : o.op = .store ty x y) (hd : o.dst = none)
  (hx : a.eval x = ptrTo g) (hy : a.eval y = .agg cells) (hb : w.heap[g]? = some (.cells old t (0,0))) (hi : (P.info? ty).map (·.size) = some cells.size) (hold : old.size = cells.size) (h1 : cells.all (·.oneCell') = true)
  (h : ∀ W,But g w W → W.heap[g]? = some (.cells cells t (0,0)) → wpG P .any ops Q 0 f (listed.setIfInBounds j true) a W) : GOne P ops Q f listed j a w:=fun W hW =>
 zax ho hgd (wp_store_row ty x y hop g cells hx hy t old (hW.block hb) hi hold h1 ⟨fun h => absurd h (Nat.not_lt_zero _),by
  rw [hd]
  exact h _ (zix (but_ext hW) cells) (setRow_heap W g old cells t (0,0) (hW.block hb))⟩)
theorem zfd {w w7 W8 W9 W10 : World} {g2 g3 t t' : Nat} {T G : Array Value} (hE : Ext w w7) (hg : w.heap.size ≤ g2 ∧ g2 < g3) (hB8 : But g2 w7 W8) (h8 : W8.heap[g2]? = some (.cells T t (0,0))) (hB9 : But g3 W8 W9) (h9 : W9.heap[g3]? = some (.cells G t' (0,0))) (hE10 : Ext W9 W10) :
  Ext w W10 ∧ W10.heap[g2]? = some (.cells T t (0,0)) ∧ W10.heap[g3]? = some (.cells G t' (0,0)):=by
 have e8 : Ext w W8:=Below.trans hE (hB8.new hg.1 (Below.size hE))
 have e9 : Ext w W9:=Below.trans e8 (hB9.new (by omega) (Below.size e8))
 exact ⟨e9.trans hE10,hE10.block ((hB9.block g2 (Array.getElem?_eq_some_iff.mp h8).1 (fun e => by injection e with e; omega)).trans h8),hE10.block h9⟩
theorem zez {w W : World} {g k : Nat} {o : Obj} (hB : But g w W) (h : w.heap[k]? = some o) (hne : k ≠ g) : W.heap[k]? = some o:=(hB.block k (Array.getElem?_eq_some_iff.mp h).1 (fun e => hne (by injection e))).trans h
end
theorem zjk {L : Low} (R : LowR L) (A : Option Addr) (m c : Nat) (bs : List Nat) (hm : m = bs.length) (hmc : m ≤ c) (hle : m ≤ 100000000) (w : World) (hS : Bs w A bs) :
  Calls Tryz.prog 55 #[.slice A m c] w fun e w' => ∃ T G y,e = .returned (.tuple #[.agg T,.agg G,y]) ∧ Ext w w' ∧ OpenA bs T G y:=by
 have KP:=veil (fun W => zhx R A m c bs hm hmc hle W)
 have HB:=veil hS
 clear hm hmc hle hS
 go_enter Tryz.func55,Tryz.ntmps55
 go_upto_region 1 with (fail)
 obtain ⟨g2,hg2⟩ : ∃ g,g = w.heap.size:=⟨_,rfl⟩
 obtain ⟨g3,hg3⟩ : ∃ g,g = w.heap.size + 1:=⟨_,rfl⟩
 obtain ⟨w0,hw0⟩ : ∃ W,W = (w.alloc (.cells TZ 24)).alloc (.cells Z8 69):=⟨_,rfl⟩
 have hE0 : Ext w w0:=by rw [hw0]; exact (Ext.alloc _ _).trans (Ext.alloc _ _)
 have h2 : w0.heap[g2]? = some (.cells TZ 24 (0,0)):=by rw [hw0,hg2]; exact (Ext.alloc _ _).block (zab w _)
 have h3 : w0.heap[g3]? = some (.cells Z8 69 (0,0)):=by
  have h:=zab (w.alloc (.cells TZ 24)) (.cells Z8 69)
  rw [World.size_alloc] at h
  rw [hw0,hg3]
  exact h
 have h23 : w.heap.size ≤ g2 ∧ g2 < g3:=by
  rw [hg2,hg3]
  omega
 have H0:=veil (And.intro hE0 (And.intro h2 (And.intro h3 (And.intro h23 (HB.out.ext hE0)))))
 unfold TZ at hw0
 unfold Z8 at hw0
 rw [← hw0,← hg3,← hg2]
 clear hw0 hg3 hg2 hE0 h2 h3 h23
 go_upto_region 2 with (first
  | (go_at_call 84; refine (KP.out w0 H0.out.2.2.2.2).mono ?_; rintro e w1 ⟨x,G,y,rfl,hE1,hA⟩; obtain ⟨r,s,body,A1,c1,o,rfl,rfl,hc1,hl1,hB1,rfl,hY⟩:=partsA_all HB.out.1 hA)
  | ((with_reducible refine zac ?_); refine wpList_store_row rfl 69 _ _ rfl w1.heap.size (gc r s) rfl rfl 69 _ (zab w1 _) (iSg r s) rfl (zcm r s) ?_; rw [World.setRow_alloc_new]))
 have hE2 : Ext w0 (w1.alloc (.cells (gc r s) 69)):=hE1.trans (Ext.alloc _ _)
 have hB2:=hB1.ext (Ext.alloc w1 (.cells (gc r s) 69))
 obtain ⟨g6,hg6⟩ : ∃ g,g = w1.heap.size:=⟨_,rfl⟩
 have h6 : (w1.alloc (.cells (gc r s) 69)).heap[g6]? = some (.cells (gc r s) 69 (0,0)):=by rw [hg6]; exact zab _ _
 have h36 : g3 < g6:=by
  have h:=(Array.getElem?_eq_some_iff.mp (hE1.block H0.out.2.2.1)).1
  omega
 rw [← hg6]
 generalize w1.alloc (.cells (gc r s) 69) = w2 at *
 have H2:=veil (And.intro (H0.out.1.trans hE2) (And.intro (hE2.block H0.out.2.1) (And.intro (hE2.block H0.out.2.2.1) (And.intro h6 (And.intro H0.out.2.2.2.1.1 (And.intro H0.out.2.2.2.1.2 h36))))))
 have KN : Hid (Calls Tryz.prog 85 #[.slice A1 body.length c1,.int .i64 5] w2 fun e w' => ∃ x y,e = .returned (.tuple #[x,y]) ∧ Ext w2 w' ∧ NumA w' body 5 x y):=veil (rnums8_calls A1 _ c1 body 5 rfl hc1 (by omega) (by decide) w2 hB2)
 have HY:=veil hY
 have HBB:=veil hB2.1
 clear hA hY hE1 hE2 hB1 hB2 hg6 h6 h36 hc1 hl1 H0 KP
 go_upto_region 3 with (go_at_call 85; refine KN.out.mono ?_; rintro e w3 ⟨x,y,rfl,hE3,hA⟩)
 have H3:=veil (And.intro (H2.out.1.trans hE3) (And.intro (hE3.block H2.out.2.1) (And.intro (hE3.block H2.out.2.2.1) (And.intro (hE3.block H2.out.2.2.2.1) H2.out.2.2.2.2))))
 clear hE3 H2 KN
 rcases HY.out with ⟨hp,rfl⟩ | ⟨hp,rfl⟩
 ·
  have hr:=zfw hp
  clear hA HY hp
  go_wp2_with (first
   | ((with_reducible refine zac ?_); refine wpList_store_row rfl 24 _ _ rfl g2 TZ rfl rfl 24 _ H3.out.2.1 iTZ rfl zbr ?_)
   | ((with_reducible refine zac ?_); refine wpList_store_row rfl 69 _ _ rfl g3 Z8 rfl rfl 69 _ (zcg TZ H3.out.2.2.1 H3.out.2.2.2.2.2.1) iZ8 rfl zdv ?_))
  have hF:=zbx (T:=TZ) (G:=Z8) H3.out.1 H3.out.2.1 H3.out.2.2.1 ⟨H3.out.2.2.2.2.1,H3.out.2.2.2.2.2.1⟩
  refine bodyPost_ret (zay rfl _ _ g2 g3 24 69 TZ Z8 (0,0) (0,0) _ _ rfl hF.2.1 Tryz.underlying24 rfl iTZ rfl hF.2.2 Tryz.underlying69 rfl iZ8) rfl ⟨_,_,_,rfl,hF.1,.inl ⟨hr,tz_tk,z8_gc,rfl⟩⟩
 ·
  rcases hA with ⟨hn,rfl,rfl⟩ | ⟨l,hn,hI,rfl⟩
  ·
   have hr:=openB_none2 hp hn
   clear HY hp hn
   go_upto_region 4 with (fail)
   go_wp2_with (first
    | ((with_reducible refine zac ?_); refine wpList_store_row rfl 24 _ _ rfl g2 TZ rfl rfl 24 _ H3.out.2.1 iTZ rfl zbr ?_)
    | ((with_reducible refine zac ?_); refine wpList_store_row rfl 69 _ _ rfl g3 Z8 rfl rfl 69 _ (zcg TZ H3.out.2.2.1 H3.out.2.2.2.2.2.1) iZ8 rfl zdv ?_))
   have hF:=zbx (T:=TZ) (G:=Z8) H3.out.1 H3.out.2.1 H3.out.2.2.1 ⟨H3.out.2.2.2.2.1,H3.out.2.2.2.2.2.1⟩
   refine bodyPost_ret (zay rfl _ _ g2 g3 24 69 TZ Z8 (0,0) (0,0) _ _ rfl hF.2.1 Tryz.underlying24 rfl iTZ rfl hF.2.2 Tryz.underlying69 rfl iZ8) rfl ⟨_,_,_,rfl,hF.1,.inl ⟨hr,tz_tk,z8_gc,rfl⟩⟩
  ·
   have hr:=openB_some hp hn
   have h5:=(zkb HBB.out hn).1
   clear HY hp hn
   match l,h5,hI,hr with
   | [t0,t1,t2,t3,t4],_,hI,hr =>
    obtain ⟨A2,c2,rfl,hc2,hx⟩:=hI
    obtain ⟨b2,o2,hA2,hb2,hcl⟩:=hx.resolve_left (by simp)
    have d0 : w3.cell? ⟨b2,o2,none⟩ = some (.int .i64 t0):=hcl 0 (by simp)
    have d1 : w3.cell? ⟨b2,o2 + 1,none⟩ = some (.int .i64 t1):=hcl 1 (by simp)
    have d2 : w3.cell? ⟨b2,o2 + 2,none⟩ = some (.int .i64 t2):=hcl 2 (by simp)
    have d3 : w3.cell? ⟨b2,o2 + 3,none⟩ = some (.int .i64 t3):=hcl 3 (by simp)
    have d4 : w3.cell? ⟨b2,o2 + 4,none⟩ = some (.int .i64 t4):=hcl 4 (by simp)
    have HR:=veil (show openB bs = if mayT ⟨t0,t1,t2,t3,t4⟩ = true then some (⟨t0,t1,t2,t3,t4⟩,r,s) else none from hr)
    have hc2' : 5 ≤ c2:=hc2
    subst hA2
    clear hx hcl hr hc2
    rw [show ([t0,t1,t2,t3,t4] : List Int).length = 5 from rfl]
    go_upto_region 5 with (fail)
    try simp only [Act.put]
    refine zds 17 [(true,[0,1,2,3,4,5,6,7,8,9,10,11,12,13,14,15]),(false,[16]),(false,[17])] (by kernel_rfl) (by kernel_rfl) fun Q' hQ' => ?_
    refine' zbs (A:=_) _ rfl (by kernel_rfl) ?_ ?_
    rotate_left
    ·
     intro D hD hN
     have e0:=hD.cell d0
     have e1:=hD.cell d1
     have e2:=hD.cell d2
     have e3:=hD.cell d3
     have e4:=hD.cell d4
     simp only [pickI,consO,List.getElem?_cons_zero,List.getElem?_cons_succ]
     iterate 15 (go_big_quiet_step (fail))
     go_big_quiet_step (fail)
     exact zcx
    refine sched_alloc (C:=TZ) (t:=24) _ rfl rfl rfl (fun _ => rfl) ?_
    intro g10 w4 hg10 hb10 hE4
    simp only [aP,lA,lZ,lS]
    obtain ⟨T,hT⟩ : ∃ T,T = tkC ⟨t0,t1,t2,t3,t4⟩:=⟨_,rfl⟩
    have HT:=veil (And.intro hT (And.intro (show (Tryz.prog.info? 24).map (·.size) = some T.size by rw [hT]; exact iTk _) (And.intro (show TZ.size = T.size by rw [hT]; rfl) (show T.all (·.oneCell') = true by rw [hT]; exact zbd _))))
    have KM:=veil (fun W => rmay9_calls ⟨t0,t1,t2,t3,t4⟩ W)
    unfold tkV at KM
    rw [← hT] at KM
    unfold tkC at hT
    rw [← hT]
    clear hT
    refine sched_store (cells:=T) _ rfl rfl rfl rfl (by decide) rfl rfl hb10 HT.out.2.1 HT.out.2.2.1 HT.out.2.2.2 ?_
    intro w5 hB5 hb5
    refine zcu hQ' fun w6 hE6 => ?_
    have hE35 : Ext w3 w5:=Below.trans hE4 (hB5.new hg10 (Below.size hE4))
    have hE3:=hE35.trans hE6
    have hlt : g6 < g10:=by
     have h:=(Array.getElem?_eq_some_iff.mp H3.out.2.2.2.1).1
     omega
    have H6:=veil (And.intro (H3.out.1.trans hE3) (And.intro (hE3.block H3.out.2.1) (And.intro (hE3.block H3.out.2.2.1) (And.intro (hE3.block H3.out.2.2.2.1) (And.intro (hE6.block hb5) H3.out.2.2.2.2)))))
    clear hE3 hE35 hE4 hB5 hE6 hb5 hb10 hg10 hlt d0 d1 d2 d3 d4 hb2 H3
    go_upto_region 7 with (first
     | ((with_reducible refine zaa 47 ?_); refine wpList_load_row rfl 24 _ rfl g10 rfl 24 T (0,0) _ H6.out.2.2.2.2.1 Tryz.underlying24 rfl HT.out.2.1 ?_)
     | (go_at_call 21; refine (KM.out _).mono ?_; rintro e w7 ⟨rfl,hE7⟩))
    have H7:=veil (And.intro (H6.out.1.trans hE7) (And.intro (hE7.block H6.out.2.1) (And.intro (hE7.block H6.out.2.2.1) (And.intro (hE7.block H6.out.2.2.2.1) (And.intro (hE7.block H6.out.2.2.2.2.1) H6.out.2.2.2.2.2)))))
    clear hE7 H6 KM
    cases hm : mayT ⟨t0,t1,t2,t3,t4⟩ with
    | false =>
     have hr : openB bs = none:=by rw [HR.out,hm]; rfl
     clear hm HR
     go_wp2_with (first
      | ((with_reducible refine zac ?_); refine wpList_store_row rfl 24 _ _ rfl g2 TZ rfl rfl 24 _ H7.out.2.1 iTZ rfl zbr ?_)
      | ((with_reducible refine zac ?_); refine wpList_store_row rfl 69 _ _ rfl g3 Z8 rfl rfl 69 _ (zcg TZ H7.out.2.2.1 H7.out.2.2.2.2.2.2.1) iZ8 rfl zdv ?_))
     have hF:=zbx (T:=TZ) (G:=Z8) H7.out.1 H7.out.2.1 H7.out.2.2.1 ⟨H7.out.2.2.2.2.2.1,H7.out.2.2.2.2.2.2.1⟩
     refine bodyPost_ret (zay rfl _ _ g2 g3 24 69 TZ Z8 (0,0) (0,0) _ _ rfl hF.2.1 Tryz.underlying24 rfl iTZ rfl hF.2.2 Tryz.underlying69 rfl iZ8) rfl ⟨_,_,_,rfl,hF.1,.inl ⟨hr,tz_tk,z8_gc,rfl⟩⟩
    | true =>
     have hr : openB bs = some (⟨t0,t1,t2,t3,t4⟩,r,s):=by rw [HR.out,hm]; rfl
     have HR:=veil hr
     clear hm hr
     go_upto_region 9 with (fail)
     have n26 : g6 ≠ g2:=by have h:=H7.out.2.2.2.2.2.2; omega
     have n32 : g3 ≠ g2:=by have h:=H7.out.2.2.2.2.2.2; omega
     refine wp_tree (by kernel_rfl) fun Q' hQ' => ?_
     refine G_two (i:=0) (j:=1) (by kernel_rfl) ?_ ?_
     ·
      refine G_val _ rfl rfl rfl (fun W hW => zaw rfl rfl (hW.block H7.out.2.2.2.2.1) Tryz.underlying24 rfl HT.out.2.1) ?_
      simp only [aP,lA,lZ,lS]
      refine G_two (i:=1) (j:=2) (by kernel_rfl) ?_ ?_
      ·
       refine G_val _ rfl rfl rfl (fun W hW => zaw rfl rfl (hW.block (H7.out.2.2.2.1)) Tryz.underlying69 rfl (iSg r s)) ?_
       simp only [aP,lA,lZ,lS]
       refine G_one (j:=2) (by kernel_rfl) ?_
       refine zcs (cells:=T) _ rfl rfl rfl rfl rfl rfl H7.out.2.1 HT.out.2.1 HT.out.2.2.1 HT.out.2.2.2 ?_
       intro W8 hB8 h8
       refine G_one (j:=3) (by kernel_rfl) ?_
       refine zcs (cells:=gc r s) _ rfl rfl rfl rfl rfl rfl (zez hB8 H7.out.2.2.1 n32) (iSg r s) rfl (zcm r s) ?_
       intro W9 hB9 h9
       refine G_one (j:=4) (by kernel_rfl) ?_
       refine G_val _ rfl rfl rfl (fun W hW => zbv rfl rfl W) ?_
       simp only [aP,lA,lZ,lS]
       refine G_end (by kernel_rfl) hQ' fun W10 hE10 => ?_
       have hF:=zfd H7.out.1 ⟨H7.out.2.2.2.2.2.1,H7.out.2.2.2.2.2.2.1⟩ hB8 h8 hB9 h9 hE10
       clear hB8 h8 hB9 h9 hE10 n26 n32
       go_wp2
       refine bodyPost_ret (zay rfl _ _ g2 g3 24 69 T (gc r s) (0,0) (0,0) _ _ rfl hF.2.1 Tryz.underlying24 rfl HT.out.2.1 rfl hF.2.2 Tryz.underlying69 rfl (iSg r s)) rfl ⟨_,_,_,rfl,hF.1,.inr ⟨_,_,_,HR.out,HT.out.1,rfl,rfl⟩⟩
      ·
       refine zcs (cells:=T) _ rfl rfl rfl rfl rfl rfl H7.out.2.1 HT.out.2.1 HT.out.2.2.1 HT.out.2.2.2 ?_
       intro W8 hB8 h8
       refine G_one (j:=1) (by kernel_rfl) ?_
       refine G_val _ rfl rfl rfl (fun W hW => zaw rfl rfl (hW.block (zez hB8 H7.out.2.2.2.1 n26)) Tryz.underlying69 rfl (iSg r s)) ?_
       simp only [aP,lA,lZ,lS]
       refine G_one (j:=3) (by kernel_rfl) ?_
       refine zcs (cells:=gc r s) _ rfl rfl rfl rfl rfl rfl (zez hB8 H7.out.2.2.1 n32) (iSg r s) rfl (zcm r s) ?_
       intro W9 hB9 h9
       refine G_one (j:=4) (by kernel_rfl) ?_
       refine G_val _ rfl rfl rfl (fun W hW => zbv rfl rfl W) ?_
       simp only [aP,lA,lZ,lS]
       refine G_end (by kernel_rfl) hQ' fun W10 hE10 => ?_
       have hF:=zfd H7.out.1 ⟨H7.out.2.2.2.2.2.1,H7.out.2.2.2.2.2.2.1⟩ hB8 h8 hB9 h9 hE10
       clear hB8 h8 hB9 h9 hE10 n26 n32
       go_wp2
       refine bodyPost_ret (zay rfl _ _ g2 g3 24 69 T (gc r s) (0,0) (0,0) _ _ rfl hF.2.1 Tryz.underlying24 rfl HT.out.2.1 rfl hF.2.2 Tryz.underlying69 rfl (iSg r s)) rfl ⟨_,_,_,rfl,hF.1,.inr ⟨_,_,_,HR.out,HT.out.1,rfl,rfl⟩⟩
     ·
      refine G_val _ rfl rfl rfl (fun W hW => zaw rfl rfl (hW.block (H7.out.2.2.2.1)) Tryz.underlying69 rfl (iSg r s)) ?_
      simp only [aP,lA,lZ,lS]
      refine G_one (j:=0) (by kernel_rfl) ?_
      refine G_val _ rfl rfl rfl (fun W hW => zaw rfl rfl (hW.block H7.out.2.2.2.2.1) Tryz.underlying24 rfl HT.out.2.1) ?_
      simp only [aP,lA,lZ,lS]
      refine G_one (j:=2) (by kernel_rfl) ?_
      refine zcs (cells:=T) _ rfl rfl rfl rfl rfl rfl H7.out.2.1 HT.out.2.1 HT.out.2.2.1 HT.out.2.2.2 ?_
      intro W8 hB8 h8
      refine G_one (j:=3) (by kernel_rfl) ?_
      refine zcs (cells:=gc r s) _ rfl rfl rfl rfl rfl rfl (zez hB8 H7.out.2.2.1 n32) (iSg r s) rfl (zcm r s) ?_
      intro W9 hB9 h9
      refine G_one (j:=4) (by kernel_rfl) ?_
      refine G_val _ rfl rfl rfl (fun W hW => zbv rfl rfl W) ?_
      simp only [aP,lA,lZ,lS]
      refine G_end (by kernel_rfl) hQ' fun W10 hE10 => ?_
      have hF:=zfd H7.out.1 ⟨H7.out.2.2.2.2.2.1,H7.out.2.2.2.2.2.2.1⟩ hB8 h8 hB9 h9 hE10
      clear hB8 h8 hB9 h9 hE10 n26 n32
      go_wp2
      refine bodyPost_ret (zay rfl _ _ g2 g3 24 69 T (gc r s) (0,0) (0,0) _ _ rfl hF.2.1 Tryz.underlying24 rfl HT.out.2.1 rfl hF.2.2 Tryz.underlying69 rfl (iSg r s)) rfl ⟨_,_,_,rfl,hF.1,.inr ⟨_,_,_,HR.out,HT.out.1,rfl,rfl⟩⟩
def errV (k : Nat) : Value:=if k = 0 then .nilIface else .iface 38 (.int .i64 (k : Int))
end Go.Proofs.YtbfkecfcolcclaaGreatDoor
