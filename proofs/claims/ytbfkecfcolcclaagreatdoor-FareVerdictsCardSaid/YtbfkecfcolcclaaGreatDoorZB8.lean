/-
  Of TF Lk L2 L6 TG TH TI Rb Sve Pe Pf.
-/
import Derived.Test.YtbfkecfcolcclaaGreatDoorZB5
import Derived.Test.YtbfkecfcolcclaaGreatDoorZB3
import Derived.Test.YtbfkecfcolcclaaGreatDoorZB4
import Derived.Test.YtbfkecfcolcclaaGreatDoorZB7
import Derived.Test.YtbfkecfcolcclaaGreatDoorZB6
set_option maxRecDepth 1000000
set_option maxHeartbeats 20000000
namespace Go.Proofs.YtbfkecfcolcclaaGreatDoor
open Go.RowKit
open Go.Value renaming int → vI
open Go.IntKind renaming u64 → vU
open Go.Act renaming put → aP
open List renaming setIfInBounds_toArray → lA, set_cons_zero → lZ, set_cons_succ → lS
theorem rng_fd {w : World} {b o : Nat} {x y : Value} (h0 : w.cell? ⟨b,o,none⟩ = some x) (h1 : w.cell? ⟨b,o + 1,none⟩ = some y) : w.rangeAt b o [x,y]:=fun j v hv => by
 match j,hv with
 | 0,hv => rw [Nat.add_zero,h0]; simpa using hv
 | 1,hv => rw [h1]; simpa using hv
theorem infoF2 : (Tryz.prog.info? 135).map (·.size) = some 2:=by kernel_rfl
theorem hzF (W : World) : (Instr.alloc 135 true (.tuple #[])).run Tryz.prog W = .ok (ptrTo W.heap.size) (W.alloc (.cells #[.int .i64 0,.slice none 0 0] 135)):=by simp [Instr.alloc,go_sem]
theorem zhc {w : World} {g : Nat} {x y : Value} (h : w.heap[g]? = some (.cells #[x,y] 135 (0,0))) : w.cell? ⟨g,0,none⟩ = some x ∧ w.cell? ⟨g,1,none⟩ = some y:=⟨by rw [cell_of_row w g 0 _ _ _ h]; rfl,by rw [cell_of_row w g 1 _ _ _ h]; rfl⟩
theorem one_fd {T : Int} {A : Option Addr} {L c : Nat} : (#[.int .i64 T,.slice A L c] : Array Value).all (·.oneCell') = true:=by simp [Value.oneCell']
theorem encF_take_len (fs : List Fd) {i : Nat} (hi : i < fs.length) : (encF (fs.take (i + 1))).length = (encF (fs.take i)).length + (3 + (bsF fs i).length):=by
 rw [encF_take fs hi,List.length_append,zha]
theorem sizeOf_calls (v : Value) (fs : List Fd) (w : World) (hF : Fl w v fs) (hM : mayFs fs = true) :
  Calls Tryz.prog 179 #[v] w fun e w' => e = .returned (.int .i64 ((encF fs).length : Nat)) ∧ Ext w w':=by
 obtain ⟨hB,AL,c,rfl,hc,hx⟩:=hF
 obtain ⟨n,hn⟩ : ∃ n,n = fs.length:=⟨_,rfl⟩
 rw [← hn] at hx hc ⊢
 have HR:=veil (And.intro hn (And.intro hM hB))
 have HX:=veil hx
 have hnL : n ≤ 64:=by rw [hn]; exact mayFs_64 hM
 clear hx hB hn hM
 go_enter Tryz.func179,Tryz.ntmps179
 go_wp2
 go_loopw [3,8] (fun s v wr => ∃ i : Nat,i ≤ n ∧ s = .int .i64 ((encF (fs.take i)).length : Nat) ∧ v = .int .i64 (i : Int) ∧ Ext w wr)
  (fun _ v _ => n - (intOf v).toNat)
 case atStart => exact ⟨0,by omega,rfl,rfl,Ext.refl _⟩
 case round =>
  obtain ⟨i,hi,rfl,rfl,hE⟩:=hrel
  by_cases hlt : i < n
  ·
   have hd1 : decide ((i : Int) < (n : Int)) = true:=by simp; omega
   have hii : (i : Int) < (n : Int):=by omega
   have hok:=mayFs_ok HR.out.2.1 (by have:=HR.out.1; omega : i < fs.length)
   have hst:=encF_take_len fs (by have:=HR.out.1; omega : i < fs.length)
   have hle:=zgb HR.out.2.1 i
   obtain ⟨b,o,hAL,hb,hcl⟩:=HX.out.resolve_left (by omega)
   obtain ⟨h1,A,c',h2,h3,h4⟩:=hcl i hlt
   have c0:=(hE.cell hb).trans h1
   have c1:=(hE.cell hb).trans h2
   obtain ⟨S,hS⟩ : ∃ S,S = (encF (fs.take i)).length:=⟨_,rfl⟩
   rw [← hS] at hst hle ⊢
   have hs : (S : Int) ≤ 4194432:=by omega
   have hL1:=hok.2.2.1
   have HS:=veil hst
   clear hcl h1 h2 hok hst hle h3 h4 hS
   generalize tgF fs i = T at *
   obtain ⟨L,hL⟩ : ∃ L,L = (bsF fs i).length:=⟨_,rfl⟩
   rw [← hL] at c1 hL1
   have HL:=veil hL
   clear hL
   have HRG:=veil (rng_fd c0 c1)
   clear c0 c1
   have hL2 : (L : Int) ≤ 65535:=by omega
   subst hAL
   go_upto_region 5 with (first
    | ((with_reducible refine zaa 11 ?_); refine wpList_load_mid rfl 135 _ rfl b _ rfl _ _ HRG.out Tryz.underlying135 rfl infoF2 ?_)
    | ((with_reducible refine zaa 5 ?_); refine zcq _ _ rfl rfl rfl rfl rfl rfl hzF (fun _ => rfl) (fun _ => rfl) infoF2 rfl one_fd ?_; intro g W hg hW hEW))
   have hEE:=hE.trans hEW
   obtain ⟨d0,d1⟩:=zhc hW
   clear hW hEW hE
   go_wp2
   go_roundw
   case rel => exact ⟨i + 1,by omega,by rw [HS.out,← HL.out]; simp,by go_num,hEE⟩
   case measure => simp [intOf]; omega
  ·
   obtain rfl : i = n:=by omega
   have e : encF (fs.take i) = encF fs:=by rw [HR.out.1,List.take_length]
   rw [e]
   go_wp2
   go_ret
   exact ⟨rfl,hE⟩
def szB (bs : List Nat) : Nat:=if bs.length < 3 then 3 else 3 + (256 * bs.getD 1 0 + bs.getD 2 0)
theorem sizeFirst_calls (A : Option Addr) (m c : Nat) (bs : List Nat) (hm : m = bs.length) (w : World) (hS : Bs w A bs) :
  Calls Tryz.prog 138 #[.slice A m c] w fun e w' => e = .returned (.int .i64 (szB bs : Nat)) ∧ Ext w w':=by
 have HS:=veil (And.intro hm hS)
 by_cases h3 : m < 3
 ·
  have hd : decide ((m : Int) < 3) = true:=by simp; omega
  have hs : szB bs = 3:=if_pos (by omega)
  have HZ:=veil hs
  rw [HZ.out]
  clear hm hS hs
  go_enter Tryz.func138,Tryz.ntmps138
  go_wp2
  go_ret
  exact ⟨rfl,Ext.refl _⟩
 ·
  have hd : decide ((m : Int) < 3) = false:=by simp; omega
  obtain ⟨b,o,hA,hbl,c1⟩:=hS.cell (j:=1) (by omega)
  obtain ⟨b',o',hA',_,c2⟩:=hS.cell (j:=2) (by omega)
  obtain ⟨e1,e2⟩ : b' = b ∧ o' = o:=by rw [hA] at hA'; injection hA' with h; injection h with h1 h2; exact ⟨h1.symm,h2.symm⟩
  subst e1 e2
  have l1:=hS.1.getD 1
  have l2:=hS.1.getD 2
  obtain ⟨X,hX⟩ : ∃ X,X = bs.getD 1 0:=⟨_,rfl⟩
  obtain ⟨Y,hY⟩ : ∃ Y,Y = bs.getD 2 0:=⟨_,rfl⟩
  rw [← hX] at c1 l1
  rw [← hY] at c2 l2
  have hs : szB bs = 3 + (256 * X + Y):=by unfold szB; rw [if_neg (by omega),hX,hY]
  have HZ:=veil hs
  rw [HZ.out]
  have k1 : (X : Int) ≤ 255:=by omega
  have k2 : (Y : Int) ≤ 255:=by omega
  have i1 : (1 : Int) < (m : Int):=by omega
  have i2 : (2 : Int) < (m : Int):=by omega
  clear hm hS hs hX hY l1 l2 hA' h3
  subst hA
  go_enter Tryz.func138,Tryz.ntmps138
  go_wp2
  go_quiet (fail)
  go_wp2
  go_ret
  refine ⟨?_,Ext.drewK _ _⟩
  show Ending.returned (.int .i64 (3 + (X : Int) * 256 + (Y : Int))) = _
  rw [show 3 + (X : Int) * 256 + (Y : Int) = ((3 + (256 * X + Y) : Nat) : Int) by omega]
theorem zeq (v : Value) (fs : List Fd) (w : World) (hF : Fl w v fs) (hL : fs.length ≤ 1000000000) :
  Calls Tryz.prog 140 #[v] w fun e w' => e = .returned (.bool (mayFs fs)) ∧ Ext w w':=by
 obtain ⟨hB,AL,c,rfl,hc,hx⟩:=hF
 obtain ⟨R,hR⟩ : ∃ R,R = mayFs fs:=⟨_,rfl⟩
 rw [← hR]
 obtain ⟨n,hn⟩ : ∃ n,n = fs.length:=⟨_,rfl⟩
 rw [← hn] at hx hc ⊢
 have HR:=veil (And.intro hR (And.intro hn hL))
 have HX:=veil hx
 have hnL : n ≤ 1000000000:=by omega
 clear hR hx hB hn hL
 by_cases h64 : (64 : Int) < (n : Int)
 ·
  have hd : decide ((64 : Int) < (n : Int)) = true:=decide_eq_true h64
  have e : R = false:=by
   rw [HR.out.1]
   exact decide_eq_false fun hh => by have:=hh.1; have:=HR.out.2.1; omega
  subst e
  go_enter Tryz.func140,Tryz.ntmps140
  go_wp2
  go_ret
  exact ⟨rfl,Ext.refl _⟩
 ·
  have hd : decide ((64 : Int) < (n : Int)) = false:=decide_eq_false h64
  have hn64 : n ≤ 64:=by omega
  clear hnL h64
  go_enter Tryz.func140,Tryz.ntmps140
  go_wp2
  go_loopw [3,11] (fun s v wr => ∃ (i : Nat) (P : Int),i ≤ n ∧ s = .int .i64 P ∧ v = .int .i64 (i : Int) ∧ (∀ j,j < i → okF fs j) ∧ 0 ≤ P ∧ P ≤ 255 ∧ (i = 0 ∧ P = 0 ∨ 0 < i ∧ P = tgF fs (i - 1)) ∧ Ext w wr)
   (fun _ v _ => n - (intOf v).toNat)
  case atStart => exact ⟨0,0,by omega,rfl,rfl,fun j hj => by omega,by omega,by omega,.inl ⟨rfl,rfl⟩,Ext.refl _⟩
  case round =>
   obtain ⟨i,P,hi,rfl,rfl,hall,hP0,hP1,hP,hE⟩:=hrel
   by_cases hlt : i < n
   ·
    have hd1 : decide ((i : Int) < (n : Int)) = true:=by simp; omega
    have hii : (i : Int) < (n : Int):=by omega
    obtain ⟨b,o,hAL,hb,hcl⟩:=HX.out.resolve_left (by omega)
    obtain ⟨h1,A,c',h2,_,_⟩:=hcl i hlt
    have c0:=(hE.cell hb).trans h1
    have c1:=(hE.cell hb).trans h2
    obtain ⟨T,hT⟩ : ∃ T,T = tgF fs i:=⟨_,rfl⟩
    obtain ⟨L,hL⟩ : ∃ L,L = (bsF fs i).length:=⟨_,rfl⟩
    rw [← hT] at c0
    rw [← hL] at c1
    have HT:=veil (And.intro hT (And.intro hL hP))
    have HALL:=veil hall
    have hfalse : ∀ h : ¬ okF fs i,R = false:=fun h => HR.out.1.trans (mayFs_false (by have:=HR.out.2.1; omega) h)
    have HF:=veil hfalse
    have HRG:=veil (rng_fd c0 c1)
    clear h1 h2 hT hL hall hfalse hP c0 c1 hcl
    subst hAL
    go_upto_region 7 with (first
     | ((with_reducible refine zaa 14 ?_); refine wpList_load_mid rfl 135 _ rfl b _ rfl _ _ HRG.out Tryz.underlying135 rfl infoF2 ?_)
     | ((with_reducible refine zaa 5 ?_); refine zcq _ _ rfl rfl rfl rfl rfl rfl hzF (fun _ => rfl) (fun _ => rfl) infoF2 rfl one_fd ?_; intro g W hg hW hEW))
    have hEE:=hE.trans hEW
    obtain ⟨d0,d1⟩:=zhc hW
    clear hW hEW hE
    by_cases g1 : T ≤ P
    ·
     have e : R = false:=HF.out fun h => by
      have h4:=h.2.2.2
      have h1:=h.1
      rw [← HT.out.1] at h1 h4
      rcases HT.out.2.2 with ⟨_,h0⟩ | ⟨h0,h5⟩
      ·
       omega
      ·
       have:=h4 h0; omega
     subst e
     have hd2 : decide (T ≤ P) = true:=decide_eq_true g1
     go_wp2
     go_ret
     exact ⟨rfl,hEE⟩
    ·
     have hd2 : decide (T ≤ P) = false:=decide_eq_false g1
     by_cases g2 : 255 < T
     ·
      have e : R = false:=HF.out fun h => by have:=h.2.1; rw [← HT.out.1] at this; omega
      subst e
      have hd3 : decide (255 < T) = true:=decide_eq_true g2
      go_wp2
      go_ret
      exact ⟨rfl,hEE⟩
     ·
      have hd3 : decide (255 < T) = false:=decide_eq_false g2
      by_cases g3 : (65535 : Int) < (L : Int)
      ·
       have e : R = false:=HF.out fun h => by have:=h.2.2.1; rw [← HT.out.2.1] at this; omega
       subst e
       have hd4 : decide ((65535 : Int) < (L : Int)) = true:=decide_eq_true g3
       go_wp2
       go_ret
       exact ⟨rfl,hEE⟩
      ·
       have hd4 : decide ((65535 : Int) < (L : Int)) = false:=decide_eq_false g3
       go_wp2
       go_roundw
       case rel =>
        refine ⟨i + 1,T,by omega,rfl,by go_num,fun j hj => ?_,by omega,by omega,.inr ⟨by omega,HT.out.1⟩,hEE⟩
        by_cases e : j = i
        ·
         subst e
         refine ⟨by rw [← HT.out.1]; omega,by rw [← HT.out.1]; omega,by rw [← HT.out.2.1]; omega,fun h0 => ?_⟩
         rw [← HT.out.1]
         rcases HT.out.2.2 with ⟨h5,_⟩ | ⟨_,h5⟩ <;> omega
        ·
         exact HALL.out j (by omega)
       case measure => simp [intOf]; omega
   ·
    obtain rfl : i = n:=by omega
    have e : R = true:=by
     rw [HR.out.1,mayFs_len (by rw [← HR.out.2.1]; exact hall),← HR.out.2.1]
     exact decide_eq_true hn64
    subst e
    clear hall
    go_wp2
    go_ret
    exact ⟨rfl,hE⟩
theorem clone8_calls (A : Option Addr) (m c : Nat) (bs : List Nat) (hm : m = bs.length) (hle : m ≤ 1000000000) (w : World) (hS : Bs w A bs) :
  Calls Tryz.prog 139 #[.slice A m c] w fun e w' => ∃ A' c',e = .returned (.slice A' m c') ∧ Ext w w' ∧ m ≤ c' ∧ Bs w' A' bs ∧ Fresh w A' bs:=by
 have HS:=veil (And.intro hm hS)
 rcases A with _ | ad
 ·
  have h0 : m = 0:=by
   rcases hS.2 with h | ⟨_,_,h,_⟩
   ·
    omega
   ·
    cases h
  subst h0
  clear hm hS
  have ke : (binOp .eql 30 (.slice none 0 c) (.slice none 0 0)).run Tryz.prog w = .ok (.bool true) w:=by kernel_rfl
  go_enter Tryz.func139,Tryz.ntmps139
  go_wp2
  go_ret
  exact ⟨none,0,rfl,Ext.refl _,Nat.le_refl _,⟨HS.out.2.1,.inl HS.out.1.symm⟩,.inl HS.out.1.symm⟩
 ·
  have ke : (binOp .eql 30 (.slice (some ad) m c) (.slice none 0 0)).run Tryz.prog w = .ok (.bool false) w:=by kernel_rfl
  clear hm hS
  go_enter Tryz.func139,Tryz.ntmps139
  go_wp2_with ((with_reducible refine zaa 7 ?_); refine wpl_append0 rfl rfl rfl rfl (zab w _) (HS.out.2.ext (Ext.alloc w _)) HS.out.1 hle ?_; intro A' c' w2 hE2 hc' hB' hF')
  go_ret
  exact ⟨A',c',rfl,(Ext.alloc w _).trans hE2,hc',hB',hF'.imp id fun h b o e => Nat.le_trans (Below.size (Ext.alloc w _)) (h b o e)⟩
def kyC (k : Ky) : List Value:=.int .i64 k.i :: ((qc k.x k.y k.f).toList ++ [.int .i64 k.a,.int .i64 k.b])
theorem zin (k : Ky) : (kyC k).length = 12:=by simp [kyC,qc]
abbrev Ks (w : World) (v : Value) (l : List Ky) : Prop:=Ls 12 kyC w v l
def TopK (l : List Ky) : Prop:=∀ k ∈ l,k.x < top ∧ k.y < top
theorem infoKy : (Tryz.prog.info? 62).map (·.size) = some 12:=by kernel_rfl
theorem iKy (k : Ky) : (Tryz.prog.info? 62).map (·.size) = some (kyC k).length:=by rw [zin]; exact infoKy
theorem iKyA (k : Ky) : (Tryz.prog.info? 62).map (·.size) = some (kyC k).toArray.size:=by rw [List.size_toArray,zin]; exact infoKy
theorem hzKy (W : World) : (Instr.alloc 62 true (.tuple #[])).run Tryz.prog W = .ok (ptrTo W.heap.size) (W.alloc (.cells #[.int .i64 0,vI vU 0,vI vU 0,vI vU 0,vI vU 0,vI vU 0,vI vU 0,vI vU 0,vI vU 0,.bool false,.int .i64 0,.int .i64 0] 62)):=by simp [Instr.alloc,go_sem]
theorem kyA_one (k : Ky) : (kyC k).toArray.all (·.oneCell') = true:=by simp [kyC,qc,Value.oneCell']
theorem kyA_size (k : Ky) : (#[.int .i64 0,vI vU 0,vI vU 0,vI vU 0,vI vU 0,vI vU 0,vI vU 0,vI vU 0,vI vU 0,.bool false,.int .i64 0,.int .i64 0] : Array Value).size = (kyC k).toArray.size:=by
 have h : (kyC k).toArray.size = 12:=by rw [List.size_toArray,zin]
 rw [h]
 rfl
section
variable {w : World} {b o : Nat} {k : Ky}
theorem ky_i (h : w.rangeAt b o (kyC k)) : w.cell? ⟨b,o,none⟩ = some (.int .i64 k.i):=h 0 _ rfl
theorem ky_f (h : w.rangeAt b o (kyC k)) : w.cell? ⟨b,o + 9,none⟩ = some (.bool k.f):=h 9 _ rfl
theorem ky_a (h : w.rangeAt b o (kyC k)) : w.cell? ⟨b,o + 10,none⟩ = some (.int .i64 k.a):=h 10 _ rfl
theorem ky_b (h : w.rangeAt b o (kyC k)) : w.cell? ⟨b,o + 11,none⟩ = some (.int .i64 k.b):=h 11 _ rfl
theorem ky_q (h : w.rangeAt b o (kyC k)) : w.rangeAt b (o + 1) (qc k.x k.y k.f).toList:=fun j v hv => by
 have hj : j < 9:=(List.getElem?_eq_some_iff.1 hv).1
 have:=h (j + 1) v (by
  show ((qc k.x k.y k.f).toList ++ _)[j]? = _
  rw [List.getElem?_append_left hj]
  exact hv)
 rw [Nat.add_assoc,Nat.add_comm 1 j]
 exact this
theorem zfb {g : Nat} {fr : Nat × Nat} (h : w.heap[g]? = some (.cells (kyC k).toArray 62 fr)) : w.rangeAt g 0 (kyC k):=fun j v hv => by
 rw [Nat.zero_add,cell_of_row w g j _ _ _ h]
 simpa using hv
end
def qO : Option Ky → Array Value
 | none => qc 0 0 false
 | some k => qc k.x k.y k.f
def PZ : Array Value:=#[vI vU 0,vI vU 0,vI vU 0,vI vU 0,vI vU 0,vI vU 0,vI vU 0,vI vU 0,.bool false]
theorem pz_qc : PZ = qc 0 0 false:=by
 obtain ⟨h0,h1,h2,h3⟩:=wd_z
 unfold qc PZ
 rw [h0,h1,h2,h3]
theorem iPZ : (Tryz.prog.info? 60).map (·.size) = some PZ.size:=by kernel_rfl
theorem pz_one : PZ.all (·.oneCell') = true:=by simp [PZ,Value.oneCell']
theorem zim {l : List Ky} {i : Nat} (h : i < l.length) : l[i]? = some (l.getD i ky0):=by rw [List.getD_eq_getElem?_getD,List.getElem?_eq_getElem h]; rfl
theorem cntK_no {k : Ky} {id at_ : Int} (h : ¬ (k.i = id ∧ k.a ≤ at_ ∧ at_ < k.b)) : cntK k id at_ = false:=by
 unfold cntK
 simp only [Bool.and_eq_false_iff,decide_eq_false_iff_not]
 omega
theorem cntK_yes {k : Ky} {id at_ : Int} (h : k.i = id ∧ k.a ≤ at_ ∧ at_ < k.b) : cntK k id at_ = true:=by
 unfold cntK
 simp only [Bool.and_eq_true,decide_eq_true_eq]
 omega
theorem rfind10_calls (v : Value) (l : List Ky) (id at_ : Int) (w : World) (hF : Ks w v l) (hL : l.length ≤ 1000000000) :
  Calls Tryz.prog 56 #[v,.int .i64 id,.int .i64 at_] w fun e w' => e = .returned (.tuple #[.agg (qO (findK l id at_)),.bool (findK l id at_).isSome]) ∧ Ext w w':=by
 obtain ⟨AL,c,rfl,hc,hx⟩:=hF
 obtain ⟨n,hn⟩ : ∃ n,n = l.length:=⟨_,rfl⟩
 rw [← hn] at hx hc hL ⊢
 have HX:=veil (And.intro hx hn)
 obtain ⟨R,hR⟩ : ∃ R,R = findK l id at_:=⟨_,rfl⟩
 rw [← hR]
 have HR:=veil hR
 clear hx hn hR
 go_enter Tryz.func56,Tryz.ntmps56
 go_upto_region 1 with (fail)
 obtain ⟨g,hg⟩ : ∃ g,g = w.heap.size:=⟨_,rfl⟩
 obtain ⟨w0,hw0⟩ : ∃ W,W = w.alloc (.cells PZ 60):=⟨_,rfl⟩
 have h0:=zab w (.cells PZ 60)
 have hE0:=Ext.alloc w (.cells PZ 60)
 rw [← hw0] at hE0
 rw [← hw0,← hg] at h0
 have H0:=veil (And.intro hE0 (And.intro h0 (show w.heap.size ≤ g by omega)))
 unfold PZ at hw0
 rw [← hw0,← hg]
 clear hw0 hg h0 hE0
 go_wp2
 go_loopw [8] (fun v wr => ∃ i : Nat,i ≤ n ∧ v = .int .i64 (i : Int) ∧ (∀ j,j < i → cntK (l.getD j ky0) id at_ = false) ∧ Ext w0 wr)
  (fun v _ => n - (intOf v).toNat)
 case atStart => exact ⟨0,by omega,rfl,fun j hj => by omega,Ext.refl _⟩
 case round =>
  obtain ⟨i,hi,rfl,hall,hE⟩:=hrel
  by_cases hlt : i < n
  ·
   have hd1 : decide ((i : Int) < (n : Int)) = true:=by simp; omega
   have hii : (i : Int) < (n : Int):=by omega
   have hil : i < l.length:=by have:=HX.out.2; omega
   obtain ⟨b,o,hAL,hb,hcl⟩:=HX.out.1.resolve_left (by omega)
   have HRG:=veil (zan (H0.out.1.trans hE) hb (hcl i _ (zim hil)))
   obtain ⟨k,hk⟩ : ∃ k,k = l.getD i ky0:=⟨_,rfl⟩
   rw [← hk] at HRG
   have c0:=ky_i HRG.out
   have c10:=ky_a HRG.out
   have c11:=ky_b HRG.out
   have HK:=veil (And.intro hk (And.intro hall (And.intro hE hil)))
   subst hAL
   clear hk hall hE hil hb hcl
   by_cases gc : k.i = id ∧ k.a ≤ at_ ∧ at_ < k.b
   ·
    have hr : R = some k:=by
     rw [HR.out,HK.out.1]
     exact findK_at HK.out.2.2.2 HK.out.2.1 (by rw [← HK.out.1]; exact cntK_yes gc)
    have hd2 : decide (k.a ≤ at_) = true:=decide_eq_true gc.2.1
    have hd3 : decide (at_ < k.b) = true:=decide_eq_true gc.2.2
    have f1 : (k.i == id) = true:=by simp [gc.1]
    have HF:=veil (And.intro hr (HK.out.2.2.1.block H0.out.2.1))
    have g1:=gc.1
    rw [g1] at c0 f1
    clear hr gc g1
    go_wp2_with (first
     | ((with_reducible refine zaa 44 ?_); refine wpList_load_mid rfl 60 _ rfl b (o + i * 12 + 1) rfl _ _ (ky_q HRG.out) Tryz.underlying60 rfl (iT k.x k.y k.f) ?_)
     | ((with_reducible refine zac ?_); refine wpList_store_row rfl 60 _ _ rfl g (qc k.x k.y k.f) rfl rfl 60 _ HF.out.2 (iT _ _ _) rfl (zgm _ _ _) ?_))
    refine bodyPost_ret (zaj rfl _ _ g 60 (qc k.x k.y k.f) (0,0) _ rfl (setRow_heap wr g _ (qc k.x k.y k.f) 60 (0,0) HF.out.2) Tryz.underlying60 rfl (iT _ _ _)) rfl ⟨by rw [HF.out.1]; rfl,zae (H0.out.1.trans HK.out.2.2.1) H0.out.2.2 _⟩
   ·
    have hno:=cntK_no gc
    have HN:=veil hno
    have go : ∀ j,j < i + 1 → cntK (l.getD j ky0) id at_ = false:=fun j hj => by
     by_cases e : j = i
     ·
      subst e
      rw [← HK.out.1]
      exact HN.out
     ·
      exact HK.out.2.1 j (by omega)
    have GO:=veil go
    clear hno go
    by_cases g1 : k.i = id
    ·
     have f1 : (k.i == id) = true:=by simp [g1]
     rw [g1] at c0 f1
     by_cases g2 : k.a ≤ at_
     ·
      have hd2 : decide (k.a ≤ at_) = true:=decide_eq_true g2
      have hd3 : decide (at_ < k.b) = false:=decide_eq_false fun h => gc ⟨g1,g2,h⟩
      clear gc g1 g2
      go_wp2
      go_roundw
      case rel => exact ⟨i + 1,by omega,by go_num,GO.out,HK.out.2.2.1⟩
      case measure => simp [intOf]; omega
     ·
      have hd2 : decide (k.a ≤ at_) = false:=decide_eq_false g2
      clear gc g1 g2
      go_wp2
      go_roundw
      case rel => exact ⟨i + 1,by omega,by go_num,GO.out,HK.out.2.2.1⟩
      case measure => simp [intOf]; omega
    ·
     have f1 : (k.i == id) = false:=by simp [g1]
     clear gc
     go_wp2
     go_roundw
     case rel => exact ⟨i + 1,by omega,by go_num,GO.out,HK.out.2.2.1⟩
     case measure => simp [intOf]; omega
  ·
   obtain rfl : i = n:=by omega
   have hr : R = none:=by
    rw [HR.out]
    exact zgd (by rw [← HX.out.2]; exact hall)
   have HE:=veil (And.intro hr (And.intro hE (hE.block H0.out.2.1)))
   clear hall hr hE
   go_wp2_with ((with_reducible refine zac ?_); refine wpList_store_row rfl 60 _ _ rfl g PZ rfl rfl 60 _ HE.out.2.2 iPZ rfl pz_one ?_)
   refine bodyPost_ret (zaj rfl _ _ g 60 PZ (0,0) _ rfl (setRow_heap wr g _ PZ 60 (0,0) HE.out.2.2) Tryz.underlying60 rfl iPZ) rfl ⟨by rw [HE.out.1,pz_qc]; rfl,zae (H0.out.1.trans HE.out.2.1) H0.out.2.2 _⟩
theorem qO_size (o : Option Ky) : PZ.size = (qO o).size:=by cases o <;> rfl
theorem qO_info (o : Option Ky) : (Tryz.prog.info? 60).map (·.size) = some (qO o).size:=by cases o <;> exact iT _ _ _
theorem qO_one (o : Option Ky) : (qO o).all (·.oneCell') = true:=by cases o <;> exact zgm _ _ _
theorem kcheckB_no {L : Low} {l : List Ky} {bs : List Nat} {at_ : Int} {t : Tk} {r s : Nat} (h : openB bs = some (t,r,s)) (hf : findK l t.k at_ = none) : kcheckB L l bs at_ = (⟨0,0,0,0,0⟩,4):=by
 rw [zdb h,hf]
theorem kcheckB_yes {L : Low} {l : List Ky} {bs : List Nat} {at_ : Int} {t : Tk} {r s : Nat} {k : Ky} (h : openB bs = some (t,r,s)) (hf : findK l t.k at_ = some k) : kcheckB L l bs at_ = checkB L k.x k.y k.f bs:=by
 rw [zdb h,hf]
theorem rcheck10_calls {L : Low} (R : LowR L) (v : Value) (l : List Ky) (at_ : Int) (A : Option Addr) (m c : Nat) (bs : List Nat) (hm : m = bs.length) (hmc : m ≤ c) (hle : m ≤ 100000) (w : World) (hS : Bs w A bs) (hF : Ks w v l) (hT : TopK l) (hL : l.length ≤ 1000000000) :
  Calls Tryz.prog 29 #[v,.slice A m c,.int .i64 at_] w fun e w' => e = .returned (.tuple #[tkV (kcheckB L l bs at_).1,.int .i64 ((kcheckB L l bs at_).2 : Int)]) ∧ Ext w w':=by
 have KO:=veil (fun W => zjk R A m c bs hm hmc (by omega) W)
 have KF:=veil (fun id W hW => rfind10_calls v l id at_ W hW hL)
 have KC:=veil (fun (k : Ky) (hk : k ∈ l) W => rcheck9_calls R k.x k.y k.f (hT k hk).1 (hT k hk).2 A m c bs hm hmc hle W)
 have HB:=veil (And.intro hS hF)
 clear hm hmc hle hS hF hT hL
 go_enter Tryz.func29,Tryz.ntmps29
 go_upto_region 1 with (fail)
 obtain ⟨g6,hg6⟩ : ∃ g,g = w.heap.size:=⟨_,rfl⟩
 obtain ⟨w0,hw0⟩ : ∃ W,W = w.alloc (.cells TZ 24):=⟨_,rfl⟩
 have h0:=zab w (.cells TZ 24)
 have hE0:=Ext.alloc w (.cells TZ 24)
 rw [← hw0] at hE0
 rw [← hw0,← hg6] at h0
 have H0:=veil (And.intro hE0 (And.intro h0 (show w.heap.size ≤ g6 by omega)))
 unfold TZ at hw0
 rw [← hw0,← hg6]
 clear hw0 hg6 h0 hE0
 go_upto_region 2 with (first
  | (go_at_call 55; refine (KO.out w0 (HB.out.1.ext H0.out.1)).mono ?_; rintro e w1 ⟨T,G,y,rfl,hE1,hA⟩; obtain ⟨t,r,s,o,rfl,rfl,rfl,hY⟩:=openA_all hA)
  | ((with_reducible refine zac ?_); refine wpList_store_row rfl 24 _ _ rfl w1.heap.size (tkC t) rfl rfl 24 _ (zat w1 _ _).1 (iTk t) rfl (zbd t) ?_)
  | ((with_reducible refine zac ?_); refine wpList_store_row rfl 69 _ _ rfl (w1.heap.size + 1) (gc r s) rfl rfl 69 _ (zcg _ (zat w1 _ _).2 (Nat.lt_succ_self _)) (iSg r s) rfl (zcm r s) ?_))
 have hF:=zbx (T:=tkC t) (G:=gc r s) (zdy w1 (.cells TZ 24) (.cells Z8 69)) (zat w1 _ _).1 (zat w1 _ _).2 ⟨Nat.le_refl _,Nat.lt_succ_self _⟩
 have hE2:=H0.out.1.trans (hE1.trans hF.1)
 have h61:=(hE1.trans hF.1).block H0.out.2.1
 have h8:=hF.2.1
 clear hF hE1 hA
 obtain ⟨g8,hg8⟩ : ∃ g,g = w1.heap.size:=⟨_,rfl⟩
 obtain ⟨g9,hg9⟩ : ∃ g,g = w1.heap.size + 1:=⟨_,rfl⟩
 rw [← hg9,← hg8] at hE2 h61 h8 ⊢
 obtain ⟨w2,hw2⟩ : ∃ W,W = (((w1.alloc (.cells TZ 24)).alloc (.cells Z8 69)).setRow g8 (tkC t)).setRow g9 (gc r s):=⟨_,rfl⟩
 rw [← hw2] at hE2 h61 h8
 unfold TZ Z8 at hw2
 rw [← hw2]
 have H2:=veil (And.intro hE2 (And.intro h61 H0.out.2.2))
 have c4 : w2.cell? ⟨g8,4,none⟩ = some (.int .i64 t.k):=by rw [cell_of_row w2 g8 4 _ _ _ h8]; rfl
 have HY:=veil hY
 clear hw2 hg8 hg9 hE2 h61 h8 hY KO H0
 rcases HY.out with ⟨hp,rfl⟩ | ⟨hp,rfl⟩
 ·
  have hr:=zec (L:=L) (l:=l) (at_:=at_) hp
  clear HY hp c4
  go_wp2_with ((with_reducible refine zac ?_); refine wpList_store_row rfl 24 _ _ rfl g6 TZ rfl rfl 24 _ H2.out.2.1 iTZ rfl zbr ?_)
  refine bodyPost_ret (zaj rfl _ _ g6 24 TZ (0,0) _ rfl (setRow_heap w2 g6 _ TZ 24 (0,0) H2.out.2.1) Tryz.underlying24 rfl iTZ) rfl ⟨by rw [hr]; rfl,zae H2.out.1 H2.out.2.2 _⟩
 ·
  have HP:=veil hp
  clear HY hp
  obtain ⟨o,ho⟩ : ∃ o,o = findK l t.k at_:=⟨_,rfl⟩
  have KG : Hid (Calls Tryz.prog 56 #[v,.int .i64 t.k,.int .i64 at_] w2 fun e w' => e = .returned (.tuple #[.agg (qO o),.bool o.isSome]) ∧ Ext w2 w'):=veil (by rw [ho]; exact KF.out t.k w2 (HB.out.2.ext H2.out.1))
  have HO:=veil ho
  clear ho KF
  go_upto_region 5 with (first
   | (go_at_call 56; refine KG.out.mono ?_; rintro e w3 ⟨rfl,hE3⟩)
   | ((with_reducible refine zac ?_); refine wpList_store_row rfl 60 _ _ rfl w3.heap.size (qO o) rfl rfl 60 _ (zab w3 _) (qO_info o) (qO_size o) (qO_one o) ?_; rw [World.setRow_alloc_new]))
  have hE4:=hE3.trans (Ext.alloc w3 (.cells (qO o) 60))
  have h11:=zab w3 (.cells (qO o) 60)
  generalize w3.alloc (.cells (qO o) 60) = w4 at *
  generalize w3.heap.size = g11 at *
  have H4:=veil (And.intro (H2.out.1.trans hE4) (And.intro (hE4.block H2.out.2.1) (And.intro h11 H2.out.2.2)))
  clear hE3 hE4 h11 c4 KG H2
  cases o with
  | none =>
   have hr:=kcheckB_no (L:=L) HP.out HO.out.symm
   clear HO
   go_wp2_with ((with_reducible refine zac ?_); refine wpList_store_row rfl 24 _ _ rfl g6 TZ rfl rfl 24 _ H4.out.2.1 iTZ rfl zbr ?_)
   refine bodyPost_ret (zaj rfl _ _ g6 24 TZ (0,0) _ rfl (setRow_heap w4 g6 _ TZ 24 (0,0) H4.out.2.1) Tryz.underlying24 rfl iTZ) rfl ⟨by rw [hr]; rfl,zae H4.out.1 H4.out.2.2.2 _⟩
  | some k =>
   have hr:=kcheckB_yes (L:=L) HP.out HO.out.symm
   have hk:=(findK_cnt HO.out.symm).2
   have KD : Hid (Calls Tryz.prog 57 #[.slice A m c,.agg (qO (some k))] w4 fun e w' => e = .returned (.tuple #[tkV (checkB L k.x k.y k.f bs).1,.int .i64 ((checkB L k.x k.y k.f bs).2 : Int)]) ∧ Ext w4 w'):=veil (KC.out k hk w4 (HB.out.1.ext H4.out.1))
   rw [← hr] at KD
   obtain ⟨u,hu⟩ : ∃ u,u = kcheckB L l bs at_:=⟨_,rfl⟩
   rw [← hu] at KD
   have HU:=veil hu
   unfold tkV at KD
   clear hr hk hu HO KC HP
   go_wp2_with (first
    | ((with_reducible refine zaa 34 ?_); refine wpList_load_row rfl 60 _ rfl g11 rfl 60 (qO (some k)) (0,0) _ H4.out.2.2.1 Tryz.underlying60 rfl (qO_info _) ?_)
    | (go_at_call 57; refine KD.out.mono ?_; rintro e w5 ⟨rfl,hE5⟩)
    | ((with_reducible refine zac ?_); refine wpList_store_row rfl 24 _ _ rfl g6 (tkC u.1) rfl rfl 24 _ (hE5.block H4.out.2.1) (iTk _) rfl (zbd _) ?_))
   refine bodyPost_ret (zaj rfl _ _ g6 24 (tkC u.1) (0,0) _ rfl (setRow_heap w5 g6 _ (tkC u.1) 24 (0,0) (hE5.block H4.out.2.1)) Tryz.underlying24 rfl (iTk _)) rfl ⟨by rw [← HU.out]; rfl,zae (H4.out.1.trans hE5) H4.out.2.2.2 _⟩
theorem infoTG : (Tryz.prog.info? 5).map (fun i => (i.zero,i.size,i.bytes)) = some (some (.int .u8 0),1,1):=by kernel_rfl
theorem put_no (v : Value) (fs : List Fd) (w : World) (hF : Fl w v fs) (hL : fs.length ≤ 1000000000) (hM : mayFs fs = false) :
  Calls Tryz.prog 141 #[v] w fun e w' => e = .returned (.tuple #[.slice none 0 0,.iface 38 (.int .i64 1)]) ∧ Ext w w':=by
 have KM:=veil (zeq v fs w hF hL)
 rw [hM] at KM
 clear hF hL hM
 go_enter Tryz.func141,Tryz.ntmps141
 go_wp2_with (go_at_call 140; refine KM.out.mono ?_; rintro e w1 ⟨rfl,hE1⟩)
 go_ret2
 exact ⟨rfl,hE1⟩
theorem put_yes (v : Value) (fs : List Fd) (w : World) (hF : Fl w v fs) (hM : mayFs fs = true) :
  Calls Tryz.prog 141 #[v] w fun e w' => ∃ A c,e = .returned (.tuple #[.slice A (encF fs).length c,.nilIface]) ∧ (encF fs).length ≤ c ∧ Bs w' A (encF fs) ∧ Ext w w':=by
 have h64:=mayFs_64 hM
 have KM:=veil (zeq v fs w hF (by omega))
 rw [hM] at KM
 have HF:=veil hF
 obtain ⟨hB,AL,c,rfl,hc,hx⟩:=hF
 obtain ⟨n,hn⟩ : ∃ n,n = fs.length:=⟨_,rfl⟩
 rw [← hn] at hx hc KM HF ⊢
 have HR:=veil (And.intro hn (And.intro hM hB))
 have HX:=veil hx
 have hnL : n ≤ 64:=by omega
 clear hx hB hn hM h64
 go_enter Tryz.func141,Tryz.ntmps141
 go_upto_region 3 with (go_at_call 140; refine KM.out.mono ?_; rintro e w1 ⟨rfl,hE1⟩)
 have KS:=veil (sizeOf_calls _ fs w1 (HF.out.ext hE1) HR.out.2.1)
 have HE1:=veil hE1
 have hle:=zgb HR.out.2.1 fs.length
 rw [List.take_length] at hle
 obtain ⟨S,hS⟩ : ∃ S,S = (encF fs).length:=⟨_,rfl⟩
 rw [← hS] at KS hle
 obtain ⟨i8,hi8,hz0,hz1,hz2⟩:=info_parts infoTG
 have HI:=veil (And.intro hi8 (And.intro hz0 (And.intro hz1 hz2)))
 clear hE1 KM hi8 hz0 hz1 hz2 hS
 go_upto_region 4 with (first
  | (go_at_call 179; refine KS.out.mono ?_; rintro e w2 ⟨rfl,hE2⟩)
  | ((with_reducible refine zaa 14 ?_); refine wpList_make_own _ rfl _ _ 30 rfl w.heap.size 5 i8 (.int .u8 0) 1 Tryz.underlying30 HI.out.1 HI.out.2.1 HI.out.2.2.1 .i64 .i64 _ S rfl rfl rfl (by rw [HI.out.2.2.2]; omega) (by unfold maxLen; omega) (Below.size (HE1.out.trans hE2)) ?_; intro w3 hO3 hG3))
 have hE3 : Ext w w3:=(HE1.out.trans hE2).grown hG3 (Below.size (HE1.out.trans hE2)) fun k hk => by cases hk
 have hO : OwnB w3 w.heap.size (.slice (some ⟨w2.heap.size,0,none⟩) 0 S) []:=⟨(fun _ h => by cases h),hO3⟩
 clear hO3 hG3 hE2
 go_wp2
 go_loopw [4,17] (fun s v wr => ∃ i : Nat,i ≤ n ∧ OwnB wr w.heap.size s (encF (fs.take i)) ∧ v = .int .i64 (i : Int) ∧ Ext w wr)
  (fun _ v _ => n - (intOf v).toNat)
 case atStart => exact ⟨0,by omega,hO,rfl,hE3⟩
 case round =>
  obtain ⟨i,hi,hO,rfl,hE⟩:=hrel
  by_cases hlt : i < n
  ·
   have hd1 : decide ((i : Int) < (n : Int)) = true:=by simp; omega
   have hii : (i : Int) < (n : Int):=by omega
   have hok:=mayFs_ok HR.out.2.1 (by have:=HR.out.1; omega : i < fs.length)
   have hst:=encF_take fs (by have:=HR.out.1; omega : i < fs.length)
   have hle:=zgb HR.out.2.1 i
   obtain ⟨b,o,hAL,hb,hcl⟩:=HX.out.resolve_left (by omega)
   obtain ⟨h1,A,c',h2,h3,h4⟩:=hcl i hlt
   have c0:=(hE.cell hb).trans h1
   have c1:=(hE.cell hb).trans h2
   have hBS:=h4
   have hT1:=hok.1
   have hT2:=hok.2.1
   have hL1:=hok.2.2.1
   have HS:=veil (And.intro hst (And.intro hle hO))
   clear hcl h1 h2 hok hst hle h4 hO
   generalize tgF fs i = T at *
   generalize bsF fs i = D0 at *
   obtain ⟨L,hL⟩ : ∃ L,L = D0.length:=⟨_,rfl⟩
   rw [← hL] at c1 hL1 h3
   have HD:=veil (And.intro hL hBS)
   have HRG:=veil (rng_fd c0 c1)
   clear c0 c1 hL hBS
   have hL2 : (L : Int) ≤ 65535:=by omega
   subst hAL
   go_upto_region 7 with (first
    | ((with_reducible refine zaa 20 ?_); refine wpList_load_mid rfl 135 _ rfl b _ rfl _ _ HRG.out Tryz.underlying135 rfl infoF2 ?_)
    | ((with_reducible refine zaa 6 ?_); refine zcq _ _ rfl rfl rfl rfl rfl rfl hzF (fun _ => rfl) (fun _ => rfl) infoF2 rfl one_fd ?_; intro g W hg hW hEW))
   have hEE:=hE.trans hEW
   have HW:=veil (And.intro hW (And.intro hEE hEW))
   obtain ⟨d0,d1⟩:=zhc hW
   clear hW hEW hE hEE
   go_upto_region 9 with ((with_reducible refine zaa 34 ?_); refine zap _ rfl _ _ 30 rfl w.heap.size 5 i8 (.int .u8 0) 1 Tryz.underlying30 HI.out.1 HI.out.2.1 HI.out.2.2.1 HI.out.2.2.2 rfl _ _ _ rfl (HS.out.2.2.ext (HW.out.2.2.trans (Ext.alloc W _))).2 (some ⟨W.heap.size,0,none⟩) 3 3 rfl _ (hdr3 (zab W _) hT1 hT2 hL1 HD.out.1).from (fun _ => rfl) (by unfold maxLen; have:=HS.out.2.1; omega) (by have:=HS.out.2.1; omega) (Nat.le_trans (Below.size HW.out.2.1) (Below.size (Ext.alloc W _))) ?_; intro v6 w6 hO6 hG6 _)
   have hEa:=HW.out.2.1.trans (Ext.alloc W (.cells #[.int .u8 T,.int .u8 ((L : Int) / 256),.int .u8 ((L : Int) % 256)] 5))
   have hE6 : Ext w w6:=hEa.grown hG6 (Below.size hEa) fun k hk => (HS.out.2.2.2.lt hk).1
   have hgl : g < (W.alloc (.cells #[.int .u8 T,.int .u8 ((L : Int) / 256),.int .u8 ((L : Int) % 256)] 5)).heap.size:=Nat.lt_of_lt_of_le (Array.getElem?_eq_some_iff.1 HW.out.1).1 (Below.size (Ext.alloc W _))
   have hg6 : w6.heap[g]? = some (.cells #[.int .i64 T,.slice A L c'] 135 (0,0)):=(hG6.block g hgl fun hk => by have:=(HS.out.2.2.2.lt hk.symm).2; omega).trans ((Ext.alloc W _).block HW.out.1)
   have hO7 : OwnB w6 w.heap.size v6 (encF (fs.take i) ++ hdr (T,D0)):=OwnB.append hO6 HS.out.2.2.1 (hdr_byt _) rfl rfl
   obtain ⟨e0,e1⟩:=zhc hg6
   have hl3 : (encF (fs.take i) ++ hdr (T,D0)).length ≤ 4194435:=by rw [List.length_append]; have:=HS.out.2.1; show _ + 3 ≤ _; omega
   have H7:=veil (And.intro hO7 (And.intro hE6 (And.intro hg6 hl3)))
   have hfr:=(HD.out.2.ext hE6).from
   rw [← HD.out.1] at hfr
   have HFR:=veil hfr
   clear hO6 hG6 hEa hgl hg6 hO7 d0 d1 hl3 hfr hE6
   go_wp2_with ((with_reducible refine zaa 38 ?_); refine zap _ rfl _ _ 30 rfl w.heap.size 5 i8 (.int .u8 0) 1 Tryz.underlying30 HI.out.1 HI.out.2.1 HI.out.2.2.1 HI.out.2.2.2 rfl _ _ _ rfl H7.out.1.2 A L c' rfl _ HFR.out (fun _ => rfl) (by unfold maxLen; have:=H7.out.2.2.2; omega) (by have:=H7.out.2.2.2; omega) (Below.size H7.out.2.1) ?_; intro v8 w8 hO8 hG8 _)
   have hE8 : Ext w w8:=H7.out.2.1.grown hG8 (Below.size H7.out.2.1) fun k hk => (H7.out.1.2.lt hk).1
   have hO9 : OwnB w8 w.heap.size v8 (encF (fs.take i) ++ hdr (T,D0) ++ D0):=OwnB.append hO8 H7.out.1.1 HD.out.2.1 rfl HD.out.1
   rw [List.append_assoc] at hO9
   clear hO8 hG8
   go_roundw
   case rel => exact ⟨i + 1,by omega,by rw [HS.out.1]; exact hO9,by go_num,hE8⟩
   case measure => simp [intOf]; omega
  ·
   obtain rfl : i = n:=by omega
   have e : encF (fs.take i) = encF fs:=by rw [HR.out.1,List.take_length]
   rw [e] at hO
   obtain ⟨A,c2,rfl,hc2,hB2⟩:=hO.bs
   clear hO
   go_wp2
   go_ret2
   exact ⟨A,c2,rfl,hc2,hB2,hE⟩
theorem szB_long {D : List Nat} (h0 : 0 < D.length) (h : D.length < szB D) : parse D = none:=by
 unfold szB at h
 by_cases h3 : D.length < 3
 ·
  exact parse_two h3 h0
 ·
  rw [if_neg h3] at h
  have:=parse_long (bs:=D) (a:=0) (n:=256 * D.getD 1 0 + D.getD 2 0) (by omega) rfl (by omega)
  rwa [List.drop_zero] at this
theorem szB_3 {D : List Nat} (h : szB D ≤ D.length) : 3 ≤ D.length:=by
 unfold szB at h
 by_cases h3 : D.length < 3
 ·
  rw [if_pos h3] at h; omega
 ·
  omega
theorem szB_ge (D : List Nat) : 3 ≤ szB D:=by unfold szB; split <;> omega
theorem szB_step {D : List Nat} {N : Nat} (hN : szB D = 3 + N) (h3 : 3 ≤ D.length) (h : 3 + N ≤ D.length) :
  parse D = (parse (D.drop (3 + N))).map ((((D.getD 0 0 : Nat) : Int),(D.drop 3).take N) :: ·):=by
 unfold szB at hN
 rw [if_neg (by omega)] at hN
 have:=parse_more (bs:=D) (a:=0) (n:=N) (by omega) (by show N = 256 * D.getD 1 0 + D.getD 2 0; omega) (by omega)
 rwa [List.drop_zero,Nat.zero_add] at this
theorem get_of_false {bs D : List Nat} {fs : List Fd} (h : parse bs = (parse D).map (fs ++ ·)) (hl : 64 < fs.length) : getFs bs = none:=by
 rw [zbu,h]
 cases parse D with
 | none => rfl
 | some x =>
  have hm : mayFs (fs ++ x) = false:=decide_eq_false fun hh => by have:=hh.1; rw [List.length_append] at this; omega
  simp [hm]
def lenV : Value → Nat
 | .slice _ n _ => n
 | _ => 0
theorem run_slice_lowv {P : Program} {o : Oper} {a : Act} {t : TypeId} {x z : Operand} {v v' vz : Value} {W : World} (ho : o.op = .slice t x (some z) none none) (hx : a.eval x = v) (hz : a.eval z = vz)
  (h : (Instr.sliceAt t v (some vz) none none).run P W = .ok v' W) : (execOp a.eval o).run P W = .ok (.value v') W:=by
 unfold execOp
 simp only [ho,hx,hz,Option.map_some,Option.map_none,Sem.run_bind,h,Result.andThen_ok,Sem.run_pure]
theorem cut_from8 (A : Option Addr) (r c m : Nat) (hm : m ≤ r) (w : World) {y : Int} (hy : y = (m : Int)) : (Instr.sliceAt 30 (.slice A r c) (some (.int .i64 y)) none none).run Tryz.prog w = .ok (.slice (cutA A m c) (r - m) (c - m)) w:=by
 subst hy
 exact cut_from A r c m hm w
theorem bs_drop {w : World} {A : Option Addr} {D : List Nat} {c : Nat} (h : Bs w A D) (m : Nat) (hm : m ≤ D.length) (hc : D.length ≤ c) : Bs w (cutA A m c) (D.drop m):=by
 have:=h.cut m (n:=D.length - m) (by omega) hc
 rwa [List.take_of_length_le (by rw [List.length_drop]; omega)] at this
theorem zdg {P : Program} {Q : Exit → Act → World → Prop} {l : List Oper} {n k i d : Nat} {r : Sched} {a : Act} {w : World} {xs : List Operand} {ts : Array TypeId} {args : List Value} {R : Value → World → Prop} (o : Oper) (ho : l[i]? = some o) (hg : o.guard = none) (hd : o.dst = some d)
  (hop : o.op = .call { callee:=.value (.func k),args:=xs.toArray,argTypes:=ts }) (hx : xs.map a.eval = args)
  (he : ∀ W,(callFunc k args.toArray).run P W = .ok (.enter k args.toArray) W) (hc : ∀ W,Ext w W → Calls P k args.toArray W fun e W' => ∃ v,e = .returned v ∧ Ext W W' ∧ R v W')
  (h : ∀ v W,Ext w W → R v W → wpSched P l Q n r (a.put (some d) v) W) : wpSched P l Q n ((false,[i]) :: r) a w:=by
 refine zdf o ho hg fun W hW => ?_
 have h1 : execOp a.eval o = callFunc k (#[] ++ xs.toArray.map a.eval ++ #[]):=by
  cases o
  subst hop
  rfl
 have h2 : (execOp a.eval o).run P W = .ok (.enter k args.toArray) W:=by
  rw [h1,List.map_toArray,hx]
  simpa using he W
 unfold Oper.wp
 rw [h2,Oper.upon_enter]
 refine (hc W hW).mono ?_
 rintro e W' ⟨v,rfl,hE,hR⟩
 show (i < n → Ext W W') ∧ _
 rw [hd]
 exact ⟨fun _ => hE,h v W' (hW.trans hE) hR⟩
theorem zer {P : Program} {f : FuncId} {fn : Func} {c : Code} (hf : P.funcs[f]? = some fn) (hname : (fn.name == "runtime.NumGoroutine") = false) (hb : fn.body = some c) (args : Array Value) (w : World) :
  (callFunc f args).run P w = .ok (.enter f args) w:=by
 have hn : ¬ fn.name = "runtime.NumGoroutine":=by simpa using hname
 simp [callFunc,go_sem,hf,hb,hn]
theorem get8_calls (A : Option Addr) (m c : Nat) (bs : List Nat) (hm : m = bs.length) (hmc : m ≤ c) (hle : m ≤ 100000000) (w : World) (hS : Bs w A bs) :
  Calls Tryz.prog 90 #[.slice A m c] w fun e w' => ∃ x ev,e = .returned (.tuple #[x,ev]) ∧ Ext w w' ∧ GetA w' bs x ev:=by
 have HS:=veil (And.intro hm (And.intro hmc (And.intro hS hle)))
 clear hS hm hmc hle
 go_enter Tryz.func90,Tryz.ntmps90
 go_wp2
 go_loopw [0,4] (fun s v wr => ∃ (A : Option Addr) (m c : Nat) (D : List Nat) (fs : List Fd),s = .slice A m c ∧ m = D.length ∧ m ≤ c ∧ m ≤ 100000000 ∧ Bs w A D ∧ OwnFs wr w.heap.size v fs ∧ fs.length ≤ 65 ∧ parse bs = (parse D).map (fs ++ ·) ∧ Ext w wr)
  (fun s _ _ => lenV s)
 case atStart => exact ⟨A,m,c,bs,[],rfl,HS.out.1,HS.out.2.1,HS.out.2.2.2,HS.out.2.2.1,OwnFs.nil _ _,by simp,by simp,Ext.refl _⟩
 case round =>
  obtain ⟨A,m,c,D,fs,rfl,hm,hmc,hle,hB,hO,hfl,hpar,hE⟩:=hrel
  have HO:=veil (And.intro hO (And.intro hfl hpar))
  have HB:=veil (And.intro hm (And.intro hB hmc))
  obtain ⟨AL,cl,hv,hcl,_⟩:=hO.fl.2
  obtain ⟨k,hk⟩ : ∃ k,k = fs.length:=⟨_,rfl⟩
  rw [← hk] at hv hcl hfl
  have HK:=veil hk
  clear hO hpar hm hB hk
  have KM:=veil (zeq _ fs wr HO.out.1.fl (by have:=HK.out; omega))
  subst hv
  by_cases hlt : 0 < m
  ·
   have hd1 : decide ((0 : Int) < (m : Int)) = true:=by simp; omega
   have hd1' : decide (0 < m) = true:=by simp; omega
   by_cases hk : (k : Int) ≤ 64
   ·
    have hd2 : decide ((k : Int) ≤ 64) = true:=decide_eq_true hk
    have KZ:=veil (sizeFirst_calls A m c D HB.out.1 wr (HB.out.2.1.ext hE))
    have HZ3:=szB_ge D
    obtain ⟨N,hN⟩ : ∃ N,szB D = 3 + N:=⟨szB D - 3,by omega⟩
    rw [hN] at KZ
    have HN:=veil hN
    clear HZ3 hN
    go_upto_region 4 with (go_at_call 138; refine KZ.out.mono ?_; rintro e w1 ⟨rfl,hE1⟩)
    have HE1:=veil (hE.trans hE1)
    have hO1:=HO.out.1.keep hE1
    have HO1:=veil hO1
    clear hO1 KM hE1 KZ
    by_cases h4 : m < 3 + N
    ·
     have hd3 : decide ((m : Int) < 3 + (N : Int)) = true:=by simp; omega
     have hn : getFs bs = none:=by
      rw [zbu,HO.out.2.2,szB_long (by have:=HB.out.1; omega) (by have:=HB.out.1; rw [HN.out]; omega)]
      rfl
     go_wp2
     go_ret2
     exact ⟨_,_,rfl,HE1.out,.inl ⟨hn,⟨none,0,rfl⟩,rfl⟩⟩
    ·
     have hd3 : decide ((m : Int) < 3 + (N : Int)) = false:=by simp; omega
     have h3m : 3 ≤ m:=by have:=HB.out.1; have:=szB_3 (D:=D) (by rw [HN.out]; omega); omega
     have hst:=szB_step HN.out (by have:=HB.out.1; omega : 3 ≤ D.length) (by have:=HB.out.1; omega)
     have hbt:=HB.out.2.1.ext HE1.out
     obtain ⟨b,o,hA,hbl,c0⟩:=hbt.cell (j:=0) (by have:=HB.out.1; omega)
     rw [Nat.add_zero] at c0
     have l0:=HB.out.2.1.1.getD 0
     obtain ⟨T,hT⟩ : ∃ T,T = D.getD 0 0:=⟨_,rfl⟩
     rw [← hT] at c0 l0 hst
     have k0 : (T : Int) ≤ 255:=by omega
     have i0 : (0 : Int) < (m : Int):=by omega
     have HST:=veil (And.intro hst hbt)
     have hbd:=bs_drop (c:=c) HB.out.2.1 (3 + N) (by have:=HB.out.1; omega) (by have:=HB.out.1; omega)
     have HBD:=veil hbd
     clear hst hbt hT l0 hbd
     subst hA
     go_upto_region 6 with (fail)
     refine zds 11 [(true,[0,1,2,3,4,5,6,7]),(false,[8]),(true,[9]),(false,[10]),(false,[11]),(false,[12])] (by kernel_rfl) (by kernel_rfl) fun Q' hQ' => ?_
     refine' zbs (A:=_) _ rfl (by kernel_rfl) ?h1 ?h2
     case h1 =>
      intro D' hD hN'
      have d0:=hD.cell c0
      simp only [pickI,consO,List.getElem?_cons_zero,List.getElem?_cons_succ]
      iterate 7 (go_big_quiet_step (fail))
      go_big_quiet_want
      refine zch (.slice (cutA (some ⟨b,o,none⟩) 3 c) N (c - 3)) (fun x => run_slice_v rfl rfl rfl rfl (cut_mid _ _ _ 3 N (by omega) _ rfl (by omega))) ?_
      simp only [aP,lA,lZ,lS]
      go_big_quiet_on
      exact zcx
     have hl : N = ((D.drop 3).take N).length:=by rw [List.length_take,List.length_drop]; have:=HB.out.1; omega
     have hBc:=HST.out.2.cut 3 (n:=N) (c:=c) (by have:=HB.out.1; omega) (by have:=HB.out.1; omega)
     have HC:=veil (And.intro hl hBc)
     clear hl hBc
     refine zdg (R:=fun v W => ∃ A' c',v = .slice A' N c' ∧ N ≤ c' ∧ Bs W A' ((D.drop 3).take N) ∧ Fresh w1 A' ((D.drop 3).take N)) _ rfl rfl rfl rfl rfl (zer Tryz.func139 rfl rfl _) (fun W hW => (clone8_calls _ N (c - 3) ((D.drop 3).take N) HC.out.1 (by omega) W (HC.out.2.ext hW)).mono fun e W' ⟨A',c',he,hE',hc',hB',hF'⟩ => ⟨_,he,hE',A',c',rfl,hc',hB',hF'.imp id fun h b o e => Nat.le_trans (Below.size hW) (h b o e)⟩) ?_
     rintro _ W2 hE2 ⟨A',c',rfl,hc',hB',hF'⟩
     simp only [aP,lA,lZ,lS]
     refine' zbs (A:=_) _ rfl (by kernel_rfl) ?k1 ?k2
     case k1 =>
      intro D' hD hN'
      simp only [pickI,consO,List.getElem?_cons_zero,List.getElem?_cons_succ]
      repeat (go_big_quiet_step (fail))
      exact zcx
     refine zet (vs:=[(0,.agg #[.int .i64 (T : Int),.slice A' N c'])]) (C:=#[.int .i64 (T : Int),.slice A' N c']) (e:=135) _ rfl rfl rfl rfl rfl (fun W => by simp [Instr.buildSlice,go_sem]) ?_
     intro g2 W3 hg2 hgb2 hE3
     simp only [aP,lA,lZ,lS]
     have hEW3:=hE2.trans hE3
     have hown3:=HO1.out.keep hEW3
     have hoff : Off A' ((D.drop 3).take N) (Value.ownBlock (.slice AL k cl)):=hF'.off fun k hk => (HO1.out.lt hk).2
     have hBn:=hB'.ext hE3
     have hbase:=Nat.le_trans (Below.size HE1.out) (Below.size hEW3)
     have hNl:=HC.out.1
     have hfl9 : fs.length ≤ 1000000000:=by have:=HK.out; omega
     rw [hNl] at hgb2 hc'
     refine zgc (f:=((T : Int),(D.drop 3).take N)) (al:=(A',c')) _ rfl rfl rfl rfl rfl rfl (by decide) hown3 hgb2 hc' hBn hoff hfl9 hbase ?_
     intro v' W4 W5 hE4 hO5 hG5
     simp only [aP,lA,lZ,lS]
     have hE5 : Ext w W5:=(HE1.out.trans (hEW3.trans hE4)).grown hG5 (Below.size (HE1.out.trans (hEW3.trans hE4))) fun k hk => (HO1.out.lt hk).1
     have HO5:=veil (And.intro hO5 hE5)
     clear hown3 hoff hBn hbase hNl hgb2 hc' hO5 hE5 hG5
     refine zfu v' _ rfl rfl rfl rfl rfl ?_
     intro W6 hE6
     simp only [aP,lA,lZ,lS]
     refine zcu hQ' fun W7 hE7 => ?_
     have hle3 : 3 + N ≤ m:=by omega
     go_wp2_with ((with_reducible refine zaa 35 ?_); refine wpl_val (.slice (cutA (some ⟨b,o,none⟩) (3 + N) c) (m - (3 + N)) (c - (3 + N))) rfl (run_slice_lowv rfl rfl rfl (cut_from8 _ _ _ (3 + N) hle3 _ (by omega))) ?_)
     go_roundw
     case rel =>
      refine ⟨_,m - (3 + N),c - (3 + N),D.drop (3 + N),fs ++ [((T : Int),(D.drop 3).take N)],rfl,by rw [List.length_drop,← HB.out.1],by omega,by omega,HBD.out,(HO5.out.1.keep hE6).keep hE7,?_,?_,HO5.out.2.trans (hE6.trans hE7)⟩
      ·
       rw [List.length_append,List.length_singleton]; have:=HK.out; omega
      ·
       rw [HO.out.2.2,HST.out.1]
       cases parse (D.drop (3 + N)) with
       | none => rfl
       | some x => simp
     case measure => simp [lenV]; omega
   ·
    have hd2 : decide ((k : Int) ≤ 64) = false:=decide_eq_false hk
    have hmay : mayFs fs = false:=decide_eq_false fun hh => by have:=hh.1; have:=HK.out; omega
    rw [hmay] at KM
    have HE:=veil hE
    clear hE hmay
    go_wp2_with (go_at_call 140; refine KM.out.mono ?_; rintro e w2 ⟨rfl,hE2⟩)
    go_ret2
    exact ⟨_,_,rfl,HE.out.trans hE2,.inl ⟨get_of_false HO.out.2.2 (by have:=HK.out; omega),⟨none,0,rfl⟩,rfl⟩⟩
  ·
   have hd1 : decide ((0 : Int) < (m : Int)) = false:=by simp; omega
   have hd1' : decide (0 < m) = false:=by simp; omega
   have hp : parse bs = some fs:=by
    rw [HO.out.2.2,List.length_eq_zero_iff.1 (show D.length = 0 by have:=HB.out.1; omega),parse_nil]
    simp
   have HP:=veil (And.intro hE (And.intro hp HO.out.1.fl))
   cases hmay : mayFs fs with
   | false =>
    rw [hmay] at KM
    have hn : getFs bs = none:=by
     rw [zbu,hp]
     simp [hmay]
    have HN:=veil hn
    clear hE hmay hp hn
    go_wp2_with (go_at_call 140; refine KM.out.mono ?_; rintro e w2 ⟨rfl,hE2⟩)
    go_ret2
    exact ⟨_,_,rfl,HP.out.1.trans hE2,.inl ⟨HN.out,⟨none,0,rfl⟩,rfl⟩⟩
   | true =>
    rw [hmay] at KM
    have hn : getFs bs = some fs:=by
     rw [zbu,hp]
     simp [hmay]
    have HN:=veil hn
    clear hE hmay hp hn
    go_wp2_with (go_at_call 140; refine KM.out.mono ?_; rintro e w2 ⟨rfl,hE2⟩)
    go_ret2
    exact ⟨_,_,rfl,HP.out.1.trans hE2,.inr ⟨fs,HN.out,rfl,HP.out.2.2.ext hE2⟩⟩
theorem or_u64 {V Y : Nat} (hV : V < 72057594037927936) (hY : Y < 256) : bits .or .u64 (IntKind.u64.wrap ((V : Int) * 256)) (Y : Int) = ((256 * V + Y : Nat) : Int):=by
 rw [IntKind.wrap_u64,show (V : Int) * 256 % 18446744073709551616 = ((V * 256 : Nat) : Int) by omega,u64_or_nat _ _ (by omega) (by omega),nat_join 8 _ _ (by omega) (by omega),Nat.mul_comm]
theorem valB_lt8 {bs : List Nat} (h : Byt bs) : ∀ i,i ≤ bs.length → valB (bs.take i) < 256 ^ i
 | 0,_ => by simp [valB]
 | i + 1,hi => by
  have h1:=valB_lt8 h i (by omega)
  have h2:=h.getD i
  rw [zbj (by omega),Nat.pow_succ]
  omega
theorem valB_ge {bs : List Nat} : ∀ i,i < bs.length → bs.getD 0 0 * 256 ^ i ≤ valB (bs.take (i + 1))
 | 0,hi => by
  rw [zbj hi]
  omega
 | i + 1,hi => by
  have h1:=valB_ge (bs:=bs) i (by omega)
  rw [zbj hi,Nat.pow_succ,← Nat.mul_assoc]
  omega
theorem ofB_big {bs : List Nat} (h : Byt bs) (hl : 8 = bs.length) (hv : (9223372036854775807 : Int) < (valB bs : Nat)) : ofB bs = -1:=by
 unfold ofB
 rw [if_neg]
 rintro ⟨_,h0⟩
 have h1:=zjf h h0 7 (by omega)
 rw [List.take_of_length_le (by omega)] at h1
 have : (128 : Nat) * 256 ^ 7 = 9223372036854775808:=by decide
 omega
theorem ofB_small {bs : List Nat} (hl : 8 = bs.length) (hv : ¬ (9223372036854775807 : Int) < (valB bs : Nat)) : ofB bs = (valB bs : Nat):=by
 unfold ofB
 rw [if_pos]
 refine ⟨hl.symm,?_⟩
 have h1:=valB_ge (bs:=bs) 7 (by omega)
 rw [List.take_of_length_le (by omega)] at h1
 have : (256 : Nat) ^ 7 = 72057594037927936:=by decide
 omega
def nbv (U j : Nat) : Value:=.int .u8 ((U / 256 ^ (7 - j) % 256 : Nat) : Int)
theorem num_step {U k j : Nat} (hk : k < 8) (hj : j = 7 - k) : ∀ i,i < 8 → (if i = j then nbv U j else if 8 ≤ i + k then nbv U i else .int .u8 0) = (if 8 ≤ i + (k + 1) then nbv U i else .int .u8 0):=by
 intro i hi
 by_cases h : i = j
 ·
  rw [if_pos h,if_pos (by omega),h]
 ·
  rw [if_neg h]
  by_cases h2 : 8 ≤ i + k
  ·
   rw [if_pos h2,if_pos (by omega)]
  ·
   rw [if_neg h2,if_neg (by omega)]
theorem num_bs {w : World} {g : Nat} {n : Int} {U : Nat} (hU : U = (n % 18446744073709551616).toNat) (h : w.rowIs g 5 8 (nbv U)) : Bs w (some ⟨g,0,none⟩) (numB n):=by
 refine ⟨numB_byt n,.inr ⟨g,0,rfl,h.lt,fun j hj => ?_⟩⟩
 rw [zbp] at hj
 rw [Nat.zero_add,h.cell hj,hU]
 unfold nbv
 rw [List.getD_eq_getElem?_getD]
 simp [numB,hj]
theorem row_fill {w : World} {z : Value} {n b t : Nat} (hb : b = w.heap.size) : (w.alloc (.cells (madeCells #[z] n) t)).rowIs b t n (fun _ => z):=by
 subst hb
 exact World.rowIs_made w z n t
theorem num8_calls (n : Int) (w : World) (_h0 : -9223372036854775808 ≤ n) (_h1 : n ≤ 9223372036854775807) :
  Calls Tryz.prog 94 #[.int .i64 n] w fun e w' => ∃ A c,e = .returned (.slice A 8 c) ∧ 8 ≤ c ∧ Bs w' A (numB n) ∧ Ext w w':=by
 obtain ⟨U,hU⟩ : ∃ U,U = (n % 18446744073709551616).toNat:=⟨_,rfl⟩
 have hw : IntKind.u64.wrap n = (U : Int):=by
  rw [hU]
  show n % 18446744073709551616 = _
  omega
 have HU:=veil hU
 clear hU _h0 _h1
 obtain ⟨i0,hi,hz0,hz1,hz2⟩:=info_parts infoTG
 have hmk : ∀ W : World,(Instr.makeSlice 30 (.int .i64 8) (.int .i64 8)).run Tryz.prog W = .ok (.slice (some ⟨W.heap.size,0,none⟩) 8 8) (W.alloc (.cells (madeCells #[.int .u8 0] 8) 5)) :=
  fun W => run_make_row 30 5 i0 (.int .u8 0) Tryz.underlying30 hi hz0 hz1 rfl .i64 .i64 8 (by rw [hz2]; omega) (by omega) W
 clear hi hz0 hz1 hz2
 go_enter Tryz.func94,Tryz.ntmps94
 go_wp2
 go_loopw [4,5] (fun v i wr => ∃ k : Nat,k ≤ 8 ∧ v = .int .u64 ((U / 256 ^ k : Nat) : Int) ∧ i = .int .i64 (7 - (k : Int)) ∧ wr.rowIs w.heap.size 5 8 (fun j => if 8 ≤ j + k then nbv U j else .int .u8 0) ∧ Ext w wr)
  (fun _ i _ => (intOf i + 1).toNat)
 case atStart => exact ⟨0,by omega,by simp,rfl,(row_fill (w:=w) (z:=.int .u8 0) rfl).congr (fun i hi => by rw [if_neg (by omega)]),Ext.alloc w _⟩
 case round =>
  obtain ⟨k,hk,rfl,rfl,hR,hE⟩:=hrel
  by_cases hlt : k < 8
  ·
   obtain ⟨j,hj⟩ : ∃ j,j = 7 - k:=⟨_,rfl⟩
   have hji : (7 : Int) - (k : Int) = (j : Int):=by omega
   have hjn : (j : Int) < (8 : Int):=by omega
   have c2:=hR.cell (i:=j) (by omega)
   have f2:=hR.frozen j
   have hs : U / 256 ^ (k + 1) = U / 256 ^ k / 256:=by rw [Nat.pow_succ,← Nat.div_div_eq_div_mul]
   have hb : nbv U j = .int .u8 (((U / 256 ^ k % 256 : Nat) : Nat) : Int):=by unfold nbv; rw [show 7 - j = k by omega]
   generalize U / 256 ^ k = q at *
   have HJ:=veil (And.intro hj (And.intro hs hb))
   clear hj hs hb
   rw [hji]
   go_wp2
   go_roundw
   case rel =>
    refine ⟨k + 1,by omega,by rw [HJ.out.2.1]; simp,by go_num,?_,?_⟩
    ·
     have h2:=HJ.out.2.2
     rw [show ((q % 256 : Nat) : Int) = (q : Int) % 256 by omega] at h2
     rw [← h2]
     exact (hR.set j (nbv U j)).congr (num_step hlt HJ.out.1)
    ·
     exact zag hE (Nat.le_refl _) _
   case measure => simp [intOf]
  ·
   obtain rfl : k = 8:=by omega
   go_wp2
   go_ret
   exact ⟨_,8,rfl,by omega,num_bs HU.out (hR.congr fun i hi => by rw [if_pos (by omega)]),hE⟩
theorem of8_calls (A : Option Addr) (m c : Nat) (bs : List Nat) (hm : m = bs.length) (hmc : m ≤ c) (w : World) (hS : Bs w A bs) :
  Calls Tryz.prog 91 #[.slice A m c] w fun e w' => ∃ x ev,e = .returned (.tuple #[x,ev]) ∧ Ext w w' ∧ OfA bs x ev:=by
 have HS:=veil (And.intro hS hm)
 by_cases h8 : m = 8
 ·
  subst h8
  clear hS hm
  go_enter Tryz.func91,Tryz.ntmps91
  go_wp2
  go_loopw [4,13] (fun v u wr => ∃ i : Nat,i ≤ 8 ∧ u = .int .i64 (i : Int) ∧ v = .int .u64 ((valB (bs.take i) : Nat) : Int) ∧ Ext w wr)
   (fun _ v _ => 8 - (intOf v).toNat)
  case atStart => exact ⟨0,by omega,rfl,rfl,Ext.refl _⟩
  case round =>
   obtain ⟨i,hi,rfl,rfl,hE⟩:=hrel
   by_cases hlt : i < 8
   ·
    have hii : (i : Int) < 8:=by omega
    obtain ⟨b2,o2,hA,_,c1⟩:=(HS.out.1.ext hE).cell (j:=i) (by have:=HS.out.2; omega)
    have l1:=HS.out.1.1.getD i
    obtain ⟨V,hV⟩ : ∃ V,V = valB (bs.take i):=⟨_,rfl⟩
    obtain ⟨Y,hY⟩ : ∃ Y,Y = bs.getD i 0:=⟨_,rfl⟩
    rw [← hY] at c1 l1
    rw [← hV]
    have k1 : (Y : Int) ≤ 255:=by omega
    have HVY:=veil (And.intro hV hY)
    have hv:=valB_lt8 HS.out.1.1 i (by have:=HS.out.2; omega)
    have h7 : 256 ^ i ≤ 256 ^ 7:=Nat.pow_le_pow_right (by decide) (by omega)
    have e7 : (256 : Nat) ^ 7 = 72057594037927936:=by decide
    have hor:=or_u64 (V:=V) (Y:=Y) (by omega) l1
    have HOR:=veil hor
    clear hV hY l1 hv h7 e7 hor
    subst hA
    go_wp2
    go_roundw
    case rel =>
     refine ⟨i + 1,by omega,by go_num,?_,hE⟩
     rw [zbj (by have:=HS.out.2; omega),← HVY.out.1,← HVY.out.2,HOR.out]
    case measure => simp [intOf]; omega
   ·
    obtain rfl : i = 8:=by omega
    have e : bs.take 8 = bs:=List.take_of_length_le (by have:=HS.out.2; omega)
    rw [e]
    obtain ⟨V,hV⟩ : ∃ V,V = valB bs:=⟨_,rfl⟩
    rw [← hV]
    have HV:=veil hV
    clear hV e
    by_cases g : (9223372036854775807 : Int) < (V : Int)
    ·
     have hd : decide ((9223372036854775807 : Int) < (V : Int)) = true:=decide_eq_true g
     have HR:=veil (ofB_big HS.out.1.1 HS.out.2 (by rw [← HV.out]; exact g))
     clear g
     go_wp2
     go_ret2
     exact ⟨_,_,rfl,hE,.inl ⟨by rw [HR.out]; decide,rfl,rfl⟩⟩
    ·
     have hd : decide ((9223372036854775807 : Int) < (V : Int)) = false:=decide_eq_false g
     have HR:=veil (ofB_small (bs:=bs) HS.out.2 (by rw [← HV.out]; exact g))
     have hle : (V : Int) ≤ 9223372036854775807:=by omega
     clear g
     go_wp2
     go_ret2
     exact ⟨_,_,rfl,hE,.inr ⟨by rw [HR.out]; omega,by rw [HR.out,← HV.out]; rfl,rfl⟩⟩
 ·
  have h8' : ¬ ((m : Int) = 8):=by omega
  have hr : ofB bs = -1:=by
   unfold ofB
   rw [if_neg]
   intro h
   omega
  have HR:=veil hr
  clear hS hm hr
  go_enter Tryz.func91,Tryz.ntmps91
  go_wp2
  go_ret2
  exact ⟨_,_,rfl,Ext.refl _,.inl ⟨by rw [HR.out]; decide,rfl,rfl⟩⟩
theorem code8 : Code8 where
 may:=zeq
 put v fs w hF hL:=by
  cases hM : mayFs fs with
  | false => exact (put_no v fs w hF hL hM).mono fun e w' ⟨he,hE⟩ => ⟨_,_,he,hE,.inl ⟨hM,⟨none,0,rfl⟩,rfl⟩⟩
  | true => exact (put_yes v fs w hF hM).mono fun e w' ⟨A,c,he,hc,hB,hE⟩ => ⟨_,_,he,hE,.inr ⟨hM,rfl,A,c,rfl,hc,hB⟩⟩
 get A m c bs w hm hmc hle hS:=get8_calls A m c bs hm hmc hle w hS
 number n w h0 h1:=num8_calls n w h0 h1
 of A m c bs w hm hmc hS:=of8_calls A m c bs hm hmc w hS
def rvC (x : Rv) : List Value:=[.int .i64 x.1,.int .i64 x.2]
abbrev Rs (w : World) (v : Value) (l : List Rv) : Prop:=Ls 2 rvC w v l
theorem infoRv : (Tryz.prog.info? 65).map (·.size) = some 2:=by kernel_rfl
theorem iRv (x : Rv) : (Tryz.prog.info? 65).map (·.size) = some (rvC x).length:=infoRv
theorem iRvA (x : Rv) : (Tryz.prog.info? 65).map (·.size) = some (rvC x).toArray.size:=infoRv
theorem hzRv (W : World) : (Instr.alloc 65 true (.tuple #[])).run Tryz.prog W = .ok (ptrTo W.heap.size) (W.alloc (.cells #[.int .i64 0,.int .i64 0] 65)):=by simp [Instr.alloc,go_sem]
theorem rvA_one (x : Rv) : (rvC x).toArray.all (·.oneCell') = true:=by simp [rvC,Value.oneCell']
theorem rvA_size (x : Rv) : (#[.int .i64 0,.int .i64 0] : Array Value).size = (rvC x).toArray.size:=rfl
section
variable {w : World} {b o : Nat} {x : Rv}
theorem rv_s (h : w.rangeAt b o (rvC x)) : w.cell? ⟨b,o,none⟩ = some (.int .i64 x.1):=h 0 _ rfl
theorem rv_f (h : w.rangeAt b o (rvC x)) : w.cell? ⟨b,o + 1,none⟩ = some (.int .i64 x.2):=h 1 _ rfl
theorem rv_blk {g : Nat} {fr : Nat × Nat} (h : w.heap[g]? = some (.cells (rvC x).toArray 65 fr)) : w.rangeAt g 0 (rvC x):=fun j v hv => by
 rw [Nat.zero_add,cell_of_row w g j _ _ _ h]
 simpa using hv
end
theorem rmay11_calls (v : Value) (l : List Rv) (w : World) (hF : Rs w v l) (hL : l.length ≤ 1000000000) :
  Calls Tryz.prog 14 #[v] w fun e w' => e = .returned (.bool (mayRs l)) ∧ Ext w w':=by
 obtain ⟨AL,c,rfl,hc,hx⟩:=hF
 obtain ⟨R,hR⟩ : ∃ R,R = mayRs l:=⟨_,rfl⟩
 rw [← hR]
 obtain ⟨n,hn⟩ : ∃ n,n = l.length:=⟨_,rfl⟩
 rw [← hn] at hx hc ⊢
 have HR:=veil (And.intro hR (And.intro hn hL))
 have HX:=veil hx
 have hnL : n ≤ 1000000000:=by omega
 clear hR hx hn hL
 go_enter Tryz.func14,Tryz.ntmps14
 go_wp2
 go_loopw [3] (fun v wr => ∃ i : Nat,i ≤ n ∧ v = .int .i64 (i : Int) ∧ (∀ j,j < i → okR l j) ∧ Ext w wr)
  (fun v _ => n - (intOf v).toNat)
 case atStart => exact ⟨0,by omega,rfl,fun j hj => by omega,Ext.refl _⟩
 case round =>
  obtain ⟨i,hi,rfl,hall,hE⟩:=hrel
  by_cases hlt : i < n
  ·
   have hd1 : decide ((i : Int) < (n : Int)) = true:=by simp; omega
   have hii : (i : Int) < (n : Int):=by omega
   obtain ⟨b,o,hAL,hb,hcl⟩:=HX.out.resolve_left (by omega)
   have hil : i < l.length:=by have:=HR.out.2.1; omega
   have hrg:=zan hE hb (hcl i _ (rv_get hil))
   have hpc : 0 < i → wr.cell? ⟨b,o + (i - 1) * 2,none⟩ = some (.int .i64 (rvS l (i - 1))):=fun h0 =>
    rv_s (zan hE hb (hcl (i - 1) _ (rv_get (show i - 1 < l.length by omega))))
   have hfalse : ∀ h : ¬ okR l i,R = false:=fun h => HR.out.1.trans (mayRs_false hil h)
   have HK:=veil (And.intro hall (And.intro hfalse (And.intro hpc hE)))
   have c0 : wr.cell? ⟨b,o + i * 2,none⟩ = some (.int .i64 (rvS l i)):=rv_s hrg
   have c1 : wr.cell? ⟨b,o + i * 2 + 1,none⟩ = some (.int .i64 (rvF l i)):=rv_f hrg
   obtain ⟨ks,hks⟩ : ∃ z,z = rvS l i:=⟨_,rfl⟩
   obtain ⟨kf,hkf⟩ : ∃ z,z = rvF l i:=⟨_,rfl⟩
   rw [← hks] at c0
   rw [← hkf] at c1
   have HV:=veil (And.intro hks hkf)
   clear hks hkf hil hb hE hall hfalse hpc hrg hcl
   subst hAL
   go_upto_region 4 with (fail)
   by_cases g0 : ks < 1
   ·
    have hd2 : decide (ks < 1) = true:=decide_eq_true g0
    have e : R = false:=HK.out.2.1 fun h => by have h1:=h.1; rw [← HV.out.1] at h1; omega
    subst e
    go_quiet (fail)
    go_wp2
    go_ret
    exact ⟨rfl,HK.out.2.2.2.trans (Ext.drewK _ _)⟩
   ·
    have hd2 : decide (ks < 1) = false:=decide_eq_false g0
    by_cases g1 : 2147483647 < ks
    ·
     have hd3 : decide (2147483647 < ks) = true:=decide_eq_true g1
     have e : R = false:=HK.out.2.1 fun h => by have h1:=h.2.1; rw [← HV.out.1] at h1; omega
     subst e
     go_quiet (fail)
     go_wp2
     go_ret
     exact ⟨rfl,HK.out.2.2.2.trans (Ext.drewK _ _)⟩
    ·
     have hd3 : decide (2147483647 < ks) = false:=decide_eq_false g1
     by_cases g2 : kf < 0
     ·
      have hd4 : decide (kf < 0) = true:=decide_eq_true g2
      have e : R = false:=HK.out.2.1 fun h => by have h1:=h.2.2.1; rw [← HV.out.2] at h1; omega
      subst e
      go_quiet (fail)
      go_wp2
      go_ret
      exact ⟨rfl,HK.out.2.2.2.trans (Ext.drewK _ _)⟩
     ·
      have hd4 : decide (kf < 0) = false:=decide_eq_false g2
      by_cases g3 : 1073741824 < kf
      ·
       have hd5 : decide (1073741824 < kf) = true:=decide_eq_true g3
       have e : R = false:=HK.out.2.1 fun h => by have h1:=h.2.2.2.1; rw [← HV.out.2] at h1; omega
       subst e
       go_quiet (fail)
       go_wp2
       go_ret
       exact ⟨rfl,HK.out.2.2.2.trans (Ext.drewK _ _)⟩
      ·
       have hd5 : decide (1073741824 < kf) = false:=decide_eq_false g3
       by_cases g7 : i = 0
       ·
        have hd9 : decide (0 < i) = false:=by simp; omega
        have hd9' : decide ((0 : Int) < (i : Int)) = false:=by simp; omega
        have G:=veil g7
        clear g7
        go_quiet (fail)
        go_wp2
        go_roundw
        case rel =>
         refine ⟨i + 1,by omega,by go_num,fun j hj => ?_,HK.out.2.2.2.trans (Ext.drewK _ _)⟩
         obtain rfl : j = i:=by have:=G.out; omega
         unfold okR
         rw [← HV.out.1,← HV.out.2]
         exact ⟨by omega,by omega,by omega,by omega,fun h => absurd h (by have:=G.out; omega)⟩
        case measure => simp [intOf]; omega
       ·
        have hd9 : decide (0 < i) = true:=by simp; omega
        have hd9' : decide ((0 : Int) < (i : Int)) = true:=by simp; omega
        have cp:=HK.out.2.2.1 (by omega)
        obtain ⟨z,hz⟩ : ∃ z,z = rvS l (i - 1):=⟨_,rfl⟩
        rw [← hz] at cp
        have hki2 : (i : Int) - 1 = ((i - 1 : Nat) : Int):=by omega
        obtain ⟨m,hm⟩ : ∃ m,m = i - 1:=⟨_,rfl⟩
        rw [← hm] at cp hki2
        have hmn : (m : Int) < (n : Int):=by omega
        have HZ:=veil (And.intro hz hm)
        clear hz hm
        by_cases g8 : ks ≤ z
        ·
         have hd10 : decide (ks ≤ z) = true:=decide_eq_true g8
         have e : R = false:=HK.out.2.1 fun h => by
          have h1:=h.2.2.2.2 (by omega)
          rw [← HV.out.1,← HZ.out.1] at h1
          omega
         subst e
         go_quiet (fail)
         go_wp2
         go_ret
         exact ⟨rfl,HK.out.2.2.2.trans (Ext.drewK _ _)⟩
        ·
         have hd10 : decide (ks ≤ z) = false:=decide_eq_false g8
         go_quiet (fail)
         go_wp2
         go_roundw
         case rel =>
          refine ⟨i + 1,by omega,by go_num,fun j hj => ?_,HK.out.2.2.2.trans (Ext.drewK _ _)⟩
          by_cases e : j = i
          ·
           subst e
           unfold okR
           rw [← HV.out.1,← HV.out.2,← HZ.out.1]
           exact ⟨by omega,by omega,by omega,by omega,fun _ => by omega⟩
          ·
           exact HK.out.1 j (by omega)
         case measure => simp [intOf]; omega
  ·
   obtain rfl : i = n:=by omega
   have e : R = decide ((i : Int) ≤ 200):=by
    rw [HR.out.1,mayRs_len (by rw [← HR.out.2.1]; exact hall),← HR.out.2.1]
    by_cases h : i ≤ 200
    ·
     rw [decide_eq_true h,decide_eq_true (by omega)]
    ·
     rw [decide_eq_false h,decide_eq_false (by omega)]
   have HE:=veil e
   clear hall e
   go_wp2
   go_ret
   exact ⟨by rw [HE.out]; rfl,hE⟩
theorem rfrom11_calls (v : Value) (l : List Rv) (s : Int) (w : World) (hF : Rs w v l) (hL : l.length ≤ 1000000000) :
  Calls Tryz.prog 58 #[v,.int .i64 s] w fun e w' => e = .returned (.int .i64 (fromR l s)) ∧ Ext w w':=by
 obtain ⟨AL,c,rfl,hc,hx⟩:=hF
 obtain ⟨R,hR⟩ : ∃ R,R = fromR l s:=⟨_,rfl⟩
 rw [← hR]
 obtain ⟨n,hn⟩ : ∃ n,n = l.length:=⟨_,rfl⟩
 rw [← hn] at hx hc ⊢
 have HR:=veil (And.intro hR (And.intro hn hL))
 have HX:=veil hx
 have hnL : n ≤ 1000000000:=by omega
 clear hR hx hn hL
 go_enter Tryz.func58,Tryz.ntmps58
 go_wp2
 go_loopw [5] (fun v wr => ∃ i : Nat,i ≤ n ∧ v = .int .i64 (i : Int) ∧ (∀ j,j < i → rvS l j ≠ s) ∧ Ext w wr)
  (fun v _ => n - (intOf v).toNat)
 case atStart => exact ⟨0,by omega,rfl,fun j hj => by omega,Ext.refl _⟩
 case round =>
  obtain ⟨i,hi,rfl,hall,hE⟩:=hrel
  by_cases hlt : i < n
  ·
   have hd1 : decide ((i : Int) < (n : Int)) = true:=by simp; omega
   have hii : (i : Int) < (n : Int):=by omega
   obtain ⟨b,o,hAL,hb,hcl⟩:=HX.out.resolve_left (by omega)
   have hil : i < l.length:=by have:=HR.out.2.1; omega
   have hrg:=zan hE hb (hcl i _ (rv_get hil))
   have c0 : wr.cell? ⟨b,o + i * 2,none⟩ = some (.int .i64 (rvS l i)):=rv_s hrg
   have c1 : wr.cell? ⟨b,o + i * 2 + 1,none⟩ = some (.int .i64 (rvF l i)):=rv_f hrg
   have HK:=veil (And.intro hall (And.intro hil hE))
   obtain ⟨ks,hks⟩ : ∃ z,z = rvS l i:=⟨_,rfl⟩
   obtain ⟨kf,hkf⟩ : ∃ z,z = rvF l i:=⟨_,rfl⟩
   rw [← hks] at c0
   rw [← hkf] at c1
   have HV:=veil (And.intro hks hkf)
   clear hks hkf hall hrg hcl hb hE hil
   subst hAL
   by_cases g0 : ks = s
   ·
    have f1 : (ks == s) = true:=by simp [g0]
    have e : R = kf:=by
     have h1:=look_idx (s:=s) HK.out.2.1 HK.out.1 (by rw [← HV.out.1]; exact g0)
     rw [HR.out.1]
     unfold fromR
     rw [h1,← HV.out.2]
    subst e
    rw [g0] at c0 f1
    clear g0
    go_wp2
    go_ret
    exact ⟨rfl,HK.out.2.2⟩
   ·
    have f1 : (ks == s) = false:=by simp [g0]
    have G:=veil g0
    clear g0
    go_wp2
    go_roundw
    case rel =>
     refine ⟨i + 1,by omega,by go_num,fun j hj => ?_,HK.out.2.2⟩
     by_cases e : j = i
     ·
      subst e
      rw [← HV.out.1]
      exact G.out
     ·
      exact HK.out.1 j (by omega)
    case measure => simp [intOf]; omega
  ·
   obtain rfl : i = n:=by omega
   have hd1 : decide ((i : Int) < (i : Int)) = false:=by simp
   have e : R = -1:=by
    rw [HR.out.1]
    unfold fromR
    rw [look_no (by rw [← HR.out.2.1]; exact hall)]
   subst e
   clear hall
   go_wp2
   go_ret
   exact ⟨rfl,hE⟩
theorem ris11_calls (v : Value) (l : List Rv) (s t : Int) (w : World) (hF : Rs w v l) (hL : l.length ≤ 1000000000) :
  Calls Tryz.prog 30 #[v,.int .i64 s,.int .i64 t] w fun e w' => e = .returned (.bool (isR l s t)) ∧ Ext w w':=by
 have KF:=veil (rfrom11_calls v l s w hF hL)
 rw [isR_from]
 generalize fromR l s = f at *
 clear hF hL
 go_enter Tryz.func30,Tryz.ntmps30
 by_cases g : 0 ≤ f
 ·
  have hd1 : decide (0 ≤ f) = true:=decide_eq_true g
  rw [hd1,Bool.true_and]
  go_wp2_with (go_at_call 58; refine KF.out.mono ?_; rintro e w1 ⟨rfl,hE⟩)
  go_ret
  exact ⟨rfl,hE⟩
 ·
  have hd1 : decide (0 ≤ f) = false:=decide_eq_false g
  rw [hd1,Bool.false_and]
  go_wp2_with (go_at_call 58; refine KF.out.mono ?_; rintro e w1 ⟨rfl,hE⟩)
  go_ret
  exact ⟨rfl,hE⟩
theorem zbe {P : Program} {ops : Array Oper} {rest : List Oper} {o : Oper} {a : Act} {w : World} {Q : Exit → Act → World → Prop} (hgd : Region.wanted o (yielded ops a.tmps) = true) (ty : TypeId) (x : Operand) (ho : o.op = .load ty x)
  (g : Nat) (hx : a.eval x = .pointer (some ⟨g,0,none⟩)) (t : TypeId) (cs : Array Value) (fr : Nat × Nat) (d : TypeDesc) (hg : w.heap[g]? = some (.cells cs t fr))
  (hu : P.underlying ty = some d) (hd : (match d with | .struct _ | .array _ _ => true | _ => false) = true) (hi : (P.info? ty).map (·.size) = some cs.size)
  (h : wpList P ops Q rest (a.put o.dst (.agg cs)) w) : wpList P ops Q (o :: rest) a w :=
 wpList_step fun K hK => by
  rw [if_pos hgd]
  exact wp_load_row ty x ho g hx t cs fr d hg hu hd hi (hK _ _ h)
def OnP (m x y : Int) (ev : Value) : Prop :=
 ((m < 0 ∨ 1073741824 < m) ∧ x = 0 ∧ y = 0 ∧ ev = .iface 38 (.int .i64 1)) ∨ (0 ≤ m ∧ m ≤ 1073741824 ∧ x = m / 1440 ∧ y = m % 1440 ∧ ev = .nilIface)
theorem rverdict14_calls {L : Low} (Rr : LowR L) (vk vr v : Value) (K : List Ky) (Q : List Rv) (l : List Pw) (A : Option Addr) (m c : Nat) (bs : List Nat) (z a : Int) (hm : m = bs.length) (hmc : m ≤ c) (hle : m ≤ 5000) (w : World)
  (hK : Ks w vk K) (hT : TopK K) (hKl : K.length ≤ 1000) (hQ : Rs w vr Q) (hQl : Q.length ≤ 1000) (hF : Ps14 w v l) (hM : mayP (pds l) = true) (hP : placeB z a = true) (hS : Bs w A bs) (hb : Byt bs) :
  Calls Tryz.prog 16 #[vk,vr,v,.slice A m c,.int .i64 z,.int .i64 a] w fun e w' => e = .returned (.int .i64 (verdV L K Q (pds l) bs z a)) ∧ Ext w w':=by
 obtain ⟨R,hR⟩ : ∃ R,R = verdV L K Q (pds l) bs z a:=⟨_,rfl⟩
 rw [← hR]
 have KC:=veil (rcheck10_calls Rr vk K a A m c bs hm hmc (by omega) w hS hK hT (by omega))
 have KI:=veil (fun s W (h : Ext w W) => ris11_calls vr Q s a W (hQ.ext h) (by omega))
 have KW:=veil (fun t W (h : Ext w W) (hT : mayT t = true) => rwhy14_calls v l t z a W (hF.ext h) hM hT hP)
 have hmt:=fun h => kcheckB_may (L:=L) (K:=K) (a:=a) hb h
 unfold verdV at hR
 obtain ⟨t,k,hC⟩ : ∃ t k,kcheckB L K bs a = (t,k):=⟨_,_,rfl⟩
 rw [hC] at KC hR hmt
 simp only at KC hR hmt
 have HR:=veil (And.intro hR hmt)
 obtain ⟨y,hy⟩ : ∃ y,y = whyV (pds l) t z a:=⟨_,rfl⟩
 obtain ⟨I,hI⟩ : ∃ I,I = isR Q t.s a:=⟨_,rfl⟩
 have KW1:=veil (fun W (h : Ext w W) (hT : mayT t = true) => KW.out t W h hT)
 have KI1:=veil (fun W (h : Ext w W) => KI.out t.s W h)
 rw [← hy] at KW1
 rw [← hI] at KI1
 have HV:=veil (And.intro hy hI)
 obtain ⟨Ak,ck,rfl,-,-⟩:=hK
 obtain ⟨Aq,cq,rfl,-,-⟩:=hQ
 obtain ⟨⟨AL,cl,rfl,-,-⟩,-⟩:=hF
 clear hR hmt hC hy hI KW KI hm hmc hle hT hKl hQl hM hP hS hb
 obtain ⟨nk,hnk⟩ : ∃ n,n = K.length:=⟨_,rfl⟩
 obtain ⟨nq,hnq⟩ : ∃ n,n = Q.length:=⟨_,rfl⟩
 obtain ⟨nl,hnl⟩ : ∃ n,n = l.length:=⟨_,rfl⟩
 rw [← hnk] at KC ⊢
 rw [← hnq] at KI1 ⊢
 rw [← hnl] at KW1 ⊢
 clear hnk hnq hnl
 unfold tkV at *
 go_enter Tryz.func16,Tryz.ntmps16
 go_upto_region 2 with (first
  | (go_at_call 29; with_reducible refine KC.out.mono ?_; rintro e w1 ⟨rfl,hE1⟩; have HE1:=veil hE1; clear hE1)
  | ((with_reducible refine zac ?_); refine wpList_store_row rfl 24 _ _ rfl w1.heap.size (tkC t) rfl rfl 24 _ (zab w1 _) (iTk t) rfl (zbd t) ?_; rw [World.setRow_alloc_new]))
 have HE2:=veil (HE1.out.trans (Ext.alloc w1 (.cells (tkC t) 24)))
 have HS2:=veil (TkAt.new w1 t)
 obtain ⟨g,hg⟩ : ∃ g,g = w1.heap.size:=⟨_,rfl⟩
 rw [← hg] at HS2 ⊢
 generalize w1.alloc (.cells (tkC t) 24) = w2 at *
 clear hg HE1 KC
 by_cases g2 : k = 2
 ·
  subst g2
  obtain rfl : R = 2:=HR.out.1
  go_wp2
  go_ret
  exact ⟨rfl,HE2.out⟩
 have f2 : ((k : Int) == 2) = false:=by simp; omega
 by_cases g0 : k = 0
 rotate_left
 ·
  have f0 : ((k : Int) == 0) = false:=by simp; omega
  have f0' : ((k : Int) != 0) = true:=by simp; omega
  obtain rfl : R = 3:=HR.out.1.trans (by rw [if_neg g2,if_pos g0])
  go_wp2
  go_ret
  exact ⟨rfl,HE2.out⟩
 subst g0
 clear f2 g2
 have hmt:=HR.out.2 rfl
 have hr : R = if isR Q t.s a = true then 4 else whyV (pds l) t z a:=HR.out.1
 rw [← HV.out.1,← HV.out.2] at hr
 have HQ:=veil (And.intro hr hmt)
 clear hr hmt HR
 have c0:=HS2.out.at0
 go_upto_region 7 with (go_at_call 30; with_reducible refine (KI1.out _ HE2.out).mono ?_; rintro e w3 ⟨rfl,hE3⟩)
 have HE3:=veil (HE2.out.trans hE3)
 have HS3 : Hid (TkAt w3 g t):=veil (HS2.out.ext hE3)
 clear hE3 c0 HE2 HS2 KI1
 cases I with
 | true =>
  obtain rfl : R = 4:=HQ.out.1
  go_wp2
  go_ret
  exact ⟨rfl,HE3.out⟩
 | false =>
  obtain rfl : R = y:=HQ.out.1
  go_wp2_with (first
   | ((with_reducible refine zaa 34 ?_); refine wpList_load_row rfl 24 _ rfl g rfl 24 (tkC t) (0,0) _ HS3.out Tryz.underlying24 rfl (iTk t) ?_)
   | (go_at_call 22; with_reducible refine (KW1.out _ HE3.out HQ.out.2).mono ?_; rintro e w4 ⟨rfl,hE4⟩))
  go_ret
  exact ⟨rfl,HE3.out.trans hE4⟩
structure Code14a : Prop where
 may : ∀ v l w,Ps14 w v l → fewP (pds l) = true → Calls Tryz.prog 10 #[v] w fun e w' => e = .returned (.bool (mayP (pds l))) ∧ Ext w w'
 covers : ∀ v l t z a w,Ps14 w v l → fewP (pds l) = true → -9223372036854775808 ≤ z → z ≤ 9223372036854775807 → -9223372036854775808 ≤ a → a ≤ 9223372036854775807 → Calls Tryz.prog 11 #[v,tkV t,.int .i64 z,.int .i64 a] w fun e w' => e = .returned (.bool (coversV (pds l) t z a)) ∧ Ext w w'
 verdict_nil : ∀ w,Calls Tryz.prog 12 #[.slice none 0 0,.slice none 0 0,.slice none 0 0,.slice none 0 0,.int .i64 0,.int .i64 0] w fun e w' => e = .returned (.tuple #[.int .i64 2,.nilIface]) ∧ Ext w w'
def upP : Pw:=(⟨1,60,⟨127,0,9,[],[]⟩⟩,.slice none 0 0,.slice none 0 0)
def upT14 : Tk:=⟨1,1,2,10,1⟩
def upB14 : Obj:=.cells #[.int .i64 1,.int .i64 60,.int .i64 127,.int .i64 0,.int .i64 9,.slice none 0 0,.slice none 0 0] 51
theorem up_ps (w : World) : Ps14 (w.alloc upB14) (.slice (some ⟨w.heap.size,0,none⟩) 1 1) [upP]:=by
 refine ⟨ls_one (zab w _),fun x hx => ?_⟩
 rw [List.mem_singleton.1 hx]
 exact ⟨Ls.nil _ _ _,Ls.nil _ _ _⟩
theorem eqNil14 (w : World) : (binOp .eql 32 .nilIface .nilIface).run Tryz.prog w = .ok (.bool true) w:=by kernel_rfl
theorem up14_calls (C : Code14a) (w : World) : Calls Tryz.prog 6 #[] w fun e w' => e = .returned (.bool true) ∧ Ext w w':=by
 have hN:=up_ps w
 have hE:=Ext.alloc w upB14
 obtain ⟨vS,hvS⟩ : ∃ v : Value,v = .slice (some ⟨w.heap.size,0,none⟩) 1 1:=⟨_,rfl⟩
 rw [← hvS] at hN
 have KC:=veil (fun z a W (h : Ext (w.alloc upB14) W) h0 h1 h2 h3 => C.covers _ [upP] upT14 z a W (hN.ext h) (by decide +kernel) h0 h1 h2 h3)
 have K1:=veil (fun W h => KC.out 1 69 W h (by decide) (by decide) (by decide) (by decide))
 have K2:=veil (fun W h => KC.out 1 70 W h (by decide) (by decide) (by decide) (by decide))
 have K3:=veil (fun W h => KC.out 0 10 W h (by decide) (by decide) (by decide) (by decide))
 rw [show coversV (pds [upP]) upT14 1 69 = true by decide +kernel] at K1
 rw [show coversV (pds [upP]) upT14 1 70 = false by decide +kernel] at K2
 rw [show coversV (pds [upP]) upT14 0 10 = false by decide +kernel] at K3
 have KV:=veil (fun W => C.verdict_nil W)
 have hT0:=TkAt.new (w.alloc upB14) upT14
 have hET:=Ext.alloc (w.alloc upB14) (.cells (tkC upT14) 24)
 have e1:=eqNil14
 unfold upB14 at *
 clear KC hN C
 go_enter Tryz.func6,Tryz.ntmps6
 go_upto_region 2 with (fail)
 rw [← hvS]
 obtain ⟨w0,hw0⟩ : ∃ W,W = w.alloc (.cells #[.int .i64 1,.int .i64 60,.int .i64 127,.int .i64 0,.int .i64 9,.slice none 0 0,.slice none 0 0] 51):=⟨_,rfl⟩
 rw [← hw0] at hE K1 K2 K3 hT0 hET ⊢
 clear hw0 hvS
 go_upto_region 3 with ((with_reducible refine zac ?_); refine wpList_store_row rfl 24 _ _ rfl w0.heap.size (tkC upT14) rfl rfl 24 _ (zab w0 _) (iTk _) rfl (zbd _) ?_; rw [World.setRow_alloc_new])
 obtain ⟨g,hg⟩ : ∃ g,g = w0.heap.size:=⟨_,rfl⟩
 rw [← hg] at hT0 ⊢
 generalize w0.alloc (.cells (tkC upT14) 24) = w1 at *
 have HT:=veil hT0
 have HX:=veil hET
 have HE:=veil (hE.trans hET)
 clear hT0 hET hE hg
 go_upto_region 4 with (go_at_call 12; refine (KV.out _).mono ?_; rintro e w2 ⟨rfl,hE2⟩)
 have HX2:=veil (HX.out.trans hE2)
 have HE2:=veil (HE.out.trans hE2)
 have HT2 : Hid (TkAt w2 g upT14):=veil (HT.out.ext hE2)
 clear hE2 HX HE HT KV
 unfold tkV at *
 go_wp2_with (first
  | ((with_reducible refine zaa 21 ?_); refine zbe rfl 24 _ rfl g rfl 24 (tkC upT14) (0,0) _ HT2.out Tryz.underlying24 rfl (iTk _) ?_)
  | (go_at_call 11; with_reducible refine (K1.out _ HX2.out).mono ?_; rintro e w3 ⟨rfl,hE3⟩; have HX3:=veil (HX2.out.trans hE3); have HE3:=veil (HE2.out.trans hE3); have HT3 : Hid (TkAt w3 g upT14):=veil (HT2.out.ext hE3); clear hE3 K1)
  | ((with_reducible refine zaa 26 ?_); refine zbe rfl 24 _ rfl g rfl 24 (tkC upT14) (0,0) _ HT3.out Tryz.underlying24 rfl (iTk _) ?_)
  | (go_at_call 11; with_reducible refine (K2.out _ HX3.out).mono ?_; rintro e w4 ⟨rfl,hE4⟩; have HX4:=veil (HX3.out.trans hE4); have HE4:=veil (HE3.out.trans hE4); have HT4 : Hid (TkAt w4 g upT14):=veil (HT3.out.ext hE4); clear hE4 K2)
  | ((with_reducible refine zaa 32 ?_); refine zbe rfl 24 _ rfl g rfl 24 (tkC upT14) (0,0) _ HT4.out Tryz.underlying24 rfl (iTk _) ?_)
  | (go_at_call 11; with_reducible refine (K3.out _ HX4.out).mono ?_; rintro e w5 ⟨rfl,hE5⟩))
 go_ret
 exact ⟨rfl,HE4.out.trans hE5⟩
end Go.Proofs.YtbfkecfcolcclaaGreatDoor
