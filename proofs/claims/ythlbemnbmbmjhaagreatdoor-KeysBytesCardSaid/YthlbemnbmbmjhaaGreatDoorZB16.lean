/-
  Of UD E1 E3 E4 E5 UC UE UF.
-/
import Derived.Test.YthlbemnbmbmjhaaGreatDoorRows
import Derived.WalkKit
import Derived.WalkSpells
import Derived.WalkLawsBesides
import Derived.Deep.LoopGhost
import Derived.Deep.RegionWith
import Derived.Deep.QuietTactic
import Derived.BigQuiet
import Derived.Deep.MidRow
import Derived.Laws.BytesString
import Derived.Test.YthlbemnbmbmjhaaGreatDoorZB8
import Derived.Test.YthlbemnbmbmjhaaGreatDoorZB14
import Derived.Test.YthlbemnbmbmjhaaGreatDoorZB15
import Derived.Test.YthlbemnbmbmjhaaGreatDoorZB11
import Derived.Test.YthlbemnbmbmjhaaGreatDoorZB9
import Derived.Test.YthlbemnbmbmjhaaGreatDoorZB1
import Derived.Test.YthlbemnbmbmjhaaGreatDoorZB7
import Derived.Test.YthlbemnbmbmjhaaGreatDoorZB6
import Derived.Test.YthlbemnbmbmjhaaGreatDoorZB13
import Derived.Test.YthlbemnbmbmjhaaGreatDoorZB2
set_option maxRecDepth 1000000
set_option maxHeartbeats 20000000
namespace Go.Proofs.YthlbemnbmbmjhaaGreatDoor
open Go.RowKit
open Go.Value renaming int → vI
open Go.IntKind renaming u64 → vU
open Go.Act renaming put → aP
open List renaming setIfInBounds_toArray → lA, set_cons_zero → lZ, set_cons_succ → lS
theorem index_calls (v : Value) (l : List Ky) (w : World) (hF : Ks w v l) (hT : TopK l) (hL : l.length ≤ 1000000000) :
  Calls Tryz.prog 46 #[v,.func (.func 25) #[] #[]] w fun e w' => ∃ z : Int,e = .returned (.int .i64 z) ∧ decide (0 ≤ z) = l.any offK ∧ Ext w w':=by
 obtain ⟨AL,c,rfl,hc,hx⟩:=hF
 obtain ⟨n,hn⟩ : ∃ n,n = l.length:=⟨_,rfl⟩
 rw [← hn] at hx hc hL ⊢
 obtain ⟨R,hR⟩ : ∃ R,R = l.any offK:=⟨_,rfl⟩
 rw [← hR]
 have HR:=veil (And.intro hR (And.intro hn hT))
 have HX:=veil hx
 clear hR hx hn hT
 go_enter Tryz.func46,Tryz.ntmps46
 go_wp2
 go_loopw [5,8] (fun _ v wr => ∃ i : Nat,i ≤ n ∧ v = .int .i64 (i : Int) ∧ (∀ j,j < i → offK (l.getD j ky0) = false) ∧ Ext w wr)
  (fun _ v _ => n - (intOf v).toNat)
 case atStart => exact ⟨0,by omega,rfl,fun j hj => by omega,Ext.refl _⟩
 case round =>
  obtain ⟨i,hi,rfl,hall,hE⟩:=hrel
  by_cases hlt : i < n
  ·
   have hd1 : decide ((i : Int) < (n : Int)) = true:=by simp; omega
   have hii : (i : Int) < (n : Int):=by omega
   obtain ⟨b,o,hAL,hb,hcl⟩:=HX.out.resolve_left (by omega)
   have hil : i < l.length:=by have:=HR.out.2.1; omega
   have HRG:=veil (zbd hE hb (hcl i _ (zcn hil)))
   have hkt:=HR.out.2.2 (l.getD i ky0) (List.mem_of_getElem? (zcn hil))
   have hmem : l.getD i ky0 ∈ l:=List.mem_of_getElem? (zcn hil)
   obtain ⟨k,hk⟩ : ∃ k,k = l.getD i ky0:=⟨_,rfl⟩
   rw [← hk] at HRG hkt hmem
   have KO:=veil (fun W => isOff_calls k hkt.1 hkt.2 W)
   cases ho : offK k with
   | true =>
    rw [ho] at KO
    have e : R = true:=by
     rw [HR.out.1,List.any_eq_true]
     exact ⟨k,hmem,ho⟩
    subst e
    clear hmem hkt ho hk hil hcl hall
    subst hAL
    go_wp2_with (first
     | ((with_reducible refine zah 15 ?_); refine wpList_load_mid rfl 55 _ rfl b _ rfl (kyC k) _ HRG.out Tryz.underlying55 rfl (iKy k) ?_)
     | (go_at_call 25; refine (KO.out _).mono ?_; rintro e w1 ⟨rfl,hE1⟩))
    go_ret
    exact ⟨(i : Int),rfl,by simp,hE.trans hE1⟩
   | false =>
    rw [ho] at KO
    have hnext : ∀ j,j < i + 1 → offK (l.getD j ky0) = false:=fun j hj => by
     by_cases e : j = i
     ·
      subst e
      rw [← hk]
      exact ho
     ·
      exact hall j (by omega)
    have HN:=veil hnext
    clear hmem hkt ho hk hil hcl hall hnext
    subst hAL
    go_wp2_with (first
     | ((with_reducible refine zah 15 ?_); refine wpList_load_mid rfl 55 _ rfl b _ rfl (kyC k) _ HRG.out Tryz.underlying55 rfl (iKy k) ?_)
     | (go_at_call 25; refine (KO.out _).mono ?_; rintro e w1 ⟨rfl,hE1⟩))
    go_roundw
    case rel => exact ⟨i + 1,by omega,by go_num,HN.out,hE.trans hE1⟩
    case measure => simp [intOf]; omega
  ·
   obtain rfl : i = n:=by omega
   have hd1 : decide ((i : Int) < (i : Int)) = false:=by simp
   have e : R = false:=by
    rw [HR.out.1,List.any_eq_false]
    intro k hk
    obtain ⟨j,hj,rfl⟩:=List.mem_iff_getElem.1 hk
    have:=hall j (by have:=HR.out.2.1; omega)
    rw [List.getD_eq_getElem?_getD,List.getElem?_eq_getElem hj] at this
    simpa using this
   subst e
   clear hall
   go_wp2
   go_ret
   exact ⟨-1,rfl,by decide,hE⟩
theorem contains_calls (v : Value) (l : List Ky) (w : World) (hF : Ks w v l) (hT : TopK l) (hL : l.length ≤ 1000000000) :
  Calls Tryz.prog 24 #[v,.func (.func 25) #[] #[]] w fun e w' => e = .returned (.bool (l.any offK)) ∧ Ext w w':=by
 have KI:=veil (index_calls v l w hF hT hL)
 obtain ⟨R,hR⟩ : ∃ R,R = l.any offK:=⟨_,rfl⟩
 rw [← hR] at KI ⊢
 clear hF hT hL hR
 go_enter Tryz.func24,Tryz.ntmps24
 go_wp2_with (go_at_call 46; refine KI.out.mono ?_; rintro e w1 ⟨z,rfl,hz,hE1⟩)
 go_ret
 exact ⟨by first | rfl | rw [hz],hE1⟩
theorem may10_calls (v : Value) (l : List Ky) (w : World) (hF : Ks w v l) (hT : TopK l) (hL : l.length ≤ 1000000000) :
  Calls Tryz.prog 10 #[v] w fun e w' => e = .returned (.bool (mayK l)) ∧ Ext w w':=by
 have KO:=veil (fun W (hW : Ks W v l) => zdv v l W hW hL)
 have KC:=veil (fun W (hW : Ks W v l) => contains_calls v l W hW hT hL)
 rw [zfa]
 have HV:=veil hF
 clear hF hT hL
 generalize ordK l = r at *
 generalize l.any offK = s at *
 cases r with
 | false =>
  go_enter Tryz.func10,Tryz.ntmps10
  go_wp2_with (go_at_call 23; refine (KO.out _ HV.out).mono ?_; rintro e w1 ⟨rfl,hE1⟩)
  go_ret
  exact ⟨rfl,hE1⟩
 | true =>
  cases s with
  | false =>
   go_enter Tryz.func10,Tryz.ntmps10
   go_wp2_with (first
    | (go_at_call 23; refine (KO.out _ HV.out).mono ?_; rintro e w1 ⟨rfl,hE1⟩)
    | (go_at_call 24; refine (KC.out _ (HV.out.ext hE1)).mono ?_; rintro e w2 ⟨rfl,hE2⟩))
   go_ret
   exact ⟨rfl,hE1.trans hE2⟩
  | true =>
   go_enter Tryz.func10,Tryz.ntmps10
   go_wp2_with (first
    | (go_at_call 23; refine (KO.out _ HV.out).mono ?_; rintro e w1 ⟨rfl,hE1⟩)
    | (go_at_call 24; refine (KC.out _ (HV.out.ext hE1)).mono ?_; rintro e w2 ⟨rfl,hE2⟩))
   go_ret
   exact ⟨rfl,hE1.trans hE2⟩
theorem find_calls (v : Value) (l : List Ky) (id at_ : Int) (w : World) (hF : Ks w v l) (hL : l.length ≤ 1000000000) :
  Calls Tryz.prog 22 #[v,.int .i64 id,.int .i64 at_] w fun e w' => e = .returned (.tuple #[.agg (qO (findK l id at_)),.bool (findK l id at_).isSome]) ∧ Ext w w':=by
 obtain ⟨AL,c,rfl,hc,hx⟩:=hF
 obtain ⟨n,hn⟩ : ∃ n,n = l.length:=⟨_,rfl⟩
 rw [← hn] at hx hc hL ⊢
 have HX:=veil (And.intro hx hn)
 obtain ⟨R,hR⟩ : ∃ R,R = findK l id at_:=⟨_,rfl⟩
 rw [← hR]
 have HR:=veil hR
 clear hx hn hR
 go_enter Tryz.func22,Tryz.ntmps22
 go_upto_region 1 with (fail)
 obtain ⟨g,hg⟩ : ∃ g,g = w.heap.size:=⟨_,rfl⟩
 obtain ⟨w0,hw0⟩ : ∃ W,W = w.alloc (.cells PZ 29):=⟨_,rfl⟩
 have h0:=zag w (.cells PZ 29)
 have hE0:=Ext.alloc w (.cells PZ 29)
 rw [← hw0] at hE0
 rw [← hw0,← hg] at h0
 have H0:=veil (And.intro hE0 (And.intro h0 (show w.heap.size ≤ g by omega)))
 unfold PZ at hw0
 rw [← hw0,← hg]
 clear hw0 hg h0 hE0
 go_wp2
 go_loopw [12] (fun v wr => ∃ i : Nat,i ≤ n ∧ v = .int .i64 (i : Int) ∧ (∀ j,j < i → cntK (l.getD j ky0) id at_ = false) ∧ Ext w0 wr)
  (fun v _ => n - (intOf v).toNat)
 case atStart => exact ⟨0,by omega,rfl,fun j hj => by omega,Ext.refl _⟩
 case round =>
  obtain ⟨i,hi,rfl,hall,hE⟩:=hrel
  by_cases hlt : i < n
  ·
   have hd1 : decide ((i : Int) < (n : Int)) = true:=by simp; omega
   have hii : (i : Int) < (n : Int):=by omega
   have hil : i < l.length:=by have:=HX.out.2; omega
   obtain ⟨b,o,hAL,hb,hcl⟩:=HX.out.1.resolve_left (by omega)
   have HRG:=veil (zbd (H0.out.1.trans hE) hb (hcl i _ (zcn hil)))
   obtain ⟨k,hk⟩ : ∃ k,k = l.getD i ky0:=⟨_,rfl⟩
   rw [← hk] at HRG
   have HK:=veil (And.intro hk (And.intro hall (And.intro hE hil)))
   subst hAL
   clear hk hall hE hil hb hcl
   go_upto_region 4 with (first
    | ((with_reducible refine zah 15 ?_); refine wpList_load_mid rfl 55 _ rfl b _ rfl (kyC k) _ HRG.out Tryz.underlying55 rfl (iKy k) ?_)
    | ((with_reducible refine zah 9 ?_); refine zcu _ _ rfl rfl rfl rfl rfl rfl hzKy (fun _ => rfl) (fun _ => rfl) (iKyA k) (zfd k) (zfw k) ?_; intro gk W hg hW hEW))
   have hEE:=HK.out.2.2.1.trans hEW
   have c0:=ky_i (zcr hW)
   have c10:=ky_a (zcr hW)
   have c11:=ky_b (zcr hW)
   simp only [Nat.zero_add] at c0 c10 c11
   have HW:=veil (And.intro (ky_q (zcr hW)) hEE)
   simp only [Nat.zero_add] at HW
   clear hW hEW hEE HRG
   by_cases gc : k.i = id ∧ k.a ≤ at_ ∧ at_ < k.b
   ·
    have hr : R = some k:=by
     rw [HR.out,HK.out.1]
     exact findK_at HK.out.2.2.2 HK.out.2.1 (by rw [← HK.out.1]; exact cntK_yes gc)
    have hd2 : decide (k.a ≤ at_) = true:=decide_eq_true gc.2.1
    have hd3 : decide (at_ < k.b) = true:=decide_eq_true gc.2.2
    have f1 : (k.i == id) = true:=by simp [gc.1]
    have HF:=veil (And.intro hr (HW.out.2.block H0.out.2.1))
    have g1:=gc.1
    rw [g1] at c0 f1
    clear hr gc g1
    go_wp2_with (first
     | ((with_reducible refine zah 33 ?_); refine wpList_load_mid rfl 29 _ rfl gk 1 rfl _ _ HW.out.1 Tryz.underlying29 rfl (iT k.x k.y k.f) ?_)
     | ((with_reducible refine zay ?_); refine wpList_store_row rfl 29 _ _ rfl g (qc k.x k.y k.f) rfl rfl 29 _ HF.out.2 (iT _ _ _) rfl (zex _ _ _) ?_))
    refine bodyPost_ret (zba rfl _ _ g 29 (qc k.x k.y k.f) (0,0) _ rfl (setRow_heap W g _ (qc k.x k.y k.f) 29 (0,0) HF.out.2) Tryz.underlying29 rfl (iT _ _ _)) rfl ⟨by rw [HF.out.1]; rfl,zav (H0.out.1.trans HW.out.2) H0.out.2.2 _⟩
   ·
    have hno:=cntK_no gc
    have HN:=veil hno
    have go : ∀ j,j < i + 1 → cntK (l.getD j ky0) id at_ = false:=fun j hj => by
     by_cases e : j = i
     ·
      subst e
      rw [← HK.out.1]
      exact HN.out
     ·
      exact HK.out.2.1 j (by omega)
    have GO:=veil go
    clear hno go
    by_cases g1 : k.i = id
    ·
     have f1 : (k.i == id) = true:=by simp [g1]
     rw [g1] at c0 f1
     by_cases g2 : k.a ≤ at_
     ·
      have hd2 : decide (k.a ≤ at_) = true:=decide_eq_true g2
      have hd3 : decide (at_ < k.b) = false:=decide_eq_false fun h => gc ⟨g1,g2,h⟩
      clear gc g1 g2
      go_wp2
      go_roundw
      case rel => exact ⟨i + 1,by omega,by go_num,GO.out,HW.out.2⟩
      case measure => simp [intOf]; omega
     ·
      have hd2 : decide (k.a ≤ at_) = false:=decide_eq_false g2
      clear gc g1 g2
      go_wp2
      go_roundw
      case rel => exact ⟨i + 1,by omega,by go_num,GO.out,HW.out.2⟩
      case measure => simp [intOf]; omega
    ·
     have f1 : (k.i == id) = false:=by simp [g1]
     clear gc
     go_wp2
     go_roundw
     case rel => exact ⟨i + 1,by omega,by go_num,GO.out,HW.out.2⟩
     case measure => simp [intOf]; omega
  ·
   obtain rfl : i = n:=by omega
   have hd1 : decide ((i : Int) < (i : Int)) = false:=by simp
   have hr : R = none:=by
    rw [HR.out]
    exact findK_none_take (by rw [← HX.out.2]; exact hall)
   have HE:=veil (And.intro hr (And.intro hE (hE.block H0.out.2.1)))
   clear hall hr hE
   go_wp2_with ((with_reducible refine zay ?_); refine wpList_store_row rfl 29 _ _ rfl g PZ rfl rfl 29 _ HE.out.2.2 iPZ rfl pz_one ?_)
   refine bodyPost_ret (zba rfl _ _ g 29 PZ (0,0) _ rfl (setRow_heap wr g _ PZ 29 (0,0) HE.out.2.2) Tryz.underlying29 rfl iPZ) rfl ⟨by rw [HE.out.1,pz_qc]; rfl,zav (H0.out.1.trans HE.out.2.1) H0.out.2.2 _⟩
theorem find10_calls (v : Value) (l : List Ky) (id at_ : Int) (w : World) (hF : Ks w v l) (hT : TopK l) (hL : l.length ≤ 1000000000) :
  Calls Tryz.prog 9 #[v,.int .i64 id,.int .i64 at_] w fun e w' => e = .returned (.tuple #[.agg (qO (findC l id at_)),.bool (findC l id at_).isSome]) ∧ Ext w w':=by
 have KM:=veil (fun W (hW : Ks W v l) => may10_calls v l W hW hT hL)
 have KF:=veil (fun W (hW : Ks W v l) => find_calls v l id at_ W hW hL)
 have HV:=veil hF
 obtain ⟨F,hFc⟩ : ∃ F,F = findC l id at_:=⟨_,rfl⟩
 rw [← hFc]
 unfold findC at hFc
 clear hF hT hL
 go_enter Tryz.func9,Tryz.ntmps9
 go_upto_region 1 with (fail)
 obtain ⟨g,hg⟩ : ∃ g,g = w.heap.size:=⟨_,rfl⟩
 obtain ⟨w0,hw0⟩ : ∃ W,W = w.alloc (.cells PZ 29):=⟨_,rfl⟩
 have h0:=zag w (.cells PZ 29)
 have hE0:=Ext.alloc w (.cells PZ 29)
 rw [← hw0] at hE0
 rw [← hw0,← hg] at h0
 have H0:=veil (And.intro hE0 (And.intro h0 (show w.heap.size ≤ g by omega)))
 unfold PZ at hw0
 rw [← hw0,← hg]
 clear hw0 hg h0 hE0
 generalize mayK l = r at *
 generalize findK l id at_ = R at *
 cases r with
 | false =>
  obtain rfl : F = none:=hFc
  go_upto_region 2 with (go_at_call 10; refine (KM.out _ (HV.out.ext H0.out.1)).mono ?_; rintro e w1 ⟨rfl,hE1⟩)
  have H1:=veil (And.intro hE1 (hE1.block H0.out.2.1))
  clear hE1
  go_wp2_with ((with_reducible refine zay ?_); refine wpList_store_row rfl 29 _ _ rfl g PZ rfl rfl 29 _ H1.out.2 iPZ rfl pz_one ?_)
  refine bodyPost_ret (zba rfl _ _ g 29 PZ (0,0) _ rfl (setRow_heap w1 g _ PZ 29 (0,0) H1.out.2) Tryz.underlying29 rfl iPZ) rfl ⟨by rw [pz_qc]; rfl,zav (H0.out.1.trans H1.out.1) H0.out.2.2 _⟩
 | true =>
  obtain rfl : F = R:=hFc
  go_upto_region 3 with (go_at_call 10; refine (KM.out _ (HV.out.ext H0.out.1)).mono ?_; rintro e w1 ⟨rfl,hE1⟩)
  have H1:=veil (H0.out.1.trans hE1)
  have H2:=veil hE1
  clear hE1
  have KF2:=veil (KF.out w1 (HV.out.ext H1.out))
  obtain ⟨C,hC⟩ : ∃ C,C = qO F:=⟨_,rfl⟩
  have HC:=veil (And.intro (show (Tryz.prog.info? 29).map (·.size) = some C.size by rw [hC]; exact qO_info F) (And.intro (show PZ.size = C.size by rw [hC]; exact qO_size F) (And.intro (show C.all (·.oneCell') = true by rw [hC]; exact qO_one F) hC)))
  rw [← hC] at KF2
  clear KF hC
  go_wp2_with (first
   | (go_at_call 22; refine KF2.out.mono ?_; rintro e w2 ⟨rfl,hE2⟩; have H3:=veil (H2.out.trans hE2); have H4:=veil (H3.out.block H0.out.2.1))
   | ((with_reducible refine zay ?_); refine wpList_store_row rfl 29 _ _ rfl g C rfl rfl 29 _ H4.out HC.out.1 HC.out.2.1 HC.out.2.2.1 ?_))
  refine bodyPost_ret (zba rfl _ _ g 29 C (0,0) _ rfl (setRow_heap w2 g _ C 29 (0,0) H4.out) Tryz.underlying29 rfl HC.out.1) rfl ⟨by rw [HC.out.2.2.2]; rfl,zav (H0.out.1.trans H3.out) H0.out.2.2 _⟩
section
variable {P : Program} {o : Oper} {a : Act} {w : World}
end
theorem hsT (X Y : Nat) (f : Bool) : (#[vI vU 0,vI vU 0,vI vU 0,vI vU 0,vI vU 0,vI vU 0,vI vU 0,vI vU 0,.bool false] : Array Value).size = (qc X Y f).size:=by simp [qc]
theorem pOn_yes (q : Pt.Q) (w : World) : Calls Tryz.prog 47 #[qvP q.1] w fun e w' => e = .returned (.bool true) ∧ Ext w w':=by
 have k:=on_is (Pt.pX q.1) (Pt.pY q.1) (Pt.pFar q.1) (p_top q.1).1 (p_top q.1).2 w
 rw [onB_of] at k
 exact k
theorem pOn_no {X Y : Nat} {f : Bool} (hX : X < top) (hY : Y < top) (h : onB X Y f = false) (w : World) : Calls Tryz.prog 47 #[qv X Y f] w fun e w' => e = .returned (.bool false) ∧ Ext w w':=by
 have k:=on_is X Y f hX hY w
 rw [h] at k
 exact k
theorem bsv_one (X : Nat) : ∀ j,(bsv X j).oneCell' = true:=fun j => by simp [bsv,Value.oneCell']
theorem bytes_yes (q : Pt.Q) (hf : Pt.pFar q.1 = false) (w : World) :
  Calls Tryz.prog 48 #[qvP q.1] w fun e w' => (∃ v,e = .returned (.tuple #[v,.nilIface]) ∧ Own w' w.heap.size 5 v 64 (ptB (Pt.pX q.1) (Pt.pY q.1))) ∧ Ext w w':=by
 have KO:=veil (pOn_yes q)
 have kb:=fun X W => bytes_calls X W
 have KB:=veil kb
 clear kb
 unfold qvP at KO ⊢
 rw [hf] at KO ⊢
 clear hf
 generalize Pt.pX q.1 = X at KO ⊢
 generalize Pt.pY q.1 = Y at KO ⊢
 unfold qv qc
 go_enter Tryz.func48,Tryz.ntmps48
 go_upto_region 1 with (fail)
 refine zfn fun w1 hx b0 => ?_
 have b0 : w1.heap[w.heap.size]? = some (.cells (qc X Y false) 29 (0,0)):=b0
 refine' zdx (m:=7) (A:=_) ?h1 ?h2
 case h1 =>
  refine zab (.pointer (some ⟨w.heap.size,8,none⟩)) rfl (zak rfl rfl (fldT2 _ ·)) ?_
  refine zab (.bool false) rfl (zax rfl rfl b0 rfl (zda ·)) ?_;simp only [aP,lA,lZ,lS]
  refine zab (.bool false) rfl (zap (.inl rfl) rfl) ?_
  refine zbg (qv X Y false) rfl (zam rfl rfl b0 rfl Tryz.underlying29 rfl (iT _ _ _)) ?_;simp only [aP,lA,lZ,lS]
  refine zbg (.bool true) rfl (zat (args:=[qv X Y false]) rfl rfl (fun W => zaf Tryz.func47 rfl rfl _ W) (fun W hW => KO.out W)) ?_
  refine zbg (.bool false) rfl (zfu rfl rfl rfl) ?_;simp only [aP,lA,lZ,lS]
  refine zab (.bool false) rfl (zci rfl rfl rfl) ?_;simp only [aP,lA,lZ,lS]
  exact zbb
 refine zbe rfl ?_
 intro w2 hE
 replace b0:=hE.block b0
 replace hx:=hx.trans hE
 clear hE
 go_upto_region 3 with (fail)
 clear KO
 refine wp_region_noPanic ?_
 refine wp_region_held_drew (S:=fun W => Ext w2 W) (by kernel_rfl) (Ext.drew _) (fun hH => ?_)
 have hS : ∀ W,Ext w2 W → W.rangeAt w.heap.size 0 (nc X).toList:=fun W hW j v hv => by
  rw [cell_of_row W _ _ (qc X Y false) 29 (0,0) (hW.block b0),Nat.zero_add]
  have hj : j < 4:=(List.getElem?_eq_some_iff.1 hv).1
  rw [← hv]
  match j,hj with
  | 0,_ => rfl
  | 1,_ => rfl
  | 2,_ => rfl
  | 3,_ => rfl
 have hS4 : ∀ W,Ext w2 W → W.rangeAt w.heap.size 4 (nc Y).toList:=fun W hW j v hv => by
  rw [cell_of_row W _ _ (qc X Y false) 29 (0,0) (hW.block b0)]
  have hj : j < 4:=(List.getElem?_eq_some_iff.1 hv).1
  rw [← hv]
  match j,hj with
  | 0,_ => rfl
  | 1,_ => rfl
  | 2,_ => rfl
  | 3,_ => rfl
 refine wpAnyH_take (i:=0) (v:=ptrTo w.heap.size) rfl (by kernel_rfl) (by kernel_rfl) (by decide +kernel) (fun _ _ _ h => h) (Or.inl ⟨by rfl,fun W hSw => (by dsimp only at hSw; go_simp)⟩) hH ?_
 refine wpAnyH_take (i:=1) (v:=nv X) rfl (by kernel_rfl) (by kernel_rfl) (by decide +kernel) (fun _ _ _ h => h) (yieldsIf_load_mid (by rfl) _ _ rfl _ _ rfl (nc X).toList _ hS uN rfl (iN X)) hH ?_
 refine wpAnyH_take (i:=3) (v:=.pointer (some ⟨w.heap.size,4,none⟩)) rfl (by kernel_rfl) (by kernel_rfl) (by decide +kernel) (fun _ _ _ h => h) (Or.inl ⟨by rfl,fun W hSw => (by dsimp only at hSw; go_simp)⟩) hH ?_
 refine wpAnyH_take (i:=4) (v:=nv Y) rfl (by kernel_rfl) (by kernel_rfl) (by decide +kernel) (fun _ _ _ h => h) (yieldsIf_load_mid (by rfl) _ _ rfl _ _ rfl (nc Y).toList _ hS4 uN rfl (iN Y)) hH ?_
 refine wpAnyH_ready (rs:=[2]) (by decide +kernel) (by simp) ?_
 refine AllReadyH.cons rfl (fun K hK => ?_) AllReadyH.nil
 go_simp
 refine (KB.out X _).mono ?_
 rintro e w3 ⟨g1,rfl,hg1,r1,hE1⟩
 have hE1 : Ext _ w3:=hE1
 refine hK.out _ _ (hH.trans hE1) (fun hH => ?_)
 clear hK K hE1
 refine wpAnyH_ready (rs:=[5]) (by decide +kernel) (by simp) ?_
 refine AllReadyH.cons rfl (fun K hK => ?_) AllReadyH.nil
 go_simp
 refine (KB.out Y _).mono ?_
 rintro e w4 ⟨g2,rfl,hg2,r2,hE2⟩
 have hE2 : Ext w3 w4:=hE2
 have r1:=Ext.row r1 hE2
 refine hK.out _ _ (hH.trans hE2) (fun hH => ?_)
 clear hK K hE2
 refine wpAnyH_ready (rs:=[6]) (by decide +kernel) (by simp) ?_
 refine AllReadyH.cons rfl (fun K hK => ?_) AllReadyH.nil
 go_simp
 have hb4:=zag w4 (.cells #[.slice (some ⟨g1,0,none⟩) 32 32,.slice (some ⟨g2,0,none⟩) 32 32] 33)
 have r1:=r1.alloc (.cells #[.slice (some ⟨g1,0,none⟩) 32 32,.slice (some ⟨g2,0,none⟩) 32 32] 33)
 have r2:=r2.alloc (.cells #[.slice (some ⟨g1,0,none⟩) 32 32,.slice (some ⟨g2,0,none⟩) 32 32] 33)
 refine hK.out _ _ (hH.trans (Ext.alloc _ _)) (fun hH => ?_)
 clear hK K
 refine wpAnyH_ready (rs:=[7]) (by decide +kernel) (by simp) ?_
 refine AllReadyH.cons rfl (fun K hK => ?_) AllReadyH.nil
 go_simp
 refine (concat_calls w4.heap.size g1 g2 32 32 (bsv X) (bsv Y) (bsv_one X) (bsv_one Y) _ hb4 r1 r2).mono ?_
 rintro e w5 ⟨⟨v,rfl,ho⟩,hE5⟩
 have ho : Own w5 w.heap.size 5 v 64 (ptB X Y):=ho.base_le (Nat.le_trans (Below.size hx) (Below.size hH))
 refine hK.out _ _ (hH.trans hE5) (fun hH => ?_)
 clear hK K hE5
 refine wpAnyH_ready (rs:=[8]) (by decide +kernel) (by simp) ?_
 refine AllReadyH.cons rfl (fun K hK => ?_) AllReadyH.nil
 go_simp
 refine hK.out _ _ hH (fun hH => ?_)
 clear hK K
 refine wpAnyH_ready (rs:=[9]) (by decide +kernel) (by simp) ?_
 refine AllReadyH.cons rfl (fun K hK => ?_) AllReadyH.nil
 go_simp
 refine hK.out _ _ hH (fun hH => ?_)
 clear hK K
 refine wpAnyH_done (by decide +kernel) ?_ _
 refine NoPanic.normal ?_
 go_wp2
 go_ret2
 exact ⟨⟨_,rfl,ho⟩,hx.trans hH⟩
theorem bytes_far (X Y : Nat) (w : World) :
  Calls Tryz.prog 48 #[qv X Y true] w fun e w' => e = .returned (.tuple #[.slice none 0 0,.iface 39 (.int .i64 1)]) ∧ Ext w w':=by
 unfold qv qc
 go_enter Tryz.func48,Tryz.ntmps48
 go_upto_region 1 with (fail)
 refine zfn fun w1 hx b0 => ?_
 have b0 : w1.heap[w.heap.size]? = some (.cells (qc X Y true) 29 (0,0)):=b0
 refine' zdx (m:=7) (A:=_) ?h1 ?h2
 case h1 =>
  refine zab (.pointer (some ⟨w.heap.size,8,none⟩)) rfl (zak rfl rfl (fldT2 _ ·)) ?_
  refine zab (.bool true) rfl (zax rfl rfl b0 rfl (zda ·)) ?_;simp only [aP,lA,lZ,lS]
  refine zab (.bool true) rfl (zap (.inl rfl) rfl) ?_
  refine zcm rfl ?_;simp only [aP,lA,lZ,lS]
  refine zcm rfl ?_
  refine zcm rfl ?_;simp only [aP,lA,lZ,lS]
  refine zab (.bool true) rfl (zci rfl rfl rfl) ?_;simp only [aP,lA,lZ,lS]
  exact zbb
 refine zbe rfl ?_
 intro w2 hE
 replace hx:=hx.trans hE
 clear hE
 go_upto_region 2 with (fail)
 go_wp2
 go_ret2
 exact ⟨rfl,hx⟩
theorem bytes_off (X Y : Nat) (haX : X < top) (haY : Y < top) (haB : onB X Y false = false) (w : World) :
  Calls Tryz.prog 48 #[qv X Y false] w fun e w' => e = .returned (.tuple #[.slice none 0 0,.iface 39 (.int .i64 1)]) ∧ Ext w w':=by
 have kaX:=veil haX
 have kaY:=veil haY
 have kaB:=veil haB
 clear haX haY haB
 unfold qv qc
 go_enter Tryz.func48,Tryz.ntmps48
 go_upto_region 1 with (fail)
 refine zfn fun w1 hx b0 => ?_
 have b0 : w1.heap[w.heap.size]? = some (.cells (qc X Y false) 29 (0,0)):=b0
 refine' zdx (m:=7) (A:=_) ?h1 ?h2
 case h1 =>
  refine zab (.pointer (some ⟨w.heap.size,8,none⟩)) rfl (zak rfl rfl (fldT2 _ ·)) ?_
  refine zab (.bool false) rfl (zax rfl rfl b0 rfl (zda ·)) ?_;simp only [aP,lA,lZ,lS]
  refine zab (.bool false) rfl (zap (.inl rfl) rfl) ?_
  refine zbg (qv X Y false) rfl (zam rfl rfl b0 rfl Tryz.underlying29 rfl (iT _ _ _)) ?_;simp only [aP,lA,lZ,lS]
  refine zbg (.bool false) rfl (zat (args:=[qv X Y false]) rfl rfl (fun W => zaf Tryz.func47 rfl rfl _ W) (fun W hW => pOn_no kaX.out kaY.out kaB.out W)) ?_
  refine zbg (.bool true) rfl (zfu rfl rfl rfl) ?_;simp only [aP,lA,lZ,lS]
  refine zab (.bool true) rfl (zci rfl rfl rfl) ?_;simp only [aP,lA,lZ,lS]
  exact zbb
 refine zbe rfl ?_
 intro w2 hE
 replace hx:=hx.trans hE
 clear hE
 go_upto_region 2 with (fail)
 go_wp2
 go_ret2
 exact ⟨rfl,hx⟩
theorem parse_on (b o c : Nat) (y : Nat → Nat) (hy : ∀ j,y j < 256) (hc : 64 ≤ c) (w : World) (hlt : b < w.heap.size) (hcell : ∀ j,j < 64 → w.cell? ⟨b,o + j,none⟩ = some (.int .u8 (y j : Nat))) (h : onB (be32 y 0) (be32 y 32) false = true) :
  Calls Tryz.prog 57 #[.slice (some ⟨b,o,none⟩) 64 c] w fun e w' => e = .returned (.tuple #[qv (be32 y 0) (be32 y 32) false,.nilIface]) ∧ Ext w w':=by
 have lX:=zgc hy 0
 have lY:=zgc hy 32
 have eX : lev (fun k => y (32 - 1 - k)) 32 = be32 y 0:=by unfold be32; simp only [Nat.zero_add]
 have eY : lev (fun k => y (32 + (32 - 1 - k))) 32 = be32 y 32:=rfl
 have KX:=veil (show ∀ W,Ext w W → Calls Tryz.prog 81 #[.slice (some ⟨b,o,none⟩) 32 c] W fun e W' => e = .returned (.tuple #[nv (be32 y 0),.nilIface]) ∧ Ext W W' from fun W hW => by
  rw [← eX]
  exact of_some b o 32 c y hy (by omega) W (Nat.lt_of_lt_of_le hlt (Below.size hW)) (fun j hj => (Below.cell (p:=⟨b,o + j,none⟩) hW hlt).trans (hcell j (by omega))))
 have KY:=veil (show ∀ W,Ext w W → Calls Tryz.prog 81 #[.slice (some ⟨b,o + 32,none⟩) 32 (c - 32)] W fun e W' => e = .returned (.tuple #[nv (be32 y 32),.nilIface]) ∧ Ext W W' from fun W hW => by
  rw [← eY]
  exact of_some b (o + 32) 32 (c - 32) (fun j => y (32 + j)) (fun j => hy _) (by omega) W (Nat.lt_of_lt_of_le hlt (Below.size hW)) (fun j hj => by
   have:=(Below.cell (p:=⟨b,o + (32 + j),none⟩) hW hlt).trans (hcell (32 + j) (by omega))
   rw [← Nat.add_assoc] at this
   exact this))
 have kO:=fun W => on_is (be32 y 0) (be32 y 32) false lX lY W
 rw [h] at kO
 have KO:=veil kO
 clear kO h eX eY lX lY hcell
 generalize be32 y 0 = X at *
 generalize be32 y 32 = Y at *
 have q1 : ∀ W,(Instr.sliceAt 33 (.slice (some ⟨b,o,none⟩) 64 c) none (some (.int .i64 32)) none).run Tryz.prog W = .ok (.slice (some ⟨b,o,none⟩) 32 c) W:=fun W => by
  have h:=cut_to (some ⟨b,o,none⟩) 64 c 32 (by omega) W
  unfold cutA at h
  rw [if_neg (by omega)] at h
  simpa [Addr.add_mid] using h
 have q2 : ∀ W,(Instr.sliceAt 33 (.slice (some ⟨b,o,none⟩) 64 c) (some (.int .i64 32)) none none).run Tryz.prog W = .ok (.slice (some ⟨b,o + 32,none⟩) 32 (c - 32)) W:=fun W => by
  have h:=zhm (some ⟨b,o,none⟩) 64 c 32 (by omega) W
  unfold cutA at h
  rw [if_neg (by omega)] at h
  simpa [Addr.add_mid] using h
 have Q1:=veil q1
 have Q2:=veil q2
 clear q1 q2 hy hc
 go_enter Tryz.func57,Tryz.ntmps57
 go_upto_region 3 with (fail)
 refine zfn fun w1 hx b0 => ?_
 refine' zbf (m:=6) (A:=_) (by kernel_rfl) ?h1 ?h2
 case h1 =>
  refine zab (.slice (some ⟨b,o,none⟩) 64 c) rfl (zap (.inl rfl) rfl) ?_
  refine zab (.slice (some ⟨b,o,none⟩) 32 c) rfl (zei rfl rfl Q1.out) ?_;simp only [aP,lA,lZ,lS]
  refine zab (.tuple #[nv X,.nilIface]) rfl (zat (args:=[.slice (some ⟨b,o,none⟩) 32 c]) rfl rfl (fun W => zaf Tryz.func81 rfl rfl _ W) (fun W hW => KX.out W (hx.trans hW))) ?_
  refine zab (.tuple #[nv X,.nilIface]) rfl (zap (.inl rfl) rfl) ?_;simp only [aP,lA,lZ,lS]
  refine zab (nv X) rfl (zcz rfl rfl rfl) ?_
  refine zab (.nilIface) rfl (zcz rfl rfl rfl) ?_;simp only [aP,lA,lZ,lS]
  exact zbb
 refine zeh _ _ rfl rfl rfl rfl rfl rfl rfl (hzN ·) (fun _ => rfl) (fun _ => rfl) (iN _) (hsN _) (nc_one _) ?_
 intro gm1 w2 hgm1 bm1 hE
 replace b0:=hE.block b0
 replace hx:=hx.trans hE
 clear hE
 simp only [aP,lA,lZ,lS]
 clear hgm1
 go_upto_region 4 with (fail)
 refine' zbf (m:=6) (A:=_) (by kernel_rfl) ?h2a ?h2b
 case h2a =>
  refine zab (.slice (some ⟨b,o,none⟩) 64 c) rfl (zap (.inl rfl) rfl) ?_
  refine zab (.slice (some ⟨b,o + 32,none⟩) 32 (c - 32)) rfl (zei rfl rfl Q2.out) ?_;simp only [aP,lA,lZ,lS]
  refine zab (.tuple #[nv Y,.nilIface]) rfl (zat (args:=[.slice (some ⟨b,o + 32,none⟩) 32 (c - 32)]) rfl rfl (fun W => zaf Tryz.func81 rfl rfl _ W) (fun W hW => KY.out W (hx.trans hW))) ?_
  refine zab (.tuple #[nv Y,.nilIface]) rfl (zap (.inl rfl) rfl) ?_;simp only [aP,lA,lZ,lS]
  refine zab (nv Y) rfl (zcz rfl rfl rfl) ?_
  refine zab (.nilIface) rfl (zcz rfl rfl rfl) ?_;simp only [aP,lA,lZ,lS]
  exact zbb
 refine zeh _ _ rfl rfl rfl rfl rfl rfl rfl (hzN ·) (fun _ => rfl) (fun _ => rfl) (iN _) (hsN _) (nc_one _) ?_
 intro gm2 w3 hgm2 bm2 hE
 replace b0:=hE.block b0
 replace bm1:=hE.block bm1
 replace hx:=hx.trans hE
 clear hE
 simp only [aP,lA,lZ,lS]
 clear hgm2
 go_upto_region 5 with (fail)
 refine' zbf (m:=3) (A:=_) (by kernel_rfl) ?h3a ?h3b
 case h3a =>
  refine zab (nv X) rfl (zam rfl rfl bm1 rfl uN rfl (iN _)) ?_
  refine zab (nv Y) rfl (zam rfl rfl bm2 rfl uN rfl (iN _)) ?_;simp only [aP,lA,lZ,lS]
  refine zab (qv X Y false) rfl (zej (vs:=[(0,nv X),(1,nv Y)]) rfl rfl (fun W => bldT W _ _)) ?_;simp only [aP,lA,lZ,lS]
  exact zbb
 refine prest_var _ _ rfl rfl rfl rfl rfl rfl rfl (hzT ·) (fun _ => rfl) (fun _ => rfl) (iT _ _ _) (hsT _ _ _) (zex _ _ _) ?_
 intro gm3 w4 hgm3 bm3 hE
 replace b0:=hE.block b0
 replace hx:=hx.trans hE
 clear hE
 simp only [aP,lA,lZ,lS]
 clear hgm3
 go_upto_region 6 with (fail)
 refine' zbf (m:=3) (A:=_) (by kernel_rfl) ?h4a ?h4b
 case h4a =>
  refine zab (qv X Y false) rfl (zam rfl rfl bm3 rfl Tryz.underlying29 rfl (iT _ _ _)) ?_
  refine zab (.bool true) rfl (zat (args:=[qv X Y false]) rfl rfl (fun W => zaf Tryz.func47 rfl rfl _ W) (fun W hW => KO.out W)) ?_;simp only [aP,lA,lZ,lS]
  refine zab (.bool false) rfl (zfu rfl rfl rfl) ?_;simp only [aP,lA,lZ,lS]
  exact zbb
 refine zbe rfl ?_
 intro w5 hE
 replace b0:=hE.block b0
 replace bm3:=hE.block bm3
 replace hx:=hx.trans hE
 clear hE
 go_upto_region 8 with (fail)
 refine' zbf (m:=1) (A:=_) (by kernel_rfl) ?h5a ?h5b
 case h5a =>
  refine zab (qv X Y false) rfl (zam rfl rfl bm3 rfl Tryz.underlying29 rfl (iT _ _ _)) ?_;simp only [aP,lA,lZ,lS]
  exact zbb
 refine zhd _ rfl rfl rfl rfl rfl rfl b0 (iT _ _ _) (hsT _ _ _) (zex _ _ _) ?_
 intro w6 hB hb
 go_wp2
 exact bodyPost_ret (zea rfl _ _ (w.heap.size) 29 (qc X Y false) (0,0) _ rfl hb Tryz.underlying29 rfl (iT _ _ _)) rfl ⟨rfl,hx.new hB (by omega)⟩
theorem parse_off (b o c : Nat) (y : Nat → Nat) (hy : ∀ j,y j < 256) (hc : 64 ≤ c) (w : World) (hlt : b < w.heap.size) (hcell : ∀ j,j < 64 → w.cell? ⟨b,o + j,none⟩ = some (.int .u8 (y j : Nat))) (h : onB (be32 y 0) (be32 y 32) false = false) :
  Calls Tryz.prog 57 #[.slice (some ⟨b,o,none⟩) 64 c] w fun e w' => e = .returned (.tuple #[qv 0 0 false,.iface 39 (.int .i64 2)]) ∧ Ext w w':=by
 have lX:=zgc hy 0
 have lY:=zgc hy 32
 have eX : lev (fun k => y (32 - 1 - k)) 32 = be32 y 0:=by unfold be32; simp only [Nat.zero_add]
 have eY : lev (fun k => y (32 + (32 - 1 - k))) 32 = be32 y 32:=rfl
 have KX:=veil (show ∀ W,Ext w W → Calls Tryz.prog 81 #[.slice (some ⟨b,o,none⟩) 32 c] W fun e W' => e = .returned (.tuple #[nv (be32 y 0),.nilIface]) ∧ Ext W W' from fun W hW => by
  rw [← eX]
  exact of_some b o 32 c y hy (by omega) W (Nat.lt_of_lt_of_le hlt (Below.size hW)) (fun j hj => (Below.cell (p:=⟨b,o + j,none⟩) hW hlt).trans (hcell j (by omega))))
 have KY:=veil (show ∀ W,Ext w W → Calls Tryz.prog 81 #[.slice (some ⟨b,o + 32,none⟩) 32 (c - 32)] W fun e W' => e = .returned (.tuple #[nv (be32 y 32),.nilIface]) ∧ Ext W W' from fun W hW => by
  rw [← eY]
  exact of_some b (o + 32) 32 (c - 32) (fun j => y (32 + j)) (fun j => hy _) (by omega) W (Nat.lt_of_lt_of_le hlt (Below.size hW)) (fun j hj => by
   have:=(Below.cell (p:=⟨b,o + (32 + j),none⟩) hW hlt).trans (hcell (32 + j) (by omega))
   rw [← Nat.add_assoc] at this
   exact this))
 have kO:=fun W => on_is (be32 y 0) (be32 y 32) false lX lY W
 rw [h] at kO
 have KO:=veil kO
 clear kO h eX eY lX lY hcell
 generalize be32 y 0 = X at *
 generalize be32 y 32 = Y at *
 have q1 : ∀ W,(Instr.sliceAt 33 (.slice (some ⟨b,o,none⟩) 64 c) none (some (.int .i64 32)) none).run Tryz.prog W = .ok (.slice (some ⟨b,o,none⟩) 32 c) W:=fun W => by
  have h:=cut_to (some ⟨b,o,none⟩) 64 c 32 (by omega) W
  unfold cutA at h
  rw [if_neg (by omega)] at h
  simpa [Addr.add_mid] using h
 have q2 : ∀ W,(Instr.sliceAt 33 (.slice (some ⟨b,o,none⟩) 64 c) (some (.int .i64 32)) none none).run Tryz.prog W = .ok (.slice (some ⟨b,o + 32,none⟩) 32 (c - 32)) W:=fun W => by
  have h:=zhm (some ⟨b,o,none⟩) 64 c 32 (by omega) W
  unfold cutA at h
  rw [if_neg (by omega)] at h
  simpa [Addr.add_mid] using h
 have Q1:=veil q1
 have Q2:=veil q2
 clear q1 q2 hy hc
 go_enter Tryz.func57,Tryz.ntmps57
 go_upto_region 3 with (fail)
 refine zfn fun w1 hx b0 => ?_
 refine' zbf (m:=6) (A:=_) (by kernel_rfl) ?h1 ?h2
 case h1 =>
  refine zab (.slice (some ⟨b,o,none⟩) 64 c) rfl (zap (.inl rfl) rfl) ?_
  refine zab (.slice (some ⟨b,o,none⟩) 32 c) rfl (zei rfl rfl Q1.out) ?_;simp only [aP,lA,lZ,lS]
  refine zab (.tuple #[nv X,.nilIface]) rfl (zat (args:=[.slice (some ⟨b,o,none⟩) 32 c]) rfl rfl (fun W => zaf Tryz.func81 rfl rfl _ W) (fun W hW => KX.out W (hx.trans hW))) ?_
  refine zab (.tuple #[nv X,.nilIface]) rfl (zap (.inl rfl) rfl) ?_;simp only [aP,lA,lZ,lS]
  refine zab (nv X) rfl (zcz rfl rfl rfl) ?_
  refine zab (.nilIface) rfl (zcz rfl rfl rfl) ?_;simp only [aP,lA,lZ,lS]
  exact zbb
 refine zeh _ _ rfl rfl rfl rfl rfl rfl rfl (hzN ·) (fun _ => rfl) (fun _ => rfl) (iN _) (hsN _) (nc_one _) ?_
 intro gm1 w2 hgm1 bm1 hE
 replace b0:=hE.block b0
 replace hx:=hx.trans hE
 clear hE
 simp only [aP,lA,lZ,lS]
 clear hgm1
 go_upto_region 4 with (fail)
 refine' zbf (m:=6) (A:=_) (by kernel_rfl) ?h2a ?h2b
 case h2a =>
  refine zab (.slice (some ⟨b,o,none⟩) 64 c) rfl (zap (.inl rfl) rfl) ?_
  refine zab (.slice (some ⟨b,o + 32,none⟩) 32 (c - 32)) rfl (zei rfl rfl Q2.out) ?_;simp only [aP,lA,lZ,lS]
  refine zab (.tuple #[nv Y,.nilIface]) rfl (zat (args:=[.slice (some ⟨b,o + 32,none⟩) 32 (c - 32)]) rfl rfl (fun W => zaf Tryz.func81 rfl rfl _ W) (fun W hW => KY.out W (hx.trans hW))) ?_
  refine zab (.tuple #[nv Y,.nilIface]) rfl (zap (.inl rfl) rfl) ?_;simp only [aP,lA,lZ,lS]
  refine zab (nv Y) rfl (zcz rfl rfl rfl) ?_
  refine zab (.nilIface) rfl (zcz rfl rfl rfl) ?_;simp only [aP,lA,lZ,lS]
  exact zbb
 refine zeh _ _ rfl rfl rfl rfl rfl rfl rfl (hzN ·) (fun _ => rfl) (fun _ => rfl) (iN _) (hsN _) (nc_one _) ?_
 intro gm2 w3 hgm2 bm2 hE
 replace b0:=hE.block b0
 replace bm1:=hE.block bm1
 replace hx:=hx.trans hE
 clear hE
 simp only [aP,lA,lZ,lS]
 clear hgm2
 go_upto_region 5 with (fail)
 refine' zbf (m:=3) (A:=_) (by kernel_rfl) ?h3a ?h3b
 case h3a =>
  refine zab (nv X) rfl (zam rfl rfl bm1 rfl uN rfl (iN _)) ?_
  refine zab (nv Y) rfl (zam rfl rfl bm2 rfl uN rfl (iN _)) ?_;simp only [aP,lA,lZ,lS]
  refine zab (qv X Y false) rfl (zej (vs:=[(0,nv X),(1,nv Y)]) rfl rfl (fun W => bldT W _ _)) ?_;simp only [aP,lA,lZ,lS]
  exact zbb
 refine prest_var _ _ rfl rfl rfl rfl rfl rfl rfl (hzT ·) (fun _ => rfl) (fun _ => rfl) (iT _ _ _) (hsT _ _ _) (zex _ _ _) ?_
 intro gm3 w4 hgm3 bm3 hE
 replace b0:=hE.block b0
 replace hx:=hx.trans hE
 clear hE
 simp only [aP,lA,lZ,lS]
 clear hgm3
 go_upto_region 6 with (fail)
 refine' zbf (m:=3) (A:=_) (by kernel_rfl) ?h4a ?h4b
 case h4a =>
  refine zab (qv X Y false) rfl (zam rfl rfl bm3 rfl Tryz.underlying29 rfl (iT _ _ _)) ?_
  refine zab (.bool false) rfl (zat (args:=[qv X Y false]) rfl rfl (fun W => zaf Tryz.func47 rfl rfl _ W) (fun W hW => KO.out W)) ?_;simp only [aP,lA,lZ,lS]
  refine zab (.bool true) rfl (zfu rfl rfl rfl) ?_;simp only [aP,lA,lZ,lS]
  exact zbb
 refine zbe rfl ?_
 intro w5 hE
 replace b0:=hE.block b0
 replace hx:=hx.trans hE
 clear hE
 go_upto_region 7 with (fail)
 refine' zbf (m:=2) (A:=_) (by kernel_rfl) ?h5a ?h5b
 case h5a =>
  refine zab (qv 0 0 false) rfl (zej rfl rfl (bldT0 ·)) ?_
  refine zab (.iface 39 (.int .i64 2)) rfl (made_iface rfl (mkErr2 ·)) ?_;simp only [aP,lA,lZ,lS]
  exact zbb
 refine zhd _ rfl rfl rfl rfl rfl rfl b0 (iT _ _ _) (hsT _ _ _) (zex _ _ _) ?_
 intro w6 hB hb
 go_wp2
 exact bodyPost_ret (zea rfl _ _ (w.heap.size) 29 (qc 0 0 false) (0,0) _ rfl hb Tryz.underlying29 rfl (iT _ _ _)) rfl ⟨rfl,hx.new hB (by omega)⟩
theorem bytes_err (X Y : Nat) (f : Bool) (hX : X < top) (hY : Y < top) (h : onB X Y f = false) (w : World) : Calls Tryz.prog 48 #[qv X Y f] w fun e w' => e = .returned (.tuple #[.slice none 0 0,.iface 39 (.int .i64 1)]) ∧ Ext w w':=by
 cases f with
 | true => exact bytes_far X Y w
 | false => exact bytes_off X Y hX hY h w
theorem pbytes_on {X Y : Nat} (h : onB X Y false = true) (w : World) : Calls Tryz.prog 48 #[qv X Y false] w fun e w' => ∃ A c,e = .returned (.tuple #[.slice A 64 c,.nilIface]) ∧ 64 ≤ c ∧ Bs w' A (sigB X Y) ∧ Ext w w':=by
 obtain ⟨q,rfl,rfl,hf⟩:=onB_some h
 have k:=bytes_yes q hf.symm w
 unfold qvP at k
 rw [← hf] at k
 exact k.mono fun e w' ⟨⟨v,he,o⟩,hE⟩ => by
  obtain ⟨A,c,hv,h1,h2,_⟩:=own_sig o
  exact ⟨A,c,by rw [he,hv],h1,h2,hE⟩
theorem pbytes_off (k : Ky) (hx : k.x < top) (hy : k.y < top) (h : offK k = true) (w : World) : Calls Tryz.prog 48 #[qv k.x k.y k.f] w fun e w' => e = .returned (.tuple #[.slice none 0 0,.iface 39 (.int .i64 1)]) ∧ Ext w w':=by
 unfold offK at h
 cases hf : k.f with
 | true => exact bytes_far k.x k.y w
 | false =>
  rw [hf,Bool.false_or,Bool.not_eq_true'] at h
  exact bytes_err k.x k.y false hx hy h w
theorem offK_no {k : Ky} (h : offK k = false) : k.f = false ∧ onB k.x k.y false = true:=by
 unfold offK at h
 rw [Bool.or_eq_false_iff,Bool.not_eq_false'] at h
 obtain ⟨h1,h2⟩:=h
 rw [h1] at h2
 exact ⟨h1,h2⟩
theorem vs_key {w : World} {g t : Nat} {A0 A1 A2 A3 : Option Addr} {c0 c1 c2 c3 : Nat} {x0 x1 x2 x3 : List Nat} {fr : Nat × Nat}
  (l0 : x0.length = 8) (l1 : x1.length = 64) (l2 : x2.length = 8) (l3 : x3.length = 8)
  (hg : w.heap[g]? = some (.cells #[.slice A0 8 c0,.slice A1 64 c1,.slice A2 8 c2,.slice A3 8 c3] t fr))
  (h0 : 8 ≤ c0 ∧ Bs w A0 x0) (h1 : 64 ≤ c1 ∧ Bs w A1 x1) (h2 : 8 ≤ c2 ∧ Bs w A2 x2) (h3 : 8 ≤ c3 ∧ Bs w A3 x3) : Vs w (.slice (some ⟨g,0,none⟩) 4 4) [x0,x1,x2,x3] :=
 vs_row (l:=[x0,x1,x2,x3]) hg (Nat.le_refl _) fun i hi => by
  match i,hi with
  | 0,_ => exact ⟨A0,c0,by show some (Value.slice A0 8 c0) = some (.slice A0 x0.length c0); rw [l0],by show x0.length ≤ _; rw [l0]; exact h0.1,h0.2⟩
  | 1,_ => exact ⟨A1,c1,by show some (Value.slice A1 64 c1) = some (.slice A1 x1.length c1); rw [l1],by show x1.length ≤ _; rw [l1]; exact h1.1,h1.2⟩
  | 2,_ => exact ⟨A2,c2,by show some (Value.slice A2 8 c2) = some (.slice A2 x2.length c2); rw [l2],by show x2.length ≤ _; rw [l2]; exact h2.1,h2.2⟩
  | 3,_ => exact ⟨A3,c3,by show some (Value.slice A3 8 c3) = some (.slice A3 x3.length c3); rw [l3],by show x3.length ≤ _; rw [l3]; exact h3.1,h3.2⟩
theorem kyB_flat (i a b : Int) (x y : Nat) (f : Bool) : [numB i,sigB x y,numB a,numB b].flatten = kyB ⟨i,x,y,f,a,b⟩:=by simp [kyB]
theorem Fresh.back {w W : World} {A : Option Addr} {bs : List Nat} (h : Fresh W A bs) (hE : Ext w W) : Fresh w A bs:=h.imp id fun h b o e => Nat.le_trans (Below.size hE) (h b o e)
def KatV (w : World) (k : Ky) (v : Value) (W : World) : Prop:=∃ A c,v = .slice A 88 c ∧ 88 ≤ c ∧ Bs W A (kyB k) ∧ Fresh w A (kyB k)
theorem concat_key {w : World} {i a b : Int} {x y : Nat} (f : Bool) {v : Value} {W : World} (hE : Ext w W) (hV : Vs W v [numB i,sigB x y,numB a,numB b]) :
  Calls Tryz.prog 49 #[v] W fun e w' => ∃ v,e = .returned v ∧ Ext W w' ∧ KatV w ⟨i,x,y,f,a,b⟩ v w':=by
 have hl : [numB i,sigB x y,numB a,numB b].flatten.length = 88:=by rw [kyB_flat i a b x y f,zdn]
 refine (concatB_calls v _ (by simp) (by rw [hl]; decide) (by rw [hl]; decide) W hV).mono fun e w' ⟨A,c,he,hc,hB,hF,hE2⟩ => ?_
 rw [hl] at he hc
 rw [kyB_flat i a b x y f] at hB hF
 exact ⟨_,he,hE2,A,c,rfl,hc,hB,hF.back hE⟩
theorem bytesOf_off (k : Ky) (hx : k.x < top) (hy : k.y < top) (h : offK k = true) (w : World) :
  Calls Tryz.prog 26 #[.agg (kyC k).toArray] w fun e w' => e = .returned (.tuple #[.slice none 0 0,.iface 39 (.int .i64 1)]) ∧ Ext w w':=by
 have KB:=veil (fun W => pbytes_off k hx hy h W)
 have k1 : ∀ w,(binOp .neq 35 (.iface 39 (.int .i64 1)) .nilIface).run Tryz.prog w = .ok (.bool true) w:=fun w => by kernel_rfl
 clear hx hy h
 obtain ⟨C,hC⟩ : ∃ C,C = (kyC k).toArray:=⟨_,rfl⟩
 rw [← hC]
 have HC:=veil hC
 clear hC
 go_enter Tryz.func26,Tryz.ntmps26
 go_upto_region 1 with (fail)
 obtain ⟨g,hg⟩ : ∃ g,g = w.heap.size:=⟨_,rfl⟩
 have h0:=zag w (.cells C 55)
 have hE0:=Ext.alloc w (.cells C 55)
 generalize w.alloc (.cells C 55) = w0 at *
 rw [← hg] at h0 ⊢
 rw [HC.out] at h0
 have HQ:=veil (ky_q (zcr h0))
 simp only [Nat.zero_add] at HQ
 have HE:=veil hE0
 clear h0 hE0 hg
 go_wp2_with (first
  | ((with_reducible refine zah 8 ?_); refine wpList_load_mid rfl 29 _ rfl g 1 rfl _ _ HQ.out Tryz.underlying29 rfl (iT k.x k.y k.f) ?_)
  | (go_at_call 48; refine (KB.out _).mono ?_; rintro e w1 ⟨rfl,hE1⟩))
 go_ret2
 exact ⟨rfl,HE.out.trans hE1⟩
theorem bytesOf_on (k : Ky) (h : offK k = false) (hi : 0 ≤ k.i ∧ k.i ≤ 9223372036854775807) (ha : 0 ≤ k.a ∧ k.a ≤ 9223372036854775807) (hb : 0 ≤ k.b ∧ k.b ≤ 9223372036854775807) (w : World) :
  Calls Tryz.prog 26 #[.agg (kyC k).toArray] w fun e w' => ∃ A c,e = .returned (.tuple #[.slice A 88 c,.nilIface]) ∧ 88 ≤ c ∧ Bs w' A (kyB k) ∧ Fresh w A (kyB k) ∧ Ext w w':=by
 obtain ⟨hf,ho⟩:=offK_no h
 have k3 : ∀ w,(binOp .neq 35 .nilIface .nilIface).run Tryz.prog w = .ok (.bool false) w:=fun w => by kernel_rfl
 clear h
 obtain ⟨i,x,y,f,a,b⟩:=k
 simp only at hf ho hi ha hb
 subst hf
 have KB:=veil (fun W => pbytes_on ho W)
 have HN:=veil (And.intro hi (And.intro ha hb))
 clear ho hi ha hb
 obtain ⟨C,hC⟩ : ∃ C,C = (kyC ⟨i,x,y,false,a,b⟩).toArray:=⟨_,rfl⟩
 rw [← hC]
 have HC:=veil hC
 clear hC
 go_enter Tryz.func26,Tryz.ntmps26
 go_upto_region 1 with (fail)
 obtain ⟨g,hg⟩ : ∃ g,g = w.heap.size:=⟨_,rfl⟩
 have h0:=zag w (.cells C 55)
 have hE0:=Ext.alloc w (.cells C 55)
 generalize w.alloc (.cells C 55) = w0 at *
 rw [← hg] at h0 ⊢
 rw [HC.out] at h0
 have HQ:=veil (ky_q (zcr h0))
 simp only [Nat.zero_add] at HQ
 have HE:=veil (And.intro hE0 (zcr h0))
 clear h0 hE0 hg
 go_upto_region 4 with (first
  | ((with_reducible refine zah 8 ?_); refine wpList_load_mid rfl 29 _ rfl g 1 rfl _ _ HQ.out Tryz.underlying29 rfl (iT x y false) ?_)
  | (go_at_call 48; refine (KB.out _).mono ?_; rintro e w1 ⟨A1,c1,rfl,hc1,hB1,hE1⟩))
 have hr:=zbd hE1 (World.block_lt_of_cell? _ _ (ky_i HE.out.2)) HE.out.2
 have c0:=ky_i hr
 have c10:=ky_a hr
 have c11:=ky_b hr
 simp only [Nat.zero_add] at c0 c10 c11
 have H1:=veil (And.intro (HE.out.1.trans hE1) (And.intro hc1 hB1))
 clear hr hE1 hc1 hB1 HQ KB HE k3
 refine zcj 14 [(true,[0,1,3,4,5,7,8]),(false,[2]),(false,[6]),(false,[9]),(false,[10]),(false,[11]),(true,[12,13])] (by kernel_rfl) (by kernel_rfl) fun Q' hQ' => ?_
 refine' zbc (A:=_) _ rfl (by kernel_rfl) ?_ ?_
 rotate_left
 ·
  intro D hD hN'
  have e0:=hD.cell c0
  have e1:=hD.cell c10
  have e2:=hD.cell c11
  simp only [pickI,consO,List.getElem?_cons_zero,List.getElem?_cons_succ]
  repeat (go_big_quiet_step (fail))
  exact zbu
 refine zdf (R:=NumV i) _ rfl rfl rfl rfl rfl (zce Tryz.func50 rfl rfl _) (fun W _ => numV i HN.out.1 W) ?_
 rintro _ W2 hE2 ⟨A0,d0,rfl,hd0,hB0⟩
 simp only [aP,lA,lZ,lS]
 refine zdf (R:=NumV a) _ rfl rfl rfl rfl rfl (zce Tryz.func50 rfl rfl _) (fun W _ => numV a HN.out.2.1 W) ?_
 rintro _ W3 hE3 ⟨A2,d2,rfl,hd2,hB2⟩
 simp only [aP,lA,lZ,lS]
 refine zdf (R:=NumV b) _ rfl rfl rfl rfl rfl (zce Tryz.func50 rfl rfl _) (fun W _ => numV b HN.out.2.2 W) ?_
 rintro _ W4 hE4 ⟨A3,d3,rfl,hd3,hB3⟩
 simp only [aP,lA,lZ,lS]
 refine zcx (vs:=[(0,.slice A0 8 d0),(1,.slice A1 64 c1),(2,.slice A2 8 d2),(3,.slice A3 8 d3)]) (C:=#[.slice A0 8 d0,.slice A1 64 c1,.slice A2 8 d2,.slice A3 8 d3]) (e:=33) _ rfl rfl rfl rfl rfl (fun W => by simp [Instr.buildSlice,go_sem]) ?_
 intro g7 W7 hg7 hgb7 hE7
 simp only [aP,lA,lZ,lS]
 have hE27:=hE2.trans (hE3.trans (hE4.trans hE7))
 have hV:=vs_key (zbm i) (zcw x y) (zbm a) (zbm b) hgb7 ⟨hd0,hB0.ext (hE3.trans (hE4.trans hE7))⟩ ⟨H1.out.2.1,H1.out.2.2.ext hE27⟩ ⟨hd2,hB2.ext (hE4.trans hE7)⟩ ⟨hd3,hB3.ext hE7⟩
 have HV:=veil (And.intro hV (H1.out.1.trans hE27))
 refine zdf (R:=KatV w ⟨i,x,y,false,a,b⟩) _ rfl rfl rfl rfl rfl (zce Tryz.func49 rfl rfl _) (fun W hW => concat_key false (HV.out.2.trans hW) (HV.out.1.ext hW)) ?_
 rintro _ W8 hE8 ⟨A8,d8,rfl,hd8,hB8,hF8⟩
 simp only [aP,lA,lZ,lS]
 refine' zbc (A:=_) _ rfl (by kernel_rfl) ?_ ?_
 rotate_left
 ·
  intro D hD hN'
  simp only [pickI,consO,List.getElem?_cons_zero,List.getElem?_cons_succ]
  repeat (go_big_quiet_step (fail))
  exact zbu
 refine zcb hQ' fun W9 hE9 => ?_
 have hEnd:=(HV.out.2.trans hE8).trans hE9
 have HB:=veil (And.intro (hB8.ext hE9) hF8)
 clear hV hE27 hE2 hE3 hE4 hE7 hE8 hE9 hB0 hB2 hB3 hB8 hF8 hgb7 hg7 HV H1
 go_wp2
 go_ret2
 exact ⟨A8,d8,rfl,hd8,HB.out.1,HB.out.2,hEnd⟩
theorem zff {g k : Nat} (hne : k ≠ g) : ∀ (vs : List Value) (o : Nat) (w : World),(w.setCells g o vs).heap[k]? = w.heap[k]?
 | [],_,_ => rfl
 | _ :: r,o,_ => (zff hne r (o + 1) _).trans (Below.heap_setCell _ _ _ _ hne)
theorem Bs.off {w : World} {A : Option Addr} {bs : List Nat} {g o : Nat} {vs : List Value} (h : Bs w A bs) (hne : ∀ b o,A = some ⟨b,o,none⟩ → b ≠ g) : Bs (w.setCells g o vs) A bs :=
 ⟨h.1,h.2.imp id fun ⟨b,o',e,hb,hc⟩ => by
  have hk:=zff (hne b o' e) vs o w
  have hs : b < (w.setCells g o vs).heap.size:=by
   rw [Array.getElem?_eq_getElem hb] at hk
   exact (Array.getElem?_eq_some_iff.1 hk).1
  exact ⟨b,o',e,hs,fun j hj => (World.cell?_of_block (a:=⟨b,o' + j,none⟩) hk).trans (hc j hj)⟩⟩
def LaidK (g : Nat) (w : World) (l : List Ky) (f : Nat → Value) (i : Nat) : Prop:=∀ j,j < i → f (j * 2) = .int .i64 ((j : Int) + 1) ∧ ∃ A c,f (j * 2 + 1) = .slice A 88 c ∧ 88 ≤ c ∧ Bs w A (kyB (l.getD j ky0)) ∧ ∀ b o,A = some ⟨b,o,none⟩ → b ≠ g
theorem LaidK.ext {g : Nat} {w w' : World} {l : List Ky} {f : Nat → Value} {i : Nat} (h : LaidK g w l f i) (k : Ext w w') : LaidK g w' l f i:=fun j hj => by
 obtain ⟨h1,A,c,h2,h3,h4,h5⟩:=h j hj
 exact ⟨h1,A,c,h2,h3,h4.ext k,h5⟩
theorem LaidK.step {g : Nat} {w : World} {l : List Ky} {f : Nat → Value} {i c : Nat} {A : Option Addr} (h : LaidK g w l f i) (hc : 88 ≤ c) (hB : Bs w A (kyB (l.getD i ky0))) (hne : ∀ b o,A = some ⟨b,o,none⟩ → b ≠ g) :
  LaidK g (w.setCells g (i * 2) [.int .i64 ((i : Int) + 1),.slice A 88 c]) l (fun j => if j = i * 2 + 1 then .slice A 88 c else if j = i * 2 then .int .i64 ((i : Int) + 1) else f j) (i + 1):=fun j hj => by
 by_cases e : j = i
 ·
  subst e
  exact ⟨by simp only; rw [if_neg (by omega),if_pos trivial],A,c,by simp only; rw [if_pos trivial],hc,hB.off hne,hne⟩
 ·
  obtain ⟨h1,A',c',h2,h3,h4,h5⟩:=h j (by omega)
  refine ⟨?_,A',c',?_,h3,h4.off h5,h5⟩
  ·
   simp only
   rw [if_neg (by omega),if_neg (by omega)]
   exact h1
  ·
   simp only
   rw [if_neg (by omega),if_neg (by omega)]
   exact h2
theorem LaidK.fl {g n : Nat} {w : World} {l : List Ky} {f : Nat → Value} (h : LaidK g w l f n) (hn : n = l.length) (hp : Pre w g 64 (n * 2) f) : Fl w (.slice (some ⟨g,0,none⟩) n n) (kyFs 1 l):=by
 subst hn
 refine ⟨kyFs_byt 1 l,some ⟨g,0,none⟩,l.length,by rw [zbn],by rw [zbn]; exact Nat.le_refl _,.inr ⟨g,0,rfl,hp.lt,fun i hi => ?_⟩⟩
 rw [zbn] at hi
 obtain ⟨h1,A,c,h2,h3,h4,_⟩:=h i hi
 obtain ⟨e1,e2⟩:=zhi 1 l i hi
 rw [e1,e2,zdn]
 refine ⟨?_,A,c,?_,h3,h4⟩
 ·
  rw [Nat.zero_add,hp.cell (by omega),h1,show (i : Int) + 1 = 1 + (i : Int) by omega]
 ·
  rw [Nat.zero_add,hp.cell (by omega),h2]
theorem ordK_each {l : List Ky} (h : ordK l = true) {j : Nat} (hj : j < l.length) : 1 ≤ (l.getD j ky0).i ∧ (l.getD j ky0).i ≤ 2147483647 ∧ 0 ≤ (l.getD j ky0).a ∧ (l.getD j ky0).a ≤ (l.getD j ky0).b ∧ (l.getD j ky0).b ≤ 1073741824:=by
 have h:=of_decide_eq_true h
 obtain ⟨_,h2,h3,h4,h5⟩:=h.2 j hj
 exact ⟨okO_pos j fun q hq => h.2 q (by omega),h2,h3,h4,h5⟩
theorem kbytes_calls (v : Value) (l : List Ky) (w : World) (hF : Ks w v l) (hT : TopK l) (hL : l.length ≤ 1000000) :
  Calls Tryz.prog 12 #[v] w fun e w' => ∃ x ev,e = .returned (.tuple #[x,ev]) ∧ Ext w w' ∧ KBytesA w' l x ev:=by
 have KO:=veil (zdv v l w hF (by omega))
 cases ho : ordK l with
 | false =>
  rw [ho] at KO
  have HM:=veil (show mayK l = false by rw [zfa,ho]; rfl)
  clear hF hT hL ho
  go_enter Tryz.func12,Tryz.ntmps12
  go_wp2_with (go_at_call 23; refine KO.out.mono ?_; rintro e w1 ⟨rfl,hE1⟩)
  go_ret2
  exact ⟨_,_,rfl,hE1,.inl ⟨HM.out,⟨none,0,rfl⟩,rfl⟩⟩
 | true =>
  rw [ho] at KO
  obtain ⟨AL,c,rfl,hc,hx⟩:=hF
  obtain ⟨n,hn⟩ : ∃ n,n = l.length:=⟨_,rfl⟩
  rw [← hn] at hx hc hL KO ⊢
  have HR:=veil (And.intro hn (And.intro ho hT))
  have HX:=veil hx
  clear hx hn ho hT
  have hmk:=hmk_fd n (by omega)
  go_enter Tryz.func12,Tryz.ntmps12
  go_upto_region 3 with (go_at_call 23; refine KO.out.mono ?_; rintro e w1 ⟨rfl,hE1⟩)
  have hp0:=pre_new w1 (madeCells #[.int .i64 0,.slice none 0 0] (n * 2)) 64 (n * 2) (size_madeCells _ _).symm
  have hE0:=Ext.alloc w1 (.cells (madeCells #[.int .i64 0,.slice none 0 0] (n * 2)) 64)
  have H0:=veil (And.intro hp0 hE0)
  have HE1:=veil hE1
  clear hp0 hE0 hE1 KO
  go_upto_region 4 with (fail)
  obtain ⟨g,hg⟩ : ∃ g,g = w1.heap.size:=⟨_,rfl⟩
  generalize w1.alloc (.cells (madeCells #[.int .i64 0,.slice none 0 0] (n * 2)) 64) = w2 at *
  rw [← hg] at H0 ⊢
  have HG:=veil (show w1.heap.size ≤ g by omega)
  clear hg hmk
  go_wp2
  go_loopw [5,6,7,8,18] (fun _ _ _ _ v wr => ∃ i : Nat,i ≤ n ∧ v = .int .i64 (i : Int) ∧ (∃ f,Pre wr g 64 (n * 2) f ∧ LaidK g wr l f i) ∧ (∀ j,j < i → offK (l.getD j ky0) = false) ∧ Ext w1 wr)
   (fun _ _ _ _ v _ => n - (intOf v).toNat)
  case atStart => exact ⟨0,by omega,rfl,⟨_,H0.out.1,fun j hj => by omega⟩,fun j hj => by omega,H0.out.2⟩
  case round =>
   obtain ⟨i,hi,rfl,⟨f,hp,hl⟩,hall,hE⟩:=hrel
   by_cases hlt : i < n
   ·
    have hd1 : decide ((i : Int) < (n : Int)) = true:=by simp; omega
    have hii : (i : Int) < (n : Int):=by omega
    obtain ⟨b,o,hAL,hb,hcl⟩:=HX.out.resolve_left (by omega)
    have hil : i < l.length:=by have:=HR.out.1; omega
    have HRG:=veil (zbd (HE1.out.trans hE) hb (hcl i _ (zcn hil)))
    have hkt:=HR.out.2.2 (l.getD i ky0) (List.mem_of_getElem? (zcn hil))
    have heach:=ordK_each HR.out.2.1 hil
    obtain ⟨k,hk⟩ : ∃ k,k = l.getD i ky0:=⟨_,rfl⟩
    rw [← hk] at HRG hkt heach
    have HL:=veil (And.intro hp (And.intro hl (And.intro hall (And.intro hE hk))))
    have HKT:=veil (And.intro hkt heach)
    subst hAL
    clear hp hl hall hE hcl hb hk hkt heach
    go_upto_region 7 with (first
     | ((with_reducible refine zah 22 ?_); refine wpList_load_mid rfl 55 _ rfl b _ rfl (kyC k) _ HRG.out Tryz.underlying55 rfl (iKy k) ?_)
     | ((with_reducible refine zay ?_); refine wpList_store_row rfl 55 _ _ rfl wr.heap.size (kyC k).toArray rfl rfl 55 _ (zag wr _) (iKyA k) (zfd k) (zfw k) ?_; rw [World.setRow_alloc_new]))
    have hgb:=zag wr (.cells (kyC k).toArray 55)
    have hEW:=Ext.alloc wr (.cells (kyC k).toArray 55)
    generalize wr.alloc (.cells (kyC k).toArray 55) = W at *
    generalize wr.heap.size = gf at *
    have HW:=veil (And.intro hgb hEW)
    clear hgb hEW HRG
    cases hoff : offK k with
    | true =>
     have KB:=veil (fun W => bytesOf_off k HKT.out.1.1 HKT.out.1.2 hoff W)
     have k1 : ∀ w,(binOp .neq 35 (.iface 39 (.int .i64 1)) .nilIface).run Tryz.prog w = .ok (.bool true) w:=fun w => by kernel_rfl
     have HM:=veil (show mayK l = false by
      cases hm : mayK l with
      | false => rfl
      | true =>
       rw [zfa,Bool.and_eq_true,Bool.not_eq_true'] at hm
       have:=any_off hm.2 hil
       rw [← HL.out.2.2.2.2,hoff] at this
       cases this)
     clear hoff hil
     go_wp2_with (first
      | ((with_reducible refine zah 24 ?_); refine wpList_load_row rfl 55 _ rfl gf rfl 55 (kyC k).toArray (0,0) _ HW.out.1 Tryz.underlying55 rfl (iKyA k) ?_)
      | (go_at_call 26; refine (KB.out _).mono ?_; rintro e w3 ⟨rfl,hE3⟩))
     go_ret2
     exact ⟨_,_,rfl,HE1.out.trans (HL.out.2.2.2.1.trans (HW.out.2.trans hE3)),.inl ⟨HM.out,⟨none,0,rfl⟩,rfl⟩⟩
    | false =>
     have KB:=veil (fun W => bytesOf_on k hoff ⟨by have:=HKT.out.2; omega,by have:=HKT.out.2; omega⟩ ⟨by have:=HKT.out.2; omega,by have:=HKT.out.2; omega⟩ ⟨by have:=HKT.out.2; omega,by have:=HKT.out.2; omega⟩ W)
     have k3 : ∀ w,(binOp .neq 35 .nilIface .nilIface).run Tryz.prog w = .ok (.bool false) w:=fun w => by kernel_rfl
     have hnext : ∀ j,j < i + 1 → offK (l.getD j ky0) = false:=fun j hj => by
      by_cases e : j = i
      ·
       subst e
       rw [← HL.out.2.2.2.2]
       exact hoff
      ·
       exact HL.out.2.2.1 j (by omega)
     have HN:=veil hnext
     clear hoff hil hnext
     go_upto_region 10 with (first
      | ((with_reducible refine zah 24 ?_); refine wpList_load_row rfl 55 _ rfl gf rfl 55 (kyC k).toArray (0,0) _ HW.out.1 Tryz.underlying55 rfl (iKyA k) ?_)
      | (go_at_call 26; refine (KB.out _).mono ?_; rintro e w3 ⟨A3,c3,rfl,hc3,hB3,hF3,hE3⟩))
     have hE13:=HW.out.2.trans hE3
     have hlt0:=HL.out.1.lt
     have hp3:=HL.out.1.below hE13 hlt0
     have hne : ∀ b o,A3 = some ⟨b,o,none⟩ → b ≠ g:=fun b o e => by
      have hW2:=Below.size HW.out.2
      rcases hF3 with h | h
      ·
       rw [zdn] at h; omega
      ·
       have:=h b o e; omega
     have hB4 : Bs w3 A3 (kyB (l.getD i ky0)):=by rw [← HL.out.2.2.2.2]; exact hB3
     have HS:=veil (And.intro (LaidK.step (HL.out.2.1.ext hE13) hc3 hB4 hne) (And.intro hp3 (HL.out.2.2.2.1.trans hE13)))
     have HT:=veil (hp3.there (i:=i * 2) (by omega))
     clear hE13 hlt0 hp3 hne hB4 hB3 hF3 hE3 hc3 KB k3
     go_wp2_with ((with_reducible refine zay ?_); refine wpList_store_mid rfl 64 _ _ rfl g (i * 2) _ rfl rfl HT.out infoF2 one_fd ?_)
     go_roundw
     case rel => exact ⟨i + 1,by omega,by go_num,⟨_,HS.out.2.1.two (i * 2) _ _,HS.out.1⟩,HN.out,zai (zai HS.out.2.2 HG.out _) HG.out _⟩
     case measure => simp [intOf]; omega
   ·
    obtain rfl : i = n:=by omega
    have hd1 : decide ((i : Int) < (i : Int)) = false:=by simp
    have h32:=(of_decide_eq_true HR.out.2.1).1
    have KP:=veil (code8.put _ _ wr (hl.fl HR.out.1 hp) (by rw [zbn]; omega))
    have HM:=veil (show mayK l = true by
     rw [zfa,HR.out.2.1,Bool.true_and,Bool.not_eq_true',List.any_eq_false]
     intro k hk
     obtain ⟨j,hj,rfl⟩:=List.mem_iff_getElem.1 hk
     have:=hall j (by have:=HR.out.1; omega)
     rw [List.getD_eq_getElem?_getD,List.getElem?_eq_getElem hj] at this
     simpa using this)
    have HE:=veil (And.intro hE h32)
    clear hl hp hE hall h32
    go_wp2_with (go_at_call 27; refine KP.out.mono ?_; rintro e w3 ⟨x,ev,rfl,hE3,hA⟩)
    go_ret2
    refine ⟨_,_,rfl,HE1.out.trans (HE.out.1.trans hE3),?_⟩
    rcases hA with ⟨h,_⟩ | ⟨_,rfl,A,c,rfl,hc,hB⟩
    ·
     rw [kyFs_may (by have:=HE.out.2; omega)] at h
     cases h
    ·
     exact .inr ⟨HM.out,⟨A,c,rfl,hc,hB⟩,rfl⟩
theorem pparse_bs {A : Option Addr} {c : Nat} {bs : List Nat} (hl : bs.length = 64) (hc : 64 ≤ c) (w : World) (hS : Bs w A bs) :
  Calls Tryz.prog 57 #[.slice A 64 c] w fun e w' => ∃ X Y ev,e = .returned (.tuple #[.agg (qc X Y false),ev]) ∧ Ext w w' ∧ ((onB (sigR bs) (sigS bs) false = true ∧ X = sigR bs ∧ Y = sigS bs ∧ ev = .nilIface) ∨ (onB (sigR bs) (sigS bs) false = false ∧ ev = .iface 39 (.int .i64 2))):=by
 obtain ⟨b,o,rfl,hb,hcl⟩:=hS.2.resolve_left (by omega)
 cases h : onB (sigR bs) (sigS bs) false with
 | true =>
  have h2:=h
  rw [← zgb hS.1 hl,← zga hS.1 hl] at h2
  refine (parse_on b o c (fun j => bs.getD j 0) hS.1.getD hc w hb (fun j hj => hcl j (by omega)) h2).mono fun e w' ⟨he,hE⟩ => ⟨_,_,_,he,hE,.inl ⟨rfl,zgb hS.1 hl,zga hS.1 hl,rfl⟩⟩
 | false =>
  have h2:=h
  rw [← zgb hS.1 hl,← zga hS.1 hl] at h2
  refine (parse_off b o c (fun j => bs.getD j 0) hS.1.getD hc w hb (fun j hj => hcl j (by omega)) h2).mono fun e w' ⟨he,hE⟩ => ⟨_,_,_,he,hE,.inr ⟨rfl,rfl⟩⟩
def KZ : Array Value:=#[.int .i64 0,vI vU 0,vI vU 0,vI vU 0,vI vU 0,vI vU 0,vI vU 0,vI vU 0,vI vU 0,.bool false,.int .i64 0,.int .i64 0]
theorem iKZ : (Tryz.prog.info? 55).map (·.size) = some KZ.size:=by kernel_rfl
theorem kz_one : KZ.all (·.oneCell') = true:=by simp [KZ,Value.oneCell']
theorem kz_size (k : Ky) : KZ.size = (kyC k).toArray.size:=zfd k
def KOneA (bs : List Nat) (C : Array Value) (ev : Value) : Prop:=(keyOf bs = none ∧ C = KZ ∧ ev = .iface 39 (.int .i64 2)) ∨ (∃ k,keyOf bs = some k ∧ k.x < top ∧ k.y < top ∧ C = (kyC k).toArray ∧ ev = .nilIface)
theorem keyOf_no {D : List Nat} (h : ¬ (D.length = 88 ∧ onB (sigR ((D.drop 8).take 64)) (sigS ((D.drop 8).take 64)) false = true ∧ 0 ≤ ofB (D.take 8) ∧ 0 ≤ ofB ((D.drop 72).take 8) ∧ 0 ≤ ofB (D.drop 80))) : keyOf D = none:=by
 unfold keyOf
 rw [if_neg h]
theorem ofV {A : Option Addr} {m c : Nat} {bs : List Nat} {N : Int} (hN : N = ofB bs) (hm : m = bs.length) (hmc : m ≤ c) {w : World} (hS : Bs w A bs) (h : 0 ≤ N) : Calls Tryz.prog 56 #[.slice A m c] w fun e w' => e = .returned (.tuple #[.int .i64 N,.nilIface]) ∧ Ext w w':=by
 subst hN
 exact of_yes hm hmc hS h
theorem ofE {A : Option Addr} {m c : Nat} {bs : List Nat} {N : Int} (hN : N = ofB bs) (hm : m = bs.length) (hmc : m ≤ c) {w : World} (hS : Bs w A bs) (h : ¬ 0 ≤ N) : Calls Tryz.prog 56 #[.slice A m c] w fun e w' => e = .returned (.tuple #[.int .i64 0,.iface 39 (.int .i64 2)]) ∧ Ext w w':=by
 subst hN
 exact of_no hm hmc hS (by omega)
theorem parseOne_calls (A : Option Addr) (m c : Nat) (bs : List Nat) (hm : m = bs.length) (hmc : m ≤ c) (w : World) (hS : Bs w A bs) :
  Calls Tryz.prog 32 #[.slice A m c] w fun e w' => ∃ C ev,e = .returned (.tuple #[.agg C,ev]) ∧ Ext w w' ∧ KOneA bs C ev:=by
 have k2:=neNil2
 have k3:=neNilN
 have HS:=veil (And.intro hm (And.intro hmc hS))
 have hnone : ¬ (bs.length = 88 ∧ onB (sigR ((bs.drop 8).take 64)) (sigS ((bs.drop 8).take 64)) false = true ∧ 0 ≤ ofB (bs.take 8) ∧ 0 ≤ ofB ((bs.drop 72).take 8) ∧ 0 ≤ ofB (bs.drop 80)) → keyOf bs = none:=keyOf_no
 have HNO:=veil hnone
 clear hm hS hnone
 go_enter Tryz.func32,Tryz.ntmps32
 go_upto_region 1 with (fail)
 obtain ⟨g,hg⟩ : ∃ g,g = w.heap.size:=⟨_,rfl⟩
 obtain ⟨w0,hw0⟩ : ∃ W,W = w.alloc (.cells KZ 55):=⟨_,rfl⟩
 have h0:=zag w (.cells KZ 55)
 have hE0:=Ext.alloc w (.cells KZ 55)
 rw [← hw0] at hE0
 rw [← hw0,← hg] at h0
 have H0:=veil (And.intro hE0 (And.intro h0 (show w.heap.size ≤ g by omega)))
 unfold KZ at hw0
 rw [← hw0,← hg]
 clear hw0 hg h0 hE0
 by_cases h88 : m = 88
 ·
  subst h88
  obtain ⟨D1,hD1⟩ : ∃ x,x = (bs.drop 8).take 64:=⟨_,rfl⟩
  obtain ⟨D2,hD2⟩ : ∃ x,x = bs.take 8:=⟨_,rfl⟩
  obtain ⟨D3,hD3⟩ : ∃ x,x = (bs.drop 72).take 8:=⟨_,rfl⟩
  obtain ⟨D4,hD4⟩ : ∃ x,x = bs.drop 80:=⟨_,rfl⟩
  have hl:=HS.out.1.symm
  have l1 : D1.length = 64:=by rw [hD1,List.length_take,List.length_drop,hl]; rfl
  have l2 : D2.length = 8:=by rw [hD2,List.length_take,hl]; rfl
  have l3 : D3.length = 8:=by rw [hD3,List.length_take,List.length_drop,hl]; rfl
  have l4 : D4.length = 8:=by rw [hD4,List.length_drop,hl]
  have hks : onB (sigR D1) (sigS D1) false = true → 0 ≤ ofB D2 → 0 ≤ ofB D3 → 0 ≤ ofB D4 → keyOf bs = some ⟨ofB D2,sigR D1,sigS D1,false,ofB D3,ofB D4⟩:=fun p1 p2 p3 p4 => by
   rw [hD1] at p1
   rw [hD2] at p2
   rw [hD3] at p3
   rw [hD4] at p4
   unfold keyOf
   rw [if_pos ⟨hl,p1,p2,p3,p4⟩,hD1,hD2,hD3,hD4]
  have hk8 : 8 ≤ c:=by omega
  have hk72 : 8 + 64 ≤ c:=by omega
  have hk80 : 72 + 8 ≤ c:=by omega
  rw [← hD1,← hD2,← hD3,← hD4] at HNO
  have HB2:=veil (fun W (hW : Ext w W) => (show Bs W A D2 by rw [hD2]; exact bs_take (HS.out.2.2.ext hW) 8))
  have HB1:=veil (fun W (hW : Ext w W) => (show Bs W (cutA A 8 c) D1 by rw [hD1]; exact (HS.out.2.2.ext hW).cut 8 (n:=64) (by rw [hl]; decide) (by rw [hl]; exact hmc)))
  have HB3:=veil (fun W (hW : Ext w W) => (show Bs W (cutA A 72 c) D3 by rw [hD3]; exact (HS.out.2.2.ext hW).cut 72 (n:=8) (by rw [hl]; decide) (by rw [hl]; exact hmc)))
  have HB4:=veil (fun W (hW : Ext w W) => (show Bs W (cutA A 80 c) D4 by rw [hD4]; exact bs_drop (HS.out.2.2.ext hW) 80 (by rw [hl]; decide) (by rw [hl]; exact hmc)))
  have HK:=veil hks
  have HLN:=veil (And.intro l1 (And.intro l2.symm (And.intro l3.symm l4.symm)))
  clear hD1 hD2 hD3 hD4 l1 l2 l3 l4 hks hl
  obtain ⟨N2,hN2⟩ : ∃ x,x = ofB D2:=⟨_,rfl⟩
  obtain ⟨N3,hN3⟩ : ∃ x,x = ofB D3:=⟨_,rfl⟩
  obtain ⟨N4,hN4⟩ : ∃ x,x = ofB D4:=⟨_,rfl⟩
  rw [← hN2,← hN3,← hN4] at HNO HK
  have HN:=veil (And.intro hN2 (And.intro hN3 hN4))
  clear hN2 hN3 hN4
  by_cases q2 : 0 ≤ N2
  ·
   have K2:=veil (fun W (hW : Ext w W) => ofV HN.out.1 HLN.out.2.1 hk8 (HB2.out W hW) q2)
   go_upto_region 6 with (first
    | ((with_reducible refine zah 16 ?_); refine zan (.slice A 8 c) rfl (zef rfl rfl rfl (cut_to_b A _ c 8 hk8 _ rfl)) ?_)
    | (go_at_call 56; refine (K2.out _ H0.out.1).mono ?_; rintro e w1 ⟨rfl,hE1⟩))
   have KP:=veil (pparse_bs HLN.out.1 (show 64 ≤ c - 8 by omega) w1 (HB1.out w1 (H0.out.1.trans hE1)))
   have H1:=veil (And.intro (H0.out.1.trans hE1) (hE1.block H0.out.2.1))
   clear hE1 K2
   go_upto_region 7 with (first
    | ((with_reducible refine zah 26 ?_); refine zan (.slice (cutA A 8 c) 64 (c - 8)) rfl (zbw rfl rfl rfl rfl (zek A _ c 8 64 hk72 _ rfl rfl)) ?_)
    | (go_at_call 57; refine KP.out.mono ?_; rintro e w2 ⟨X,Y,ev,rfl,hE2,hon⟩)
    | ((with_reducible refine zah 6 ?_); refine zcu (zs:=PZ) _ _ rfl rfl rfl rfl rfl rfl (fun _ => rfl) (fun _ => rfl) (fun _ => rfl) (iT X Y false) (qO_size (some ⟨0,X,Y,false,0,0⟩)) (zex X Y false) ?_; intro g6 W6 hg6 h6 hE6))
   have hE26:=hE2.trans hE6
   have H2:=veil (And.intro (H1.out.1.trans hE26) (And.intro (hE26.block H1.out.2) h6))
   clear hE2 hE6 hE26 h6 KP H1
   rcases hon with ⟨hon,rfl,rfl,rfl⟩ | ⟨hon,rfl⟩
   ·
    obtain ⟨X,hX⟩ : ∃ x,x = sigR D1:=⟨_,rfl⟩
    obtain ⟨Y,hY⟩ : ∃ x,x = sigS D1:=⟨_,rfl⟩
    rw [← hX,← hY] at hon HK H2 HNO
    have HON:=veil hon
    clear hX hY hon
    by_cases q3 : 0 ≤ N3
    ·
     have K3:=veil (fun W (hW : Ext w W) => ofV HN.out.2.1 HLN.out.2.2.1 (show 8 ≤ c - 72 by omega) (HB3.out W hW) q3)
     go_upto_region 12 with (first
      | ((with_reducible refine zah 36 ?_); refine zan (.slice (cutA A 72 c) 8 (c - 72)) rfl (zbw rfl rfl rfl rfl (zek A _ c 72 8 hk80 _ rfl rfl)) ?_)
      | (go_at_call 56; refine (K3.out _ H2.out.1).mono ?_; rintro e w3 ⟨rfl,hE3⟩))
     have H3:=veil (And.intro (H2.out.1.trans hE3) (And.intro (hE3.block H2.out.2.1) (hE3.block H2.out.2.2)))
     clear hE3 K3 H2
     by_cases q4 : 0 ≤ N4
     ·
      have K4:=veil (fun W (hW : Ext w W) => ofV HN.out.2.2 HLN.out.2.2.2 (show 8 ≤ c - 80 by omega) (HB4.out W hW) q4)
      go_upto_region 15 with (first
       | ((with_reducible refine zah 46 ?_); refine zan (.slice (cutA A 80 c) 8 (c - 80)) rfl (zck rfl rfl rfl (zfx A 88 c 80 (by decide) _ rfl)) ?_)
       | (go_at_call 56; refine (K4.out _ H3.out.1).mono ?_; rintro e w4 ⟨rfl,hE4⟩))
      have H4:=veil (And.intro (H3.out.1.trans hE4) (And.intro (hE4.block H3.out.2.1) (hE4.block H3.out.2.2)))
      clear hE4 K4 H3
      have hkey:=HK.out HON.out q2 q3 q4
      have HKY:=veil (And.intro hkey (onB_top HON.out))
      have HBL:=veil (fun W => bldKy ⟨N2,X,Y,false,N3,N4⟩ W)
      clear hkey HK HNO
      obtain ⟨ky,hky⟩ : ∃ k : Ky,k = ⟨N2,X,Y,false,N3,N4⟩:=⟨_,rfl⟩
      have HKK:=veil hky
      clear hky
      refine wp_region_list ?_
      refine zan (.int .i64 N2) rfl rfl ?_
      simp only [aP,lA,lZ,lS]
      refine wpList_load_row rfl 29 _ rfl g6 rfl 29 (qc X Y false) (0,0) _ H4.out.2.2 Tryz.underlying29 rfl (iT _ _ _) ?_
      simp only [aP,lA,lZ,lS]
      refine zan (.int .i64 N3) rfl rfl ?_
      simp only [aP,lA,lZ,lS]
      refine zan (.int .i64 N4) rfl rfl ?_
      simp only [aP,lA,lZ,lS]
      refine zan (.agg (kyC ky).toArray) rfl (zdr (vs:=[(0,.int .i64 N2),(1,.agg (qc X Y false)),(2,.int .i64 N3),(3,.int .i64 N4)]) rfl rfl (by rw [HKK.out]; exact HBL.out _)) ?_
      simp only [aP,lA,lZ,lS]
      refine wpList_store_row rfl 55 _ _ rfl g (kyC ky).toArray rfl rfl 55 _ H4.out.2.1 (iKyA ky) (kz_size ky) (zfw ky) ?_
      simp only [Act.put]
      refine zan .nilIface rfl rfl ?_
      simp only [aP,lA,lZ,lS]
      refine wpList_nil ?_
      go_wp2
      refine bodyPost_ret (zba rfl _ _ g 55 (kyC ky).toArray (0,0) _ rfl (setRow_heap w4 g _ (kyC ky).toArray 55 (0,0) H4.out.2.1) Tryz.underlying55 rfl (iKyA ky)) rfl ⟨_,_,rfl,zav H4.out.1 H0.out.2.2 _,.inr ⟨_,HKY.out.1,HKY.out.2.1,HKY.out.2.2,by rw [HKK.out],rfl⟩⟩
     ·
      have K4:=veil (fun W (hW : Ext w W) => ofE HN.out.2.2 HLN.out.2.2.2 (show 8 ≤ c - 80 by omega) (HB4.out W hW) q4)
      have hr:=HNO.out (fun h => q4 h.2.2.2.2)
      go_upto_region 14 with (first
       | ((with_reducible refine zah 46 ?_); refine zan (.slice (cutA A 80 c) 8 (c - 80)) rfl (zck rfl rfl rfl (zfx A 88 c 80 (by decide) _ rfl)) ?_)
       | (go_at_call 56; refine (K4.out _ H3.out.1).mono ?_; rintro e w4 ⟨rfl,hE4⟩))
      have H4:=veil (And.intro (H3.out.1.trans hE4) (hE4.block H3.out.2.1))
      clear hE4 K4 H3
      go_wp2_with ((with_reducible refine zay ?_); refine wpList_store_row rfl 55 _ _ rfl g KZ rfl rfl 55 _ H4.out.2 iKZ rfl kz_one ?_)
      refine bodyPost_ret (zba rfl _ _ g 55 KZ (0,0) _ rfl (setRow_heap w4 g _ KZ 55 (0,0) H4.out.2) Tryz.underlying55 rfl iKZ) rfl ⟨_,_,rfl,zav H4.out.1 H0.out.2.2 _,.inl ⟨hr,rfl,rfl⟩⟩
    ·
     have K3:=veil (fun W (hW : Ext w W) => ofE HN.out.2.1 HLN.out.2.2.1 (show 8 ≤ c - 72 by omega) (HB3.out W hW) q3)
     have hr:=HNO.out (fun h => q3 h.2.2.2.1)
     go_upto_region 11 with (first
      | ((with_reducible refine zah 36 ?_); refine zan (.slice (cutA A 72 c) 8 (c - 72)) rfl (zbw rfl rfl rfl rfl (zek A _ c 72 8 hk80 _ rfl rfl)) ?_)
      | (go_at_call 56; refine (K3.out _ H2.out.1).mono ?_; rintro e w3 ⟨rfl,hE3⟩))
     have H3:=veil (And.intro (H2.out.1.trans hE3) (hE3.block H2.out.2.1))
     clear hE3 K3 H2
     go_wp2_with ((with_reducible refine zay ?_); refine wpList_store_row rfl 55 _ _ rfl g KZ rfl rfl 55 _ H3.out.2 iKZ rfl kz_one ?_)
     refine bodyPost_ret (zba rfl _ _ g 55 KZ (0,0) _ rfl (setRow_heap w3 g _ KZ 55 (0,0) H3.out.2) Tryz.underlying55 rfl iKZ) rfl ⟨_,_,rfl,zav H3.out.1 H0.out.2.2 _,.inl ⟨hr,rfl,rfl⟩⟩
   ·
    have hr:=HNO.out (fun h => by rw [hon] at h; exact absurd h.2.1 (by decide))
    go_wp2_with ((with_reducible refine zay ?_); refine wpList_store_row rfl 55 _ _ rfl g KZ rfl rfl 55 _ H2.out.2.1 iKZ rfl kz_one ?_)
    refine bodyPost_ret (zba rfl _ _ g 55 KZ (0,0) _ rfl (setRow_heap W6 g _ KZ 55 (0,0) H2.out.2.1) Tryz.underlying55 rfl iKZ) rfl ⟨_,_,rfl,zav H2.out.1 H0.out.2.2 _,.inl ⟨hr,rfl,rfl⟩⟩
  ·
   have K2:=veil (fun W (hW : Ext w W) => ofE HN.out.1 HLN.out.2.1 hk8 (HB2.out W hW) q2)
   have hr:=HNO.out (fun h => q2 h.2.2.1)
   go_upto_region 5 with (first
    | ((with_reducible refine zah 16 ?_); refine zan (.slice A 8 c) rfl (zef rfl rfl rfl (cut_to_b A _ c 8 hk8 _ rfl)) ?_)
    | (go_at_call 56; refine (K2.out _ H0.out.1).mono ?_; rintro e w1 ⟨rfl,hE1⟩))
   have H1:=veil (And.intro (H0.out.1.trans hE1) (hE1.block H0.out.2.1))
   clear hE1 K2
   go_wp2_with ((with_reducible refine zay ?_); refine wpList_store_row rfl 55 _ _ rfl g KZ rfl rfl 55 _ H1.out.2 iKZ rfl kz_one ?_)
   refine bodyPost_ret (zba rfl _ _ g 55 KZ (0,0) _ rfl (setRow_heap w1 g _ KZ 55 (0,0) H1.out.2) Tryz.underlying55 rfl iKZ) rfl ⟨_,_,rfl,zav H1.out.1 H0.out.2.2 _,.inl ⟨hr,rfl,rfl⟩⟩
 ·
  have hr:=HNO.out (fun h => h88 (HS.out.1.trans h.1))
  have f1 : ((m : Int) == 88) = false:=by simp; omega
  have f2 : ¬ ((m : Int) = 88):=by omega
  clear h88
  go_wp2_with ((with_reducible refine zay ?_); refine wpList_store_row rfl 55 _ _ rfl g KZ rfl rfl 55 _ H0.out.2.1 iKZ rfl kz_one ?_)
  refine bodyPost_ret (zba rfl _ _ g 55 KZ (0,0) _ rfl (setRow_heap w0 g _ KZ 55 (0,0) H0.out.2.1) Tryz.underlying55 rfl iKZ) rfl ⟨_,_,rfl,zav H0.out.1 H0.out.2.2 _,.inl ⟨hr,rfl,rfl⟩⟩
end Go.Proofs.YthlbemnbmbmjhaaGreatDoor
