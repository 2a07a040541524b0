/-
  Of UD UE UG UI KJ.
-/
import Derived.Lib.AppendZeros
import Derived.Test.YthlbemnbmbmjhaaGreatDoorRows
import Derived.WalkKit
import Derived.WalkSpells
import Derived.WalkLawsBesides
import Derived.Deep.LoopGhost
import Derived.Deep.RegionWith
import Derived.Deep.QuietTactic
import Derived.BigQuiet
import Derived.BigRegion
import Derived.Deep.AppendLies
import Derived.Deep.RegionHeld3
import Derived.Deep.MidRow
import Derived.Laws.BytesString
import Derived.Deep.Cut
import Derived.Deep.CutRange
import Derived.Laws.OwnMore
import Derived.Test.YthlbemnbmbmjhaaGreatDoorZF6
import Derived.Test.YthlbemnbmbmjhaaGreatDoorZF11
import Derived.Test.YthlbemnbmbmjhaaGreatDoorZF1
import Derived.Test.YthlbemnbmbmjhaaGreatDoorZF4
import Derived.Test.YthlbemnbmbmjhaaGreatDoorZF5
import Derived.Test.YthlbemnbmbmjhaaGreatDoorZF2
import Derived.Test.YthlbemnbmbmjhaaGreatDoorZF10
import Derived.Test.YthlbemnbmbmjhaaGreatDoorZF8
import Derived.Test.YthlbemnbmbmjhaaGreatDoorZF3
set_option maxRecDepth 1000000
set_option maxHeartbeats 20000000
namespace Go.Proofs.YthlbemnbmbmjhaaGreatDoor
open Go.RowKit
open Go.Value renaming int → vI
open Go.IntKind renaming u64 → vU
open Go.Act renaming put → aP
open List renaming setIfInBounds_toArray → lA, set_cons_zero → lZ, set_cons_succ → lS
theorem index_calls (v : Value) (l : List Ky) (w : World) (hF : Ks w v l) (hT : TopK l) (hL : l.length ≤ 1000000000) :
  Calls Tryz.prog 46 #[v,.func (.func 25) #[] #[]] w fun e w' => ∃ z : Int,e = .returned (.int .i64 z) ∧ decide (0 ≤ z) = l.any offK ∧ Ext w w':=by
 obtain ⟨AL,c,rfl,hc,hx⟩:=hF
 obtain ⟨n,hn⟩ : ∃ n,n = l.length:=⟨_,rfl⟩
 rw [← hn] at hx hc hL ⊢
 obtain ⟨R,hR⟩ : ∃ R,R = l.any offK:=⟨_,rfl⟩
 rw [← hR]
 have HR:=veil (And.intro hR (And.intro hn hT))
 have HX:=veil hx
 clear hR hx hn hT
 go_enter Tryz.func46,Tryz.ntmps46
 go_wp2
 go_loopw [5,8] (fun _ v wr => ∃ i : Nat,i ≤ n ∧ v = .int .i64 (i : Int) ∧ (∀ j,j < i → offK (l.getD j ky0) = false) ∧ Ext w wr)
  (fun _ v _ => n - (intOf v).toNat)
 case atStart => exact ⟨0,by omega,rfl,fun j hj => by omega,Ext.refl _⟩
 case round =>
  obtain ⟨i,hi,rfl,hall,hE⟩:=hrel
  by_cases hlt : i < n
  ·
   have hd1 : decide ((i : Int) < (n : Int)) = true:=by simp; omega
   have hii : (i : Int) < (n : Int):=by omega
   obtain ⟨b,o,hAL,hb,hcl⟩:=HX.out.resolve_left (by omega)
   have hil : i < l.length:=by have:=HR.out.2.1; omega
   have HRG:=veil (zbf hE hb (hcl i _ (zdy hil)))
   have hkt:=HR.out.2.2 (l.getD i ky0) (List.mem_of_getElem? (zdy hil))
   have hmem : l.getD i ky0 ∈ l:=List.mem_of_getElem? (zdy hil)
   obtain ⟨k,hk⟩ : ∃ k,k = l.getD i ky0:=⟨_,rfl⟩
   rw [← hk] at HRG hkt hmem
   have KO:=veil (fun W => isOff_calls k hkt.1 hkt.2 W)
   cases ho : offK k with
   | true =>
    rw [ho] at KO
    have e : R = true:=by
     rw [HR.out.1,List.any_eq_true]
     exact ⟨k,hmem,ho⟩
    subst e
    clear hmem hkt ho hk hil hcl hall
    subst hAL
    go_wp2_with (first
     | ((with_reducible refine zav 15 ?_); refine wpList_load_mid rfl 55 _ rfl b _ rfl (kyC k) _ HRG.out Tryz.underlying55 rfl (iKy k) ?_)
     | (go_at_call 25; refine (KO.out _).mono ?_; rintro e w1 ⟨rfl,hE1⟩))
    go_ret
    exact ⟨(i : Int),rfl,by simp,hE.trans hE1⟩
   | false =>
    rw [ho] at KO
    have hnext : ∀ j,j < i + 1 → offK (l.getD j ky0) = false:=fun j hj => by
     by_cases e : j = i
     ·
      subst e
      rw [← hk]
      exact ho
     ·
      exact hall j (by omega)
    have HN:=veil hnext
    clear hmem hkt ho hk hil hcl hall hnext
    subst hAL
    go_wp2_with (first
     | ((with_reducible refine zav 15 ?_); refine wpList_load_mid rfl 55 _ rfl b _ rfl (kyC k) _ HRG.out Tryz.underlying55 rfl (iKy k) ?_)
     | (go_at_call 25; refine (KO.out _).mono ?_; rintro e w1 ⟨rfl,hE1⟩))
    go_roundw
    case rel => exact ⟨i + 1,by omega,by go_num,HN.out,hE.trans hE1⟩
    case measure => simp [intOf]; omega
  ·
   obtain rfl : i = n:=by omega
   have hd1 : decide ((i : Int) < (i : Int)) = false:=by simp
   have e : R = false:=by
    rw [HR.out.1,List.any_eq_false]
    intro k hk
    obtain ⟨j,hj,rfl⟩:=List.mem_iff_getElem.1 hk
    have:=hall j (by have:=HR.out.2.1; omega)
    rw [List.getD_eq_getElem?_getD,List.getElem?_eq_getElem hj] at this
    simpa using this
   subst e
   clear hall
   go_wp2
   go_ret
   exact ⟨-1,rfl,by decide,hE⟩
theorem contains_calls (v : Value) (l : List Ky) (w : World) (hF : Ks w v l) (hT : TopK l) (hL : l.length ≤ 1000000000) :
  Calls Tryz.prog 24 #[v,.func (.func 25) #[] #[]] w fun e w' => e = .returned (.bool (l.any offK)) ∧ Ext w w':=by
 have KI:=veil (index_calls v l w hF hT hL)
 obtain ⟨R,hR⟩ : ∃ R,R = l.any offK:=⟨_,rfl⟩
 rw [← hR] at KI ⊢
 clear hF hT hL hR
 go_enter Tryz.func24,Tryz.ntmps24
 go_wp2_with (go_at_call 46; refine KI.out.mono ?_; rintro e w1 ⟨z,rfl,hz,hE1⟩)
 go_ret
 exact ⟨by first | rfl | rw [hz],hE1⟩
theorem zcx (v : Value) (l : List Ky) (w : World) (hF : Ks w v l) (hT : TopK l) (hL : l.length ≤ 1000000000) :
  Calls Tryz.prog 10 #[v] w fun e w' => e = .returned (.bool (mayK l)) ∧ Ext w w':=by
 have KO:=veil (fun W (hW : Ks W v l) => inOrder_calls v l W hW hL)
 have KC:=veil (fun W (hW : Ks W v l) => contains_calls v l W hW hT hL)
 rw [mayK_ord]
 have HV:=veil hF
 clear hF hT hL
 generalize ordK l = r at *
 generalize l.any offK = s at *
 cases r with
 | false =>
  go_enter Tryz.func10,Tryz.ntmps10
  go_wp2_with (go_at_call 23; refine (KO.out _ HV.out).mono ?_; rintro e w1 ⟨rfl,hE1⟩)
  go_ret
  exact ⟨rfl,hE1⟩
 | true =>
  cases s with
  | false =>
   go_enter Tryz.func10,Tryz.ntmps10
   go_wp2_with (first
    | (go_at_call 23; refine (KO.out _ HV.out).mono ?_; rintro e w1 ⟨rfl,hE1⟩)
    | (go_at_call 24; refine (KC.out _ (HV.out.ext hE1)).mono ?_; rintro e w2 ⟨rfl,hE2⟩))
   go_ret
   exact ⟨rfl,hE1.trans hE2⟩
  | true =>
   go_enter Tryz.func10,Tryz.ntmps10
   go_wp2_with (first
    | (go_at_call 23; refine (KO.out _ HV.out).mono ?_; rintro e w1 ⟨rfl,hE1⟩)
    | (go_at_call 24; refine (KC.out _ (HV.out.ext hE1)).mono ?_; rintro e w2 ⟨rfl,hE2⟩))
   go_ret
   exact ⟨rfl,hE1.trans hE2⟩
theorem find_calls (v : Value) (l : List Ky) (id at_ : Int) (w : World) (hF : Ks w v l) (hL : l.length ≤ 1000000000) :
  Calls Tryz.prog 22 #[v,.int .i64 id,.int .i64 at_] w fun e w' => e = .returned (.tuple #[.agg (qO (findK l id at_)),.bool (findK l id at_).isSome]) ∧ Ext w w':=by
 obtain ⟨AL,c,rfl,hc,hx⟩:=hF
 obtain ⟨n,hn⟩ : ∃ n,n = l.length:=⟨_,rfl⟩
 rw [← hn] at hx hc hL ⊢
 have HX:=veil (And.intro hx hn)
 obtain ⟨R,hR⟩ : ∃ R,R = findK l id at_:=⟨_,rfl⟩
 rw [← hR]
 have HR:=veil hR
 clear hx hn hR
 go_enter Tryz.func22,Tryz.ntmps22
 go_upto_region 1 with (fail)
 obtain ⟨g,hg⟩ : ∃ g,g = w.heap.size:=⟨_,rfl⟩
 obtain ⟨w0,hw0⟩ : ∃ W,W = w.alloc (.cells PZ 29):=⟨_,rfl⟩
 have h0:=zak w (.cells PZ 29)
 have hE0:=Ext.alloc w (.cells PZ 29)
 rw [← hw0] at hE0
 rw [← hw0,← hg] at h0
 have H0:=veil (And.intro hE0 (And.intro h0 (show w.heap.size ≤ g by omega)))
 unfold PZ at hw0
 rw [← hw0,← hg]
 clear hw0 hg h0 hE0
 go_wp2
 go_loopw [12] (fun v wr => ∃ i : Nat,i ≤ n ∧ v = .int .i64 (i : Int) ∧ (∀ j,j < i → cntK (l.getD j ky0) id at_ = false) ∧ Ext w0 wr)
  (fun v _ => n - (intOf v).toNat)
 case atStart => exact ⟨0,by omega,rfl,fun j hj => by omega,Ext.refl _⟩
 case round =>
  obtain ⟨i,hi,rfl,hall,hE⟩:=hrel
  by_cases hlt : i < n
  ·
   have hd1 : decide ((i : Int) < (n : Int)) = true:=by simp; omega
   have hii : (i : Int) < (n : Int):=by omega
   have hil : i < l.length:=by have:=HX.out.2; omega
   obtain ⟨b,o,hAL,hb,hcl⟩:=HX.out.1.resolve_left (by omega)
   have HRG:=veil (zbf (H0.out.1.trans hE) hb (hcl i _ (zdy hil)))
   obtain ⟨k,hk⟩ : ∃ k,k = l.getD i ky0:=⟨_,rfl⟩
   rw [← hk] at HRG
   have HK:=veil (And.intro hk (And.intro hall (And.intro hE hil)))
   subst hAL
   clear hk hall hE hil hb hcl
   go_upto_region 4 with (first
    | ((with_reducible refine zav 15 ?_); refine wpList_load_mid rfl 55 _ rfl b _ rfl (kyC k) _ HRG.out Tryz.underlying55 rfl (iKy k) ?_)
    | ((with_reducible refine zav 9 ?_); refine zde _ _ rfl rfl rfl rfl rfl rfl hzKy (fun _ => rfl) (fun _ => rfl) (iKyA k) (kyA_size k) (kyA_one k) ?_; intro gk W hg hW hEW))
   have hEE:=HK.out.2.2.1.trans hEW
   have c0:=ky_i (zcg hW)
   have c10:=ky_a (zcg hW)
   have c11:=ky_b (zcg hW)
   simp only [Nat.zero_add] at c0 c10 c11
   have HW:=veil (And.intro (ky_q (zcg hW)) hEE)
   simp only [Nat.zero_add] at HW
   clear hW hEW hEE HRG
   by_cases gc : k.i = id ∧ k.a ≤ at_ ∧ at_ < k.b
   ·
    have hr : R = some k:=by
     rw [HR.out,HK.out.1]
     exact findK_at HK.out.2.2.2 HK.out.2.1 (by rw [← HK.out.1]; exact cntK_yes gc)
    have hd2 : decide (k.a ≤ at_) = true:=decide_eq_true gc.2.1
    have hd3 : decide (at_ < k.b) = true:=decide_eq_true gc.2.2
    have f1 : (k.i == id) = true:=by simp [gc.1]
    have HF:=veil (And.intro hr (HW.out.2.block H0.out.2.1))
    have g1:=gc.1
    rw [g1] at c0 f1
    clear hr gc g1
    go_wp2_with (first
     | ((with_reducible refine zav 33 ?_); refine wpList_load_mid rfl 29 _ rfl gk 1 rfl _ _ HW.out.1 Tryz.underlying29 rfl (iT k.x k.y k.f) ?_)
     | ((with_reducible refine zbb ?_); refine wpList_store_row rfl 29 _ _ rfl g (qc k.x k.y k.f) rfl rfl 29 _ HF.out.2 (iT _ _ _) rfl (qc_one _ _ _) ?_))
    refine bodyPost_ret (zbc rfl _ _ g 29 (qc k.x k.y k.f) (0,0) _ rfl (setRow_heap W g _ (qc k.x k.y k.f) 29 (0,0) HF.out.2) Tryz.underlying29 rfl (iT _ _ _)) rfl ⟨by rw [HF.out.1]; rfl,zau (H0.out.1.trans HW.out.2) H0.out.2.2 _⟩
   ·
    have hno:=cntK_no gc
    have HN:=veil hno
    have go : ∀ j,j < i + 1 → cntK (l.getD j ky0) id at_ = false:=fun j hj => by
     by_cases e : j = i
     ·
      subst e
      rw [← HK.out.1]
      exact HN.out
     ·
      exact HK.out.2.1 j (by omega)
    have GO:=veil go
    clear hno go
    by_cases g1 : k.i = id
    ·
     have f1 : (k.i == id) = true:=by simp [g1]
     rw [g1] at c0 f1
     by_cases g2 : k.a ≤ at_
     ·
      have hd2 : decide (k.a ≤ at_) = true:=decide_eq_true g2
      have hd3 : decide (at_ < k.b) = false:=decide_eq_false fun h => gc ⟨g1,g2,h⟩
      clear gc g1 g2
      go_wp2
      go_roundw
      case rel => exact ⟨i + 1,by omega,by go_num,GO.out,HW.out.2⟩
      case measure => simp [intOf]; omega
     ·
      have hd2 : decide (k.a ≤ at_) = false:=decide_eq_false g2
      clear gc g1 g2
      go_wp2
      go_roundw
      case rel => exact ⟨i + 1,by omega,by go_num,GO.out,HW.out.2⟩
      case measure => simp [intOf]; omega
    ·
     have f1 : (k.i == id) = false:=by simp [g1]
     clear gc
     go_wp2
     go_roundw
     case rel => exact ⟨i + 1,by omega,by go_num,GO.out,HW.out.2⟩
     case measure => simp [intOf]; omega
  ·
   obtain rfl : i = n:=by omega
   have hd1 : decide ((i : Int) < (i : Int)) = false:=by simp
   have hr : R = none:=by
    rw [HR.out]
    exact zcs (by rw [← HX.out.2]; exact hall)
   have HE:=veil (And.intro hr (And.intro hE (hE.block H0.out.2.1)))
   clear hall hr hE
   go_wp2_with ((with_reducible refine zbb ?_); refine wpList_store_row rfl 29 _ _ rfl g PZ rfl rfl 29 _ HE.out.2.2 iPZ rfl pz_one ?_)
   refine bodyPost_ret (zbc rfl _ _ g 29 PZ (0,0) _ rfl (setRow_heap wr g _ PZ 29 (0,0) HE.out.2.2) Tryz.underlying29 rfl iPZ) rfl ⟨by rw [HE.out.1,pz_qc]; rfl,zau (H0.out.1.trans HE.out.2.1) H0.out.2.2 _⟩
theorem find10_calls (v : Value) (l : List Ky) (id at_ : Int) (w : World) (hF : Ks w v l) (hT : TopK l) (hL : l.length ≤ 1000000000) :
  Calls Tryz.prog 9 #[v,.int .i64 id,.int .i64 at_] w fun e w' => e = .returned (.tuple #[.agg (qO (findC l id at_)),.bool (findC l id at_).isSome]) ∧ Ext w w':=by
 have KM:=veil (fun W (hW : Ks W v l) => zcx v l W hW hT hL)
 have KF:=veil (fun W (hW : Ks W v l) => find_calls v l id at_ W hW hL)
 have HV:=veil hF
 obtain ⟨F,hFc⟩ : ∃ F,F = findC l id at_:=⟨_,rfl⟩
 rw [← hFc]
 unfold findC at hFc
 clear hF hT hL
 go_enter Tryz.func9,Tryz.ntmps9
 go_upto_region 1 with (fail)
 obtain ⟨g,hg⟩ : ∃ g,g = w.heap.size:=⟨_,rfl⟩
 obtain ⟨w0,hw0⟩ : ∃ W,W = w.alloc (.cells PZ 29):=⟨_,rfl⟩
 have h0:=zak w (.cells PZ 29)
 have hE0:=Ext.alloc w (.cells PZ 29)
 rw [← hw0] at hE0
 rw [← hw0,← hg] at h0
 have H0:=veil (And.intro hE0 (And.intro h0 (show w.heap.size ≤ g by omega)))
 unfold PZ at hw0
 rw [← hw0,← hg]
 clear hw0 hg h0 hE0
 generalize mayK l = r at *
 generalize findK l id at_ = R at *
 cases r with
 | false =>
  obtain rfl : F = none:=hFc
  go_upto_region 2 with (go_at_call 10; refine (KM.out _ (HV.out.ext H0.out.1)).mono ?_; rintro e w1 ⟨rfl,hE1⟩)
  have H1:=veil (And.intro hE1 (hE1.block H0.out.2.1))
  clear hE1
  go_wp2_with ((with_reducible refine zbb ?_); refine wpList_store_row rfl 29 _ _ rfl g PZ rfl rfl 29 _ H1.out.2 iPZ rfl pz_one ?_)
  refine bodyPost_ret (zbc rfl _ _ g 29 PZ (0,0) _ rfl (setRow_heap w1 g _ PZ 29 (0,0) H1.out.2) Tryz.underlying29 rfl iPZ) rfl ⟨by rw [pz_qc]; rfl,zau (H0.out.1.trans H1.out.1) H0.out.2.2 _⟩
 | true =>
  obtain rfl : F = R:=hFc
  go_upto_region 3 with (go_at_call 10; refine (KM.out _ (HV.out.ext H0.out.1)).mono ?_; rintro e w1 ⟨rfl,hE1⟩)
  have H1:=veil (H0.out.1.trans hE1)
  have H2:=veil hE1
  clear hE1
  have KF2:=veil (KF.out w1 (HV.out.ext H1.out))
  obtain ⟨C,hC⟩ : ∃ C,C = qO F:=⟨_,rfl⟩
  have HC:=veil (And.intro (show (Tryz.prog.info? 29).map (·.size) = some C.size by rw [hC]; exact zdj F) (And.intro (show PZ.size = C.size by rw [hC]; exact zeg F) (And.intro (show C.all (·.oneCell') = true by rw [hC]; exact qO_one F) hC)))
  rw [← hC] at KF2
  clear KF hC
  go_wp2_with (first
   | (go_at_call 22; refine KF2.out.mono ?_; rintro e w2 ⟨rfl,hE2⟩; have H3:=veil (H2.out.trans hE2); have H4:=veil (H3.out.block H0.out.2.1))
   | ((with_reducible refine zbb ?_); refine wpList_store_row rfl 29 _ _ rfl g C rfl rfl 29 _ H4.out HC.out.1 HC.out.2.1 HC.out.2.2.1 ?_))
  refine bodyPost_ret (zbc rfl _ _ g 29 C (0,0) _ rfl (setRow_heap w2 g _ C 29 (0,0) H4.out) Tryz.underlying29 rfl HC.out.1) rfl ⟨by rw [HC.out.2.2.2]; rfl,zau (H0.out.1.trans H3.out) H0.out.2.2 _⟩
theorem zdb {g k : Nat} (hne : k ≠ g) : ∀ (vs : List Value) (o : Nat) (w : World),(w.setCells g o vs).heap[k]? = w.heap[k]?
 | [],_,_ => rfl
 | _ :: r,o,_ => (zdb hne r (o + 1) _).trans (Below.heap_setCell _ _ _ _ hne)
theorem Bs.off {w : World} {A : Option Addr} {bs : List Nat} {g o : Nat} {vs : List Value} (h : Bs w A bs) (hne : ∀ b o,A = some ⟨b,o,none⟩ → b ≠ g) : Bs (w.setCells g o vs) A bs :=
 ⟨h.1,h.2.imp id fun ⟨b,o',e,hb,hc⟩ => by
  have hk:=zdb (hne b o' e) vs o w
  have hs : b < (w.setCells g o vs).heap.size:=by
   rw [Array.getElem?_eq_getElem hb] at hk
   exact (Array.getElem?_eq_some_iff.1 hk).1
  exact ⟨b,o',e,hs,fun j hj => (World.cell?_of_block (a:=⟨b,o' + j,none⟩) hk).trans (hc j hj)⟩⟩
theorem Pre.cells {g t n : Nat} : ∀ (vs : List Value) (o : Nat) {w : World} {f : Nat → Value},Pre w g t n f → ∃ h,Pre (w.setCells g o vs) g t n h
 | [],_,_,f,p => ⟨f,p⟩
 | v :: r,o,_,_,p => Pre.cells r (o + 1) (p.set o v)
theorem kcheck_nil (w : World) : Calls Tryz.prog 17 #[.slice none 0 0,.slice none 0 0,.int .i64 0] w fun e w' => e = .returned (.tuple #[.agg (tkC ⟨0,0,0,0,0⟩),.iface 39 (.int .i64 2)]) ∧ Ext w w':=by
 have KM : Hid (∀ W : World,Calls Tryz.prog 10 #[.slice none 0 0] W fun e w' => e = .returned (.bool true) ∧ Ext W w'):=veil (fun W => zcx _ [] W (Ls.nil W none 0) (fun k hk => by cases hk) (by decide))
 have KO:=veil (fun W => open_nil_calls W)
 have k2:=neNil2
 go_enter Tryz.func17,Tryz.ntmps17
 go_upto_region 1 with (fail)
 obtain ⟨g,hg⟩ : ∃ g,g = w.heap.size:=⟨_,rfl⟩
 obtain ⟨w0,hw0⟩ : ∃ W,W = w.alloc (.cells TZ 47):=⟨_,rfl⟩
 have h0:=zak w (.cells TZ 47)
 have hE0:=Ext.alloc w (.cells TZ 47)
 rw [← hw0] at hE0
 rw [← hw0,← hg] at h0
 have H0:=veil (And.intro hE0 (And.intro h0 (show w.heap.size ≤ g by omega)))
 unfold TZ at hw0
 rw [← hw0,← hg]
 clear hw0 hg h0 hE0
 go_upto_region 3 with (go_at_call 10; refine (KM.out _).mono ?_; rintro e w1 ⟨rfl,hE1⟩)
 have H1:=veil (And.intro (H0.out.1.trans hE1) (hE1.block H0.out.2.1))
 clear hE1 KM
 go_upto_region 4 with (first
  | (go_at_call 36; refine (KO.out w1).mono ?_; rintro e w2 ⟨rfl,hE2⟩)
  | ((with_reducible refine zbb ?_); refine wpList_store_row rfl 47 _ _ rfl w2.heap.size (tkC ⟨0,0,0,0,0⟩) rfl rfl 47 _ (zdh w2 _ _).1 (iTk _) rfl (tkC_one _) ?_)
  | ((with_reducible refine zbb ?_); refine wpList_store_row rfl 78 _ _ rfl (w2.heap.size + 1) (gc 0 0) rfl rfl 78 _ (two_far _ (zdh w2 _ _).2 (Nat.lt_succ_self _)) (iSg 0 0) rfl (gc_one 0 0) ?_))
 have hF:=two_rows (T:=tkC ⟨0,0,0,0,0⟩) (G:=gc 0 0) (two_ext w2 (.cells TZ 47) (.cells Z8 78)) (zdh w2 _ _).1 (zdh w2 _ _).2 ⟨Nat.le_refl _,Nat.lt_succ_self _⟩
 have hE3:=H1.out.1.trans (hE2.trans hF.1)
 have hb3:=(hE2.trans hF.1).block H1.out.2
 clear hF hE2
 obtain ⟨g8,hg8⟩ : ∃ g,g = w2.heap.size:=⟨_,rfl⟩
 obtain ⟨g9,hg9⟩ : ∃ g,g = w2.heap.size + 1:=⟨_,rfl⟩
 rw [← hg9,← hg8] at hE3 hb3 ⊢
 obtain ⟨w3,hw3⟩ : ∃ W,W = (((w2.alloc (.cells TZ 47)).alloc (.cells Z8 78)).setRow g8 (tkC ⟨0,0,0,0,0⟩)).setRow g9 (gc 0 0):=⟨_,rfl⟩
 rw [← hw3] at hE3 hb3
 unfold TZ Z8 at hw3
 rw [← hw3]
 have H3:=veil (And.intro hE3 hb3)
 clear hw3 hg8 hg9 hE3 hb3 KO H1
 go_wp2_with ((with_reducible refine zbb ?_); refine wpList_store_row rfl 47 _ _ rfl g TZ rfl rfl 47 _ H3.out.2 iTZ rfl tz_one ?_)
 refine bodyPost_ret (zbc rfl _ _ g 47 TZ (0,0) _ rfl (setRow_heap w3 g _ TZ 47 (0,0) H3.out.2) Tryz.underlying47 rfl iTZ) rfl ⟨rfl,zau H3.out.1 H0.out.2.2 _⟩
theorem kt_keep (w w' : World) (h : KT w) (k : Ext w w') : KT w':=kt_now h k
theorem code10 (_ : CodeL) : Code10 lowL KT where
 keep:=kt_keep
 base:=base_calls
 may:=fun v l w hF hT hL => zcx v l w hF hT (Nat.le_trans hL (by decide))
 find:=fun v l id at_ w hF hT hL => find10_calls v l id at_ w hF hT (Nat.le_trans hL (by decide))
 check_nil:=kcheck_nil
theorem codeL : CodeL where
end Go.Proofs.YthlbemnbmbmjhaaGreatDoor
