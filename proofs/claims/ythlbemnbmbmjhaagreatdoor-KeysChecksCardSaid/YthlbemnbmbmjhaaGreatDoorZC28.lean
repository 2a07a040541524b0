/-
  Of D4 UB UD D2 D3 E1 E5 UE UF UG KR KS UH UI Y0.
-/
import Derived.Lib.AppendZeros
import Derived.Deep.AppendLies
import Derived.Deep.RegionHeld3
import Derived.Deep.MidRow
import Derived.Laws.BytesString
import Derived.Deep.LoopGhost
import Derived.Deep.RegionWith
import Derived.Deep.Cut
import Derived.Deep.CutRange
import Derived.Laws.OwnMore
import Derived.Test.YthlbemnbmbmjhaaGreatDoorZC20
import Derived.Test.YthlbemnbmbmjhaaGreatDoorZC7
import Derived.Test.YthlbemnbmbmjhaaGreatDoorZC8
import Derived.Test.YthlbemnbmbmjhaaGreatDoorZC17
import Derived.Test.YthlbemnbmbmjhaaGreatDoorZC13
import Derived.Test.YthlbemnbmbmjhaaGreatDoorZC16
import Derived.Test.YthlbemnbmbmjhaaGreatDoorZC2
import Derived.Test.YthlbemnbmbmjhaaGreatDoorZC6
import Derived.Test.YthlbemnbmbmjhaaGreatDoorZC5
import Derived.Test.YthlbemnbmbmjhaaGreatDoorZC27
import Derived.Test.YthlbemnbmbmjhaaGreatDoorZC19
set_option maxRecDepth 1000000
set_option maxHeartbeats 20000000
namespace Go.Proofs.YthlbemnbmbmjhaaGreatDoor
open Go.RowKit
open Go.Value renaming int → vI
open Go.IntKind renaming u64 → vU
open Go.Act renaming put → aP
open List renaming setIfInBounds_toArray → lA, set_cons_zero → lZ, set_cons_succ → lS
theorem on_is (X Y : Nat) (f : Bool) (hX : X < top) (hY : Y < top) (w : World) :
  Calls Tryz.prog 47 #[qv X Y f] w fun e w' => e = .returned (.bool (onB X Y f)) ∧ Ext w w':=by
 have KO:=veil (fun (b : Nat) (w : World) (hF : Fp w b) => on_calls X Y f hX hY hF)
 obtain ⟨r,hr⟩ : ∃ r,r = onB X Y f:=⟨_,rfl⟩
 rw [← hr] at KO ⊢
 clear hX hY hr
 unfold qv qc
 go_enter Tryz.func47,Tryz.ntmps47
 go_upto_region 1 with (fail)
 refine zdp fun w1 hx b0 => ?_
 have b0 : w1.heap[w.heap.size]? = some (.cells (qc X Y f) 29 (0,0)):=b0
 refine wp_region_noPanic ?_
 refine wp_region_held_drew (S:=fun W => Ext w1 W) (by kernel_rfl) (Ext.drew _) (fun hH => ?_)
 refine wpAnyH_take (i:=1) (v:=qv X Y f) rfl (by kernel_rfl) (by kernel_rfl) (by decide +kernel) (fun _ _ _ h => h) (yieldsIf_load_mid (by rfl) _ _ rfl _ _ rfl (qc X Y f).toList _ (fun W hW j v hv => by rw [cell_of_row W _ _ (qc X Y f) 29 (0,0) (hW.block b0),Nat.zero_add]; simpa using hv) Tryz.underlying29 rfl (iT X Y f)) hH ?_
 refine wpAnyH_ready (rs:=[0]) (by decide +kernel) (by simp) ?_
 refine AllReadyH.cons rfl (fun K hK => ?_) AllReadyH.nil
 go_simp
 refine (zik _).mono ?_
 rintro e w2 ⟨b,rfl,hF,hE⟩
 refine hK.out _ _ (hH.trans hE) (fun hH => ?_)
 clear hK K hE
 refine wpAnyH_ready (rs:=[2]) (by decide +kernel) (by simp) ?_
 refine AllReadyH.cons rfl (fun K hK => ?_) AllReadyH.nil
 go_simp
 refine (KO.out _ _ hF).mono ?_
 rintro e w3 ⟨rfl,hE⟩
 refine hK.out _ _ (hH.trans hE) (fun hH => ?_)
 clear hK K hE
 refine wpAnyH_take (i:=3) (v:=.bool r) rfl (by kernel_rfl) (by kernel_rfl) (by decide +kernel) (fun _ _ _ h => h) (Or.inl ⟨by rfl,fun W hSw => (by dsimp only at hSw; go_simp)⟩) hH ?_
 refine wpAnyH_done (by decide +kernel) ?_ _
 refine NoPanic.normal ?_
 go_wp2
 go_ret
 exact ⟨rfl,hx.trans hH⟩
def prevI (l : List Ky) (j : Nat) : Int:=if j = 0 then 0 else (l.getD (j - 1) ky0).i
def okO (l : List Ky) (j : Nat) : Prop:=prevI l j < (l.getD j ky0).i ∧ (l.getD j ky0).i ≤ 2147483647 ∧ 0 ≤ (l.getD j ky0).a ∧ (l.getD j ky0).a ≤ (l.getD j ky0).b ∧ (l.getD j ky0).b ≤ 1073741824
instance (l : List Ky) (j : Nat) : Decidable (okO l j):=by unfold okO; exact inferInstance
def ordK (l : List Ky) : Bool:=decide (l.length ≤ 32 ∧ ∀ j,j < l.length → okO l j)
def offK (k : Ky) : Bool:=k.f || !onB k.x k.y k.f
theorem ordK_false {l : List Ky} {j : Nat} (hj : j < l.length) (h : ¬ okO l j) : ordK l = false:=decide_eq_false fun hh => h (hh.2 j hj)
theorem okO_pos {l : List Ky} : ∀ j,(∀ q,q ≤ j → okO l q) → 1 ≤ (l.getD j ky0).i
 | 0,h => by
  have h1:=(h 0 (Nat.le_refl _)).1
  unfold prevI at h1
  rw [if_pos rfl] at h1
  omega
 | j + 1,h => by
  have h1:=(h (j + 1) (Nat.le_refl _)).1
  have h2:=okO_pos j fun q hq => h q (by omega)
  unfold prevI at h1
  rw [if_neg (by omega),show j + 1 - 1 = j by omega] at h1
  omega
theorem any_off {l : List Ky} (h : l.any offK = false) {j : Nat} (hj : j < l.length) : offK (l.getD j ky0) = false:=by
 rw [List.any_eq_false] at h
 have:=h (l.getD j ky0) (List.mem_of_getElem? (zju hj))
 simpa using this
theorem mayK_ord (l : List Ky) : mayK l = (ordK l && !l.any offK):=by
 rw [Bool.eq_iff_iff,Bool.and_eq_true,Bool.not_eq_true']
 constructor
 ·
  intro h
  refine ⟨decide_eq_true ⟨mayK_32 h,fun j hj => ?_⟩,?_⟩
  ·
   obtain ⟨h1,h2,_,_,h5,h6,h7,h8⟩:=mayK_ok h hj
   refine ⟨?_,h2,h5,h6,h7⟩
   unfold prevI
   by_cases e : j = 0
   ·
    rw [if_pos e]; omega
   ·
    rw [if_neg e]; exact h8 (by omega)
  ·
   rw [List.any_eq_false]
   intro k hk
   obtain ⟨_,_,h3,h4,_⟩:=mayK_each h k hk
   unfold offK
   rw [h4,h3]
   decide
 ·
  rintro ⟨h,ha⟩
  have h:=of_decide_eq_true h
  refine decide_eq_true ⟨h.1,fun j hj => ?_⟩
  obtain ⟨h1,h2,h3,h4,h5⟩:=h.2 j hj
  have hp:=okO_pos j fun q hq => h.2 q (by omega)
  have ho:=any_off ha hj
  unfold offK at ho
  rw [Bool.or_eq_false_iff,Bool.not_eq_false'] at ho
  refine ⟨hp,h2,ho.2,ho.1,h3,h4,h5,fun h0 => ?_⟩
  unfold prevI at h1
  rwa [if_neg (by omega)] at h1
theorem inOrder_calls (v : Value) (l : List Ky) (w : World) (hF : Ks w v l) (hL : l.length ≤ 1000000000) :
  Calls Tryz.prog 23 #[v] w fun e w' => e = .returned (.bool (ordK l)) ∧ Ext w w':=by
 obtain ⟨AL,c,rfl,hc,hx⟩:=hF
 obtain ⟨R,hR⟩ : ∃ R,R = ordK l:=⟨_,rfl⟩
 rw [← hR]
 obtain ⟨n,hn⟩ : ∃ n,n = l.length:=⟨_,rfl⟩
 rw [← hn] at hx hc hL ⊢
 have HR:=veil (And.intro hR hn)
 have HX:=veil hx
 clear hR hx hn
 by_cases h32 : (32 : Int) < (n : Int)
 ·
  have hd : decide ((32 : Int) < (n : Int)) = true:=decide_eq_true h32
  have e : R = false:=by
   rw [HR.out.1]
   exact decide_eq_false fun hh => by have:=hh.1; have:=HR.out.2; omega
  subst e
  go_enter Tryz.func23,Tryz.ntmps23
  go_wp2
  go_ret
  exact ⟨rfl,Ext.refl _⟩
 ·
  have hd : decide ((32 : Int) < (n : Int)) = false:=decide_eq_false h32
  have hn32 : n ≤ 32:=by omega
  clear hL h32
  go_enter Tryz.func23,Tryz.ntmps23
  go_wp2
  go_loopw [3,11] (fun s v wr => ∃ (i : Nat) (P : Int),i ≤ n ∧ s = .int .i64 P ∧ v = .int .i64 (i : Int) ∧ (∀ j,j < i → okO l j) ∧ P = prevI l i ∧ Ext w wr)
   (fun _ v _ => n - (intOf v).toNat)
  case atStart => exact ⟨0,0,by omega,rfl,rfl,fun j hj => by omega,rfl,Ext.refl _⟩
  case round =>
   obtain ⟨i,P,hi,rfl,rfl,hall,hP,hE⟩:=hrel
   by_cases hlt : i < n
   ·
    have hd1 : decide ((i : Int) < (n : Int)) = true:=by simp; omega
    have hii : (i : Int) < (n : Int):=by omega
    obtain ⟨b,o,hAL,hb,hcl⟩:=HX.out.resolve_left (by omega)
    have hil : i < l.length:=by have:=HR.out.2; omega
    have HRG:=veil (zdf hE hb (hcl i _ (zju hil)))
    obtain ⟨k,hk⟩ : ∃ k,k = l.getD i ky0:=⟨_,rfl⟩
    rw [← hk] at HRG
    have hfalse : ¬ (P < k.i ∧ k.i ≤ 2147483647 ∧ 0 ≤ k.a ∧ k.a ≤ k.b ∧ k.b ≤ 1073741824) → R = false:=fun h => HR.out.1.trans (ordK_false hil (by unfold okO; rw [← hk,← hP]; exact h))
    have htrue : (P < k.i ∧ k.i ≤ 2147483647 ∧ 0 ≤ k.a ∧ k.a ≤ k.b ∧ k.b ≤ 1073741824) → ∀ j,j < i + 1 → okO l j:=fun h j hj => by
     by_cases e : j = i
     ·
      subst e
      unfold okO
      rw [← hk,← hP]
      exact h
     ·
      exact hall j (by omega)
    have hnx : k.i = prevI l (i + 1):=by
     unfold prevI
     rw [if_neg (by omega),show i + 1 - 1 = i by omega,hk]
    have HF:=veil (And.intro hfalse (And.intro htrue hnx))
    clear hfalse htrue hnx hall hP hk hcl hil
    subst hAL
    go_upto_region 7 with (first
     | ((with_reducible refine zas 14 ?_); refine wpList_load_mid rfl 55 _ rfl b _ rfl (kyC k) _ HRG.out Tryz.underlying55 rfl (iKy k) ?_)
     | ((with_reducible refine zas 5 ?_); refine zdn _ _ rfl rfl rfl rfl rfl rfl hzKy (fun _ => rfl) (fun _ => rfl) (iKyA k) (kyA_size k) (kyA_one k) ?_; intro g W hg hW hEW))
    have hEE:=hE.trans hEW
    have c0:=ky_i (zgk hW)
    have c10:=ky_a (zgk hW)
    have c11:=ky_b (zgk hW)
    simp only [Nat.zero_add] at c0 c10 c11
    clear hW hEW hE hb HRG
    by_cases g1 : k.i ≤ P
    ·
     obtain rfl : R = false:=HF.out.1 fun h => by omega
     have hd2 : decide (k.i ≤ P) = true:=decide_eq_true g1
     go_wp2
     go_ret
     exact ⟨rfl,hEE⟩
    ·
     have hd2 : decide (k.i ≤ P) = false:=decide_eq_false g1
     by_cases g2 : 2147483647 < k.i
     ·
      obtain rfl : R = false:=HF.out.1 fun h => by omega
      have hd3 : decide (2147483647 < k.i) = true:=decide_eq_true g2
      go_wp2
      go_ret
      exact ⟨rfl,hEE⟩
     ·
      have hd3 : decide (2147483647 < k.i) = false:=decide_eq_false g2
      by_cases g3 : k.a < 0
      ·
       obtain rfl : R = false:=HF.out.1 fun h => by omega
       have hd4 : decide (k.a < 0) = true:=decide_eq_true g3
       go_wp2
       go_ret
       exact ⟨rfl,hEE⟩
      ·
       have hd4 : decide (k.a < 0) = false:=decide_eq_false g3
       by_cases g4 : k.b < k.a
       ·
        obtain rfl : R = false:=HF.out.1 fun h => by omega
        have hd5 : decide (k.b < k.a) = true:=decide_eq_true g4
        go_wp2
        go_ret
        exact ⟨rfl,hEE⟩
       ·
        have hd5 : decide (k.b < k.a) = false:=decide_eq_false g4
        by_cases g5 : 1073741824 < k.b
        ·
         obtain rfl : R = false:=HF.out.1 fun h => by omega
         have hd6 : decide (1073741824 < k.b) = true:=decide_eq_true g5
         go_wp2
         go_ret
         exact ⟨rfl,hEE⟩
        ·
         have hd6 : decide (1073741824 < k.b) = false:=decide_eq_false g5
         go_wp2
         go_roundw
         case rel => exact ⟨i + 1,k.i,by omega,rfl,by go_num,HF.out.2.1 (by omega),HF.out.2.2,hEE⟩
         case measure => simp [intOf]; omega
   ·
    obtain rfl : i = n:=by omega
    have hd1 : decide ((i : Int) < (i : Int)) = false:=by simp
    have e : R = true:=by
     rw [HR.out.1]
     exact decide_eq_true ⟨by have:=HR.out.2; omega,fun j hj => hall j (by have:=HR.out.2; omega)⟩
    subst e
    clear hall hP
    go_wp2
    go_ret
    exact ⟨rfl,hE⟩
theorem wpl_midG {P : Program} {ops : Array Oper} {rest : List Oper} {op : Oper} {a : Act} {w : World} {Q : Exit → Act → World → Prop} (hgd : Region.wanted op (yielded ops a.tmps) = true) (ty : TypeId) (x : Operand) (ho : op.op = .load ty x)
  (b o : Nat) (hx : a.eval x = .pointer (some ⟨b,o,none⟩)) (cs : List Value) (d : TypeDesc) (hc : w.rangeAt b o cs)
  (hu : P.underlying ty = some d) (hd : d.isRow = true) (hi : (P.info? ty).map (·.size) = some cs.length)
  (h : wpList P ops Q rest (a.put op.dst (.agg cs.toArray)) w) : wpList P ops Q (op :: rest) a w :=
 wpList_step fun K hK => by
  rw [if_pos hgd]
  exact wp_load_mid ty x ho b o hx cs d hc hu hd hi (hK _ _ h)
theorem isOff_calls (k : Ky) (hx : k.x < top) (hy : k.y < top) (w : World) :
  Calls Tryz.prog 25 #[.agg (kyC k).toArray] w fun e w' => e = .returned (.bool (offK k)) ∧ Ext w w':=by
 have KO:=veil (fun W => on_is k.x k.y k.f hx hy W)
 obtain ⟨R,hR⟩ : ∃ R,R = offK k:=⟨_,rfl⟩
 rw [← hR]
 have HR:=veil hR
 clear hx hy hR
 obtain ⟨C,hC⟩ : ∃ C,C = (kyC k).toArray:=⟨_,rfl⟩
 rw [← hC]
 have HC:=veil hC
 clear hC
 go_enter Tryz.func25,Tryz.ntmps25
 go_upto_region 1 with (fail)
 obtain ⟨g,hg⟩ : ∃ g,g = w.heap.size:=⟨_,rfl⟩
 have h0:=zar w (.cells C 55)
 have hE0:=Ext.alloc w (.cells C 55)
 generalize w.alloc (.cells C 55) = w0 at *
 rw [← hg] at h0 ⊢
 rw [HC.out] at h0
 have c9:=ky_f (zgk h0)
 have HQ:=veil (ky_q (zgk h0))
 simp only [Nat.zero_add] at c9 HQ
 have HE:=veil hE0
 clear h0 hE0 hg
 cases hf : k.f with
 | true =>
  rw [hf] at c9
  obtain rfl : R = true:=by rw [HR.out]; unfold offK; rw [hf]; rfl
  clear hf KO HQ HR
  go_wp2
  go_ret
  exact ⟨rfl,HE.out⟩
 | false =>
  rw [hf] at c9
  have e : R = !onB k.x k.y k.f:=by rw [HR.out]; unfold offK; rw [hf]; rfl
  obtain ⟨r,hr⟩ : ∃ r,r = onB k.x k.y k.f:=⟨_,rfl⟩
  rw [← hr] at KO e
  clear hr hf HR
  cases r with
  | true =>
   obtain rfl : R = false:=e
   go_wp2_with (first
    | ((with_reducible refine zas 8 ?_); refine wpl_midG rfl 29 _ rfl g 1 rfl _ _ HQ.out Tryz.underlying29 rfl (iT k.x k.y k.f) ?_)
    | (go_at_call 47; refine (KO.out _).mono ?_; rintro e w1 ⟨rfl,hE1⟩))
   go_ret
   exact ⟨rfl,HE.out.trans hE1⟩
  | false =>
   obtain rfl : R = true:=e
   go_wp2_with (first
    | ((with_reducible refine zas 8 ?_); refine wpl_midG rfl 29 _ rfl g 1 rfl _ _ HQ.out Tryz.underlying29 rfl (iT k.x k.y k.f) ?_)
    | (go_at_call 47; refine (KO.out _).mono ?_; rintro e w1 ⟨rfl,hE1⟩))
   go_ret
   exact ⟨rfl,HE.out.trans hE1⟩
theorem index_calls (v : Value) (l : List Ky) (w : World) (hF : Ks w v l) (hT : TopK l) (hL : l.length ≤ 1000000000) :
  Calls Tryz.prog 46 #[v,.func (.func 25) #[] #[]] w fun e w' => ∃ z : Int,e = .returned (.int .i64 z) ∧ decide (0 ≤ z) = l.any offK ∧ Ext w w':=by
 obtain ⟨AL,c,rfl,hc,hx⟩:=hF
 obtain ⟨n,hn⟩ : ∃ n,n = l.length:=⟨_,rfl⟩
 rw [← hn] at hx hc hL ⊢
 obtain ⟨R,hR⟩ : ∃ R,R = l.any offK:=⟨_,rfl⟩
 rw [← hR]
 have HR:=veil (And.intro hR (And.intro hn hT))
 have HX:=veil hx
 clear hR hx hn hT
 go_enter Tryz.func46,Tryz.ntmps46
 go_wp2
 go_loopw [5,8] (fun _ v wr => ∃ i : Nat,i ≤ n ∧ v = .int .i64 (i : Int) ∧ (∀ j,j < i → offK (l.getD j ky0) = false) ∧ Ext w wr)
  (fun _ v _ => n - (intOf v).toNat)
 case atStart => exact ⟨0,by omega,rfl,fun j hj => by omega,Ext.refl _⟩
 case round =>
  obtain ⟨i,hi,rfl,hall,hE⟩:=hrel
  by_cases hlt : i < n
  ·
   have hd1 : decide ((i : Int) < (n : Int)) = true:=by simp; omega
   have hii : (i : Int) < (n : Int):=by omega
   obtain ⟨b,o,hAL,hb,hcl⟩:=HX.out.resolve_left (by omega)
   have hil : i < l.length:=by have:=HR.out.2.1; omega
   have HRG:=veil (zdf hE hb (hcl i _ (zju hil)))
   have hkt:=HR.out.2.2 (l.getD i ky0) (List.mem_of_getElem? (zju hil))
   have hmem : l.getD i ky0 ∈ l:=List.mem_of_getElem? (zju hil)
   obtain ⟨k,hk⟩ : ∃ k,k = l.getD i ky0:=⟨_,rfl⟩
   rw [← hk] at HRG hkt hmem
   have KO:=veil (fun W => isOff_calls k hkt.1 hkt.2 W)
   cases ho : offK k with
   | true =>
    rw [ho] at KO
    have e : R = true:=by
     rw [HR.out.1,List.any_eq_true]
     exact ⟨k,hmem,ho⟩
    subst e
    clear hmem hkt ho hk hil hcl hall
    subst hAL
    go_wp2_with (first
     | ((with_reducible refine zas 15 ?_); refine wpList_load_mid rfl 55 _ rfl b _ rfl (kyC k) _ HRG.out Tryz.underlying55 rfl (iKy k) ?_)
     | (go_at_call 25; refine (KO.out _).mono ?_; rintro e w1 ⟨rfl,hE1⟩))
    go_ret
    exact ⟨(i : Int),rfl,by simp,hE.trans hE1⟩
   | false =>
    rw [ho] at KO
    have hnext : ∀ j,j < i + 1 → offK (l.getD j ky0) = false:=fun j hj => by
     by_cases e : j = i
     ·
      subst e
      rw [← hk]
      exact ho
     ·
      exact hall j (by omega)
    have HN:=veil hnext
    clear hmem hkt ho hk hil hcl hall hnext
    subst hAL
    go_wp2_with (first
     | ((with_reducible refine zas 15 ?_); refine wpList_load_mid rfl 55 _ rfl b _ rfl (kyC k) _ HRG.out Tryz.underlying55 rfl (iKy k) ?_)
     | (go_at_call 25; refine (KO.out _).mono ?_; rintro e w1 ⟨rfl,hE1⟩))
    go_roundw
    case rel => exact ⟨i + 1,by omega,by go_num,HN.out,hE.trans hE1⟩
    case measure => simp [intOf]; omega
  ·
   obtain rfl : i = n:=by omega
   have hd1 : decide ((i : Int) < (i : Int)) = false:=by simp
   have e : R = false:=by
    rw [HR.out.1,List.any_eq_false]
    intro k hk
    obtain ⟨j,hj,rfl⟩:=List.mem_iff_getElem.1 hk
    have:=hall j (by have:=HR.out.2.1; omega)
    rw [List.getD_eq_getElem?_getD,List.getElem?_eq_getElem hj] at this
    simpa using this
   subst e
   clear hall
   go_wp2
   go_ret
   exact ⟨-1,rfl,by decide,hE⟩
theorem contains_calls (v : Value) (l : List Ky) (w : World) (hF : Ks w v l) (hT : TopK l) (hL : l.length ≤ 1000000000) :
  Calls Tryz.prog 24 #[v,.func (.func 25) #[] #[]] w fun e w' => e = .returned (.bool (l.any offK)) ∧ Ext w w':=by
 have KI:=veil (index_calls v l w hF hT hL)
 obtain ⟨R,hR⟩ : ∃ R,R = l.any offK:=⟨_,rfl⟩
 rw [← hR] at KI ⊢
 clear hF hT hL hR
 go_enter Tryz.func24,Tryz.ntmps24
 go_wp2_with (go_at_call 46; refine KI.out.mono ?_; rintro e w1 ⟨z,rfl,hz,hE1⟩)
 go_ret
 exact ⟨by first | rfl | rw [hz],hE1⟩
theorem zia (v : Value) (l : List Ky) (w : World) (hF : Ks w v l) (hT : TopK l) (hL : l.length ≤ 1000000000) :
  Calls Tryz.prog 10 #[v] w fun e w' => e = .returned (.bool (mayK l)) ∧ Ext w w':=by
 have KO:=veil (fun W (hW : Ks W v l) => inOrder_calls v l W hW hL)
 have KC:=veil (fun W (hW : Ks W v l) => contains_calls v l W hW hT hL)
 rw [mayK_ord]
 have HV:=veil hF
 clear hF hT hL
 generalize ordK l = r at *
 generalize l.any offK = s at *
 cases r with
 | false =>
  go_enter Tryz.func10,Tryz.ntmps10
  go_wp2_with (go_at_call 23; refine (KO.out _ HV.out).mono ?_; rintro e w1 ⟨rfl,hE1⟩)
  go_ret
  exact ⟨rfl,hE1⟩
 | true =>
  cases s with
  | false =>
   go_enter Tryz.func10,Tryz.ntmps10
   go_wp2_with (first
    | (go_at_call 23; refine (KO.out _ HV.out).mono ?_; rintro e w1 ⟨rfl,hE1⟩)
    | (go_at_call 24; refine (KC.out _ (HV.out.ext hE1)).mono ?_; rintro e w2 ⟨rfl,hE2⟩))
   go_ret
   exact ⟨rfl,hE1.trans hE2⟩
  | true =>
   go_enter Tryz.func10,Tryz.ntmps10
   go_wp2_with (first
    | (go_at_call 23; refine (KO.out _ HV.out).mono ?_; rintro e w1 ⟨rfl,hE1⟩)
    | (go_at_call 24; refine (KC.out _ (HV.out.ext hE1)).mono ?_; rintro e w2 ⟨rfl,hE2⟩))
   go_ret
   exact ⟨rfl,hE1.trans hE2⟩
theorem find_calls (v : Value) (l : List Ky) (id at_ : Int) (w : World) (hF : Ks w v l) (hL : l.length ≤ 1000000000) :
  Calls Tryz.prog 22 #[v,.int .i64 id,.int .i64 at_] w fun e w' => e = .returned (.tuple #[.agg (qO (findK l id at_)),.bool (findK l id at_).isSome]) ∧ Ext w w':=by
 obtain ⟨AL,c,rfl,hc,hx⟩:=hF
 obtain ⟨n,hn⟩ : ∃ n,n = l.length:=⟨_,rfl⟩
 rw [← hn] at hx hc hL ⊢
 have HX:=veil (And.intro hx hn)
 obtain ⟨R,hR⟩ : ∃ R,R = findK l id at_:=⟨_,rfl⟩
 rw [← hR]
 have HR:=veil hR
 clear hx hn hR
 go_enter Tryz.func22,Tryz.ntmps22
 go_upto_region 1 with (fail)
 obtain ⟨g,hg⟩ : ∃ g,g = w.heap.size:=⟨_,rfl⟩
 obtain ⟨w0,hw0⟩ : ∃ W,W = w.alloc (.cells PZ 29):=⟨_,rfl⟩
 have h0:=zar w (.cells PZ 29)
 have hE0:=Ext.alloc w (.cells PZ 29)
 rw [← hw0] at hE0
 rw [← hw0,← hg] at h0
 have H0:=veil (And.intro hE0 (And.intro h0 (show w.heap.size ≤ g by omega)))
 unfold PZ at hw0
 rw [← hw0,← hg]
 clear hw0 hg h0 hE0
 go_wp2
 go_loopw [12] (fun v wr => ∃ i : Nat,i ≤ n ∧ v = .int .i64 (i : Int) ∧ (∀ j,j < i → cntK (l.getD j ky0) id at_ = false) ∧ Ext w0 wr)
  (fun v _ => n - (intOf v).toNat)
 case atStart => exact ⟨0,by omega,rfl,fun j hj => by omega,Ext.refl _⟩
 case round =>
  obtain ⟨i,hi,rfl,hall,hE⟩:=hrel
  by_cases hlt : i < n
  ·
   have hd1 : decide ((i : Int) < (n : Int)) = true:=by simp; omega
   have hii : (i : Int) < (n : Int):=by omega
   have hil : i < l.length:=by have:=HX.out.2; omega
   obtain ⟨b,o,hAL,hb,hcl⟩:=HX.out.1.resolve_left (by omega)
   have HRG:=veil (zdf (H0.out.1.trans hE) hb (hcl i _ (zju hil)))
   obtain ⟨k,hk⟩ : ∃ k,k = l.getD i ky0:=⟨_,rfl⟩
   rw [← hk] at HRG
   have HK:=veil (And.intro hk (And.intro hall (And.intro hE hil)))
   subst hAL
   clear hk hall hE hil hb hcl
   go_upto_region 4 with (first
    | ((with_reducible refine zas 15 ?_); refine wpList_load_mid rfl 55 _ rfl b _ rfl (kyC k) _ HRG.out Tryz.underlying55 rfl (iKy k) ?_)
    | ((with_reducible refine zas 9 ?_); refine zdn _ _ rfl rfl rfl rfl rfl rfl hzKy (fun _ => rfl) (fun _ => rfl) (iKyA k) (kyA_size k) (kyA_one k) ?_; intro gk W hg hW hEW))
   have hEE:=HK.out.2.2.1.trans hEW
   have c0:=ky_i (zgk hW)
   have c10:=ky_a (zgk hW)
   have c11:=ky_b (zgk hW)
   simp only [Nat.zero_add] at c0 c10 c11
   have HW:=veil (And.intro (ky_q (zgk hW)) hEE)
   simp only [Nat.zero_add] at HW
   clear hW hEW hEE HRG
   by_cases gc : k.i = id ∧ k.a ≤ at_ ∧ at_ < k.b
   ·
    have hr : R = some k:=by
     rw [HR.out,HK.out.1]
     exact findK_at HK.out.2.2.2 HK.out.2.1 (by rw [← HK.out.1]; exact cntK_yes gc)
    have hd2 : decide (k.a ≤ at_) = true:=decide_eq_true gc.2.1
    have hd3 : decide (at_ < k.b) = true:=decide_eq_true gc.2.2
    have f1 : (k.i == id) = true:=by simp [gc.1]
    have HF:=veil (And.intro hr (HW.out.2.block H0.out.2.1))
    have g1:=gc.1
    rw [g1] at c0 f1
    clear hr gc g1
    go_wp2_with (first
     | ((with_reducible refine zas 33 ?_); refine wpList_load_mid rfl 29 _ rfl gk 1 rfl _ _ HW.out.1 Tryz.underlying29 rfl (iT k.x k.y k.f) ?_)
     | ((with_reducible refine zap ?_); refine wpList_store_row rfl 29 _ _ rfl g (qc k.x k.y k.f) rfl rfl 29 _ HF.out.2 (iT _ _ _) rfl (zcz _ _ _) ?_))
    refine bodyPost_ret (zay rfl _ _ g 29 (qc k.x k.y k.f) (0,0) _ rfl (setRow_heap W g _ (qc k.x k.y k.f) 29 (0,0) HF.out.2) Tryz.underlying29 rfl (iT _ _ _)) rfl ⟨by rw [HF.out.1]; rfl,zat (H0.out.1.trans HW.out.2) H0.out.2.2 _⟩
   ·
    have hno:=cntK_no gc
    have HN:=veil hno
    have go : ∀ j,j < i + 1 → cntK (l.getD j ky0) id at_ = false:=fun j hj => by
     by_cases e : j = i
     ·
      subst e
      rw [← HK.out.1]
      exact HN.out
     ·
      exact HK.out.2.1 j (by omega)
    have GO:=veil go
    clear hno go
    by_cases g1 : k.i = id
    ·
     have f1 : (k.i == id) = true:=by simp [g1]
     rw [g1] at c0 f1
     by_cases g2 : k.a ≤ at_
     ·
      have hd2 : decide (k.a ≤ at_) = true:=decide_eq_true g2
      have hd3 : decide (at_ < k.b) = false:=decide_eq_false fun h => gc ⟨g1,g2,h⟩
      clear gc g1 g2
      go_wp2
      go_roundw
      case rel => exact ⟨i + 1,by omega,by go_num,GO.out,HW.out.2⟩
      case measure => simp [intOf]; omega
     ·
      have hd2 : decide (k.a ≤ at_) = false:=decide_eq_false g2
      clear gc g1 g2
      go_wp2
      go_roundw
      case rel => exact ⟨i + 1,by omega,by go_num,GO.out,HW.out.2⟩
      case measure => simp [intOf]; omega
    ·
     have f1 : (k.i == id) = false:=by simp [g1]
     clear gc
     go_wp2
     go_roundw
     case rel => exact ⟨i + 1,by omega,by go_num,GO.out,HW.out.2⟩
     case measure => simp [intOf]; omega
  ·
   obtain rfl : i = n:=by omega
   have hd1 : decide ((i : Int) < (i : Int)) = false:=by simp
   have hr : R = none:=by
    rw [HR.out]
    exact zhn (by rw [← HX.out.2]; exact hall)
   have HE:=veil (And.intro hr (And.intro hE (hE.block H0.out.2.1)))
   clear hall hr hE
   go_wp2_with ((with_reducible refine zap ?_); refine wpList_store_row rfl 29 _ _ rfl g PZ rfl rfl 29 _ HE.out.2.2 iPZ rfl pz_one ?_)
   refine bodyPost_ret (zay rfl _ _ g 29 PZ (0,0) _ rfl (setRow_heap wr g _ PZ 29 (0,0) HE.out.2.2) Tryz.underlying29 rfl iPZ) rfl ⟨by rw [HE.out.1,pz_qc]; rfl,zat (H0.out.1.trans HE.out.2.1) H0.out.2.2 _⟩
theorem find10_calls (v : Value) (l : List Ky) (id at_ : Int) (w : World) (hF : Ks w v l) (hT : TopK l) (hL : l.length ≤ 1000000000) :
  Calls Tryz.prog 9 #[v,.int .i64 id,.int .i64 at_] w fun e w' => e = .returned (.tuple #[.agg (qO (findC l id at_)),.bool (findC l id at_).isSome]) ∧ Ext w w':=by
 have KM:=veil (fun W (hW : Ks W v l) => zia v l W hW hT hL)
 have KF:=veil (fun W (hW : Ks W v l) => find_calls v l id at_ W hW hL)
 have HV:=veil hF
 obtain ⟨F,hFc⟩ : ∃ F,F = findC l id at_:=⟨_,rfl⟩
 rw [← hFc]
 unfold findC at hFc
 clear hF hT hL
 go_enter Tryz.func9,Tryz.ntmps9
 go_upto_region 1 with (fail)
 obtain ⟨g,hg⟩ : ∃ g,g = w.heap.size:=⟨_,rfl⟩
 obtain ⟨w0,hw0⟩ : ∃ W,W = w.alloc (.cells PZ 29):=⟨_,rfl⟩
 have h0:=zar w (.cells PZ 29)
 have hE0:=Ext.alloc w (.cells PZ 29)
 rw [← hw0] at hE0
 rw [← hw0,← hg] at h0
 have H0:=veil (And.intro hE0 (And.intro h0 (show w.heap.size ≤ g by omega)))
 unfold PZ at hw0
 rw [← hw0,← hg]
 clear hw0 hg h0 hE0
 generalize mayK l = r at *
 generalize findK l id at_ = R at *
 cases r with
 | false =>
  obtain rfl : F = none:=hFc
  go_upto_region 2 with (go_at_call 10; refine (KM.out _ (HV.out.ext H0.out.1)).mono ?_; rintro e w1 ⟨rfl,hE1⟩)
  have H1:=veil (And.intro hE1 (hE1.block H0.out.2.1))
  clear hE1
  go_wp2_with ((with_reducible refine zap ?_); refine wpList_store_row rfl 29 _ _ rfl g PZ rfl rfl 29 _ H1.out.2 iPZ rfl pz_one ?_)
  refine bodyPost_ret (zay rfl _ _ g 29 PZ (0,0) _ rfl (setRow_heap w1 g _ PZ 29 (0,0) H1.out.2) Tryz.underlying29 rfl iPZ) rfl ⟨by rw [pz_qc]; rfl,zat (H0.out.1.trans H1.out.1) H0.out.2.2 _⟩
 | true =>
  obtain rfl : F = R:=hFc
  go_upto_region 3 with (go_at_call 10; refine (KM.out _ (HV.out.ext H0.out.1)).mono ?_; rintro e w1 ⟨rfl,hE1⟩)
  have H1:=veil (H0.out.1.trans hE1)
  have H2:=veil hE1
  clear hE1
  have KF2:=veil (KF.out w1 (HV.out.ext H1.out))
  obtain ⟨C,hC⟩ : ∃ C,C = qO F:=⟨_,rfl⟩
  have HC:=veil (And.intro (show (Tryz.prog.info? 29).map (·.size) = some C.size by rw [hC]; exact ziv F) (And.intro (show PZ.size = C.size by rw [hC]; exact zkp F) (And.intro (show C.all (·.oneCell') = true by rw [hC]; exact qO_one F) hC)))
  rw [← hC] at KF2
  clear KF hC
  go_wp2_with (first
   | (go_at_call 22; refine KF2.out.mono ?_; rintro e w2 ⟨rfl,hE2⟩; have H3:=veil (H2.out.trans hE2); have H4:=veil (H3.out.block H0.out.2.1))
   | ((with_reducible refine zap ?_); refine wpList_store_row rfl 29 _ _ rfl g C rfl rfl 29 _ H4.out HC.out.1 HC.out.2.1 HC.out.2.2.1 ?_))
  refine bodyPost_ret (zay rfl _ _ g 29 C (0,0) _ rfl (setRow_heap w2 g _ C 29 (0,0) H4.out) Tryz.underlying29 rfl HC.out.1) rfl ⟨by rw [HC.out.2.2.2]; rfl,zat (H0.out.1.trans H3.out) H0.out.2.2 _⟩
theorem add_yes (q r : Pt.Q) (w : World) :
  Calls Tryz.prog 126 #[qvP q.1,qvP r.1] w fun e w' => e = .returned (.tuple #[qvP (Pt.grp.op q r).1,.nilIface]) ∧ Ext w w':=by
 obtain ⟨x1,y1,z1,h1,k1⟩:=lift_rep q.1
 obtain ⟨x2,y2,z2,h2,k2⟩:=plus_rep q.2 r.2 h1
 have k3:=fun (b : Nat) (w : World) (hF : Fp w b) => flat_rep h2 hF
 obtain ⟨t,ht⟩ : ∃ t : Pt.Q,t = Pt.grp.op q r:=⟨_,rfl⟩
 have ht2 : Pt.E256.add q.1 r.1 = t.1:=by rw [ht]; rfl
 rw [ht2] at k3
 rw [← ht]
 have K1:=veil k1
 have K2:=veil k2
 have K3:=veil k3
 clear k1 k2 k3 h1 h2 ht ht2
 unfold qvP qv qc
 go_enter Tryz.func126,Tryz.ntmps126
 go_upto_region 1 with (fail)
 refine zfj fun w1 hx b0 b1 b2 => ?_
 have b0 : w1.heap[w.heap.size]? = some (.cells (qc (Pt.pX q.1) (Pt.pY q.1) (Pt.pFar q.1)) 29 (0,0)):=b0
 have b1 : w1.heap[w.heap.size + 1]? = some (.cells (qc (Pt.pX r.1) (Pt.pY r.1) (Pt.pFar r.1)) 29 (0,0)):=b1
 refine wp_region_lit ?_
 refine zfi (R:=fun v W' => ∃ b,v = cv b ∧ Fp W' b ∧ Ext w1 W') rfl rfl rfl (fun W => zad Tryz.func77 rfl rfl _ W) ((zik w1).mono fun e W' ⟨b,he,hF,hE⟩ => ⟨_,he,b,rfl,hF,hE⟩) ?_
 rintro v w2 ⟨b,rfl,hf,hE⟩
 simp only [aP,lA,lZ,lS]
 replace b0:=hE.block b0
 replace b1:=hE.block b1
 replace b2:=hE.block b2
 replace hx:=hx.trans hE
 clear hE
 refine zdn _ _ rfl rfl rfl rfl rfl rfl (hzK ·) (fun _ => rfl) (fun _ => rfl) (iK _) rfl (cc_one _) ?_
 intro gc w3 hgc bc hE
 replace b0:=hE.block b0
 replace b1:=hE.block b1
 replace b2:=hE.block b2
 replace hf:=hf.ext hE
 replace hx:=hx.trans hE
 clear hE
 simp only [aP,lA,lZ,lS]
 clear hgc
 refine wpList_nil ?_
 go_upto_region 2 with (fail)
 refine' zdd (m:=10) (A:=_) ?h1 ?h2
 case h1 =>
  refine zab (cv b) rfl (zag rfl rfl bc rfl Tryz.underlying126 rfl (iK _)) ?_
  refine zab (qv (Pt.pX q.1) (Pt.pY q.1) (Pt.pFar q.1)) rfl (zag rfl rfl b0 rfl Tryz.underlying29 rfl (iT _ _ _)) ?_;simp only [aP,lA,lZ,lS]
  refine zab (.bool true) rfl (zak (args:=[cv b,qv (Pt.pX q.1) (Pt.pY q.1) (Pt.pFar q.1)]) rfl rfl (fun W => zad Tryz.func78 rfl rfl _ W) (fun W hW => on_yes q (hf.ext hW))) ?_
  refine zab (.bool false) rfl (zbg rfl rfl rfl) ?_;simp only [aP,lA,lZ,lS]
  refine zab (.bool false) rfl (zaj (.inl rfl) rfl) ?_
  refine zam (cv b) rfl (zag rfl rfl bc rfl Tryz.underlying126 rfl (iK _)) ?_;simp only [aP,lA,lZ,lS]
  refine zam (qv (Pt.pX r.1) (Pt.pY r.1) (Pt.pFar r.1)) rfl (zag rfl rfl b1 rfl Tryz.underlying29 rfl (iT _ _ _)) ?_
  refine zam (.bool true) rfl (zak (args:=[cv b,qv (Pt.pX r.1) (Pt.pY r.1) (Pt.pFar r.1)]) rfl rfl (fun W => zad Tryz.func78 rfl rfl _ W) (fun W hW => on_yes r (hf.ext hW))) ?_;simp only [aP,lA,lZ,lS]
  refine zam (.bool false) rfl (zbg rfl rfl rfl) ?_
  refine zab (.bool false) rfl (zax rfl rfl rfl) ?_;simp only [aP,lA,lZ,lS]
  exact zaw
 refine zbi rfl ?_
 intro w4 hE
 replace b0:=hE.block b0
 replace b1:=hE.block b1
 replace b2:=hE.block b2
 replace bc:=hE.block bc
 replace hf:=hf.ext hE
 replace hx:=hx.trans hE
 clear hE
 go_upto_region 4 with (fail)
 refine' zet (m:=7) (A:=_) 7 (by kernel_rfl) (by kernel_rfl) (by kernel_rfl) ?h2a ?h2b
 case h2a =>
  refine zab (cv b) rfl (zag rfl rfl bc rfl Tryz.underlying126 rfl (iK _)) ?_
  refine zab (cv b) rfl (zag rfl rfl bc rfl Tryz.underlying126 rfl (iK _)) ?_;simp only [aP,lA,lZ,lS]
  refine zab (qv (Pt.pX q.1) (Pt.pY q.1) (Pt.pFar q.1)) rfl (zag rfl rfl b0 rfl Tryz.underlying29 rfl (iT _ _ _)) ?_
  refine zab (sv x1.val y1.val z1.val) rfl (zak (args:=[qv (Pt.pX q.1) (Pt.pY q.1) (Pt.pFar q.1)]) rfl rfl (fun W => zad Tryz.func144 rfl rfl _ W) (fun W hW => K1.out W)) ?_;simp only [aP,lA,lZ,lS]
  refine zab (qv (Pt.pX r.1) (Pt.pY r.1) (Pt.pFar r.1)) rfl (zag rfl rfl b1 rfl Tryz.underlying29 rfl (iT _ _ _)) ?_
  refine zab (sv x2.val y2.val z2.val) rfl (zak (args:=[cv b,sv x1.val y1.val z1.val,qv (Pt.pX r.1) (Pt.pY r.1) (Pt.pFar r.1)]) rfl rfl (fun W => zad Tryz.func147 rfl rfl _ W) (fun W hW => K2.out _ _ (hf.ext hW))) ?_;simp only [aP,lA,lZ,lS]
  refine zab (qv (Pt.pX t.1) (Pt.pY t.1) (Pt.pFar t.1)) rfl (zak (args:=[cv b,sv x2.val y2.val z2.val]) rfl rfl (fun W => zad Tryz.func148 rfl rfl _ W) (fun W hW => K3.out _ _ (hf.ext hW))) ?_;simp only [aP,lA,lZ,lS]
  exact zaw
 refine rest_store1 _ _ rfl rfl rfl rfl rfl rfl rfl rfl rfl (by kernel_rfl) (by kernel_rfl) (by kernel_rfl) rfl rfl rfl rfl rfl b2 (iT _ _ _) rfl (zcz _ _ _) ?_
 intro w5 hB hb
 refine NoPanic.normal ?_
 simp only [aP,lA,lZ,lS]
 go_wp2
 exact bodyPost_ret (zck rfl _ _ (w.heap.size + 1 + 1) 29 (qc (Pt.pX t.1) (Pt.pY t.1) (Pt.pFar t.1)) (0,0) _ rfl hb Tryz.underlying29 rfl (iT _ _ _)) rfl ⟨rfl,hx.new hB (by omega)⟩
theorem mul_yes (K : Nat) (hK : K < top) (q : Pt.Q) (w : World) :
  Calls Tryz.prog 125 #[nv K,qvP q.1] w fun e w' => e = .returned (.tuple #[qvP (Pt.grp.mul K q).1,.nilIface]) ∧ Ext w w':=by
 have hL : bitLen K ≤ 256:=bl_le hK
 have hE0 : K / 2 ^ bitLen K = 0:=bl_div K
 have HT:=veil hK
 obtain ⟨x0,y0,z0,h0,k0⟩:=lift_rep none
 have K0:=veil k0
 clear hK k0
 unfold nv nc qvP qv qc
 go_enter Tryz.func125,Tryz.ntmps125
 go_upto_region 1 with (fail)
 refine zfj fun w1 hx b0 b1 b2 => ?_
 have b0 : w1.heap[w.heap.size]? = some (.cells (nc K) 27 (0,0)):=b0
 have b1 : w1.heap[w.heap.size + 1]? = some (.cells (qc (Pt.pX q.1) (Pt.pY q.1) (Pt.pFar q.1)) 29 (0,0)):=b1
 refine wp_region_lit ?_
 refine zfi (R:=fun v W' => ∃ b,v = cv b ∧ Fp W' b ∧ Ext w1 W') rfl rfl rfl (fun W => zad Tryz.func77 rfl rfl _ W) ((zik w1).mono fun e W' ⟨b,he,hF,hE⟩ => ⟨_,he,b,rfl,hF,hE⟩) ?_
 rintro v w2 ⟨b,rfl,hf,hE⟩
 simp only [aP,lA,lZ,lS]
 replace b0:=hE.block b0
 replace b1:=hE.block b1
 replace b2:=hE.block b2
 replace hx:=hx.trans hE
 clear hE
 refine zdn _ _ rfl rfl rfl rfl rfl rfl (hzK ·) (fun _ => rfl) (fun _ => rfl) (iK _) rfl (cc_one _) ?_
 intro gc w3 hgc bc hE
 replace b0:=hE.block b0
 replace b1:=hE.block b1
 replace b2:=hE.block b2
 replace hf:=hf.ext hE
 replace hx:=hx.trans hE
 clear hE
 simp only [aP,lA,lZ,lS]
 clear hgc
 refine wpList_nil ?_
 go_upto_region 2 with (fail)
 refine' zbc (m:=4) (A:=_) (by kernel_rfl) ?h1 ?h2
 case h1 =>
  refine zab (cv b) rfl (zag rfl rfl bc rfl Tryz.underlying126 rfl (iK _)) ?_
  refine zab (qv (Pt.pX q.1) (Pt.pY q.1) (Pt.pFar q.1)) rfl (zag rfl rfl b1 rfl Tryz.underlying29 rfl (iT _ _ _)) ?_;simp only [aP,lA,lZ,lS]
  refine zab (.bool true) rfl (zak (args:=[cv b,qv (Pt.pX q.1) (Pt.pY q.1) (Pt.pFar q.1)]) rfl rfl (fun W => zad Tryz.func78 rfl rfl _ W) (fun W hW => on_yes q (hf.ext hW))) ?_
  refine zab (.bool false) rfl (zbg rfl rfl rfl) ?_;simp only [aP,lA,lZ,lS]
  exact zaw
 refine zbi rfl ?_
 intro w4 hE
 replace b0:=hE.block b0
 replace b1:=hE.block b1
 replace b2:=hE.block b2
 replace bc:=hE.block bc
 replace hf:=hf.ext hE
 replace hx:=hx.trans hE
 clear hE
 go_upto_region 4 with (fail)
 refine' zbc (m:=2) (A:=_) (by kernel_rfl) ?h2a ?h2b
 case h2a =>
  refine zab (qv 0 0 true) rfl (zcd rfl rfl (bldTF ·)) ?_
  refine zab (sv x0.val y0.val z0.val) rfl (zak (args:=[qv 0 0 true]) rfl rfl (fun W => zad Tryz.func144 rfl rfl _ W) (fun W hW => K0.out W)) ?_;simp only [aP,lA,lZ,lS]
  exact zaw
 refine prest_var _ _ rfl rfl rfl rfl rfl rfl rfl (hzS ·) (fun _ => rfl) (fun _ => rfl) (iS _ _ _) rfl (sc_one _ _ _) ?_
 intro gs w5 hgs bs hE
 have hls : w.heap.size ≤ gs:=Nat.le_trans (Below.size hx) hgs
 replace b0:=hE.block b0
 replace b1:=hE.block b1
 replace b2:=hE.block b2
 replace bc:=hE.block bc
 replace hf:=hf.ext hE
 replace hx:=hx.trans hE
 clear hE
 simp only [aP,lA,lZ,lS]
 clear hgs
 go_upto_region 5 with (fail)
 replace h0 : Rep x0 y0 z0 (Pt.grp.mul (K / 2 ^ bitLen K) q).1:=by rw [hE0]; exact h0
 obtain ⟨N,hN⟩ : ∃ N,N = bitLen K:=⟨_,rfl⟩
 have HN:=veil hN
 rw [← hN] at h0 hL
 clear hE0 hN
 have hNi : (0 : Int) ≤ (N : Int):=by omega
 refine wp_region_lit ?_
 refine wpl_load rfl rfl rfl b0 rfl uN rfl (iN K) ?_
 simp only [aP,lA,lZ,lS]
 refine zfi (R:=fun v W' => v = .int .i64 (N : Int) ∧ Ext w5 W') rfl rfl rfl (fun W => zad Tryz.func145 rfl rfl _ W) ((klen K N (by rw [HN.out]) HT.out w5).mono fun e W' ⟨he,hE⟩ => ⟨_,he,rfl,hE⟩) ?_
 rintro v w6 ⟨rfl,hE⟩
 replace b0:=hE.block b0
 replace b1:=hE.block b1
 replace b2:=hE.block b2
 replace bc:=hE.block bc
 replace bs:=hE.block bs
 replace hf:=hf.ext hE
 replace hx:=hx.trans hE
 clear hE
 simp only [aP,lA,lZ,lS]
 go_wp2
 clear HN hNi K0
 go_loopw [8] (fun v8 wr => ∃ j : Nat,j ≤ 256 ∧ v8 = .int .i64 ((j : Int) - 1) ∧ (∃ x y z : Fe,Rep x y z (Pt.grp.mul (K / 2 ^ j) q).1 ∧ wr.heap[gs]? = some (.cells (sc x.val y.val z.val) 177 (0,0))) ∧ wr.heap[w.heap.size]? = some (.cells (nc K) 27 (0,0)) ∧ wr.heap[w.heap.size + 1]? = some (.cells (qc (Pt.pX q.1) (Pt.pY q.1) (Pt.pFar q.1)) 29 (0,0)) ∧ (∃ c2,wr.heap[w.heap.size + 1 + 1]? = some (.cells c2 29 (0,0)) ∧ c2.size = 9) ∧ wr.heap[gc]? = some (.cells (cc b) 126 (0,0)) ∧ Fp wr b ∧ Ext w wr)
  (fun v8 _ => (intOf v8 + 1).toNat)
 case atStart => exact ⟨N,hL,by go_num,⟨x0,y0,z0,h0,bs⟩,b0,b1,⟨_,b2,rfl⟩,bc,hf,hx⟩
 case round =>
  clear b0 b1 b2 bc bs hf hx h0 hL
  obtain ⟨j,hj,hi,⟨x,y,z,hR,bs⟩,b0,b1,⟨c2,b2,hc2⟩,bc,hf,hx⟩:=hrel
  cases j with
  | zero =>
   obtain rfl : _ = Value.int .i64 (-1):=hi.trans (by congr 1)
   have e1 : Pt.grp.mul (K / 2 ^ 0) q = Pt.grp.mul K q:=by rw [Nat.pow_zero,Nat.div_one]
   rw [e1] at hR
   obtain ⟨t,ht⟩ : ∃ t : Pt.Q,t = Pt.grp.mul K q:=⟨_,rfl⟩
   rw [← ht] at hR
   have HTT:=veil ht
   have KF:=veil (fun (b : Nat) (w : World) (hF : Fp w b) => flat_rep hR hF)
   clear hi e1 ht
   go_upto_region 11 with (fail)
   refine' zbc (m:=3) (A:=_) (by kernel_rfl) ?h3a ?h3b
   case h3a =>
    refine zab (cv b) rfl (zag rfl rfl bc rfl Tryz.underlying126 rfl (iK _)) ?_
    refine zab (sv x.val y.val z.val) rfl (zag rfl rfl bs rfl Tryz.underlying177 rfl (iS _ _ _)) ?_;simp only [aP,lA,lZ,lS]
    refine zab (qv (Pt.pX t.1) (Pt.pY t.1) (Pt.pFar t.1)) rfl (zak (args:=[cv b,sv x.val y.val z.val]) rfl rfl (fun W => zad Tryz.func148 rfl rfl _ W) (fun W hW => KF.out _ _ (hf.ext hW))) ?_;simp only [aP,lA,lZ,lS]
    exact zaw
   refine zfn _ rfl rfl rfl rfl rfl rfl b2 (iT _ _ _) hc2 (zcz _ _ _) ?_
   intro w7 hB hb
   go_wp2
   rw [← HTT.out]
   exact bodyPost_ret (zck rfl _ _ (w.heap.size + 1 + 1) 29 (qc (Pt.pX t.1) (Pt.pY t.1) (Pt.pFar t.1)) (0,0) _ rfl hb Tryz.underlying29 rfl (iT _ _ _)) rfl ⟨rfl,hx.new hB (by omega)⟩
  | succ m =>
   obtain rfl : _ = Value.int .i64 (m : Int):=hi.trans (by congr 1; omega)
   have hm : m < 256:=by omega
   clear hi
   have hmi : (0 : Int) ≤ (m : Int):=by omega
   obtain ⟨R0,hR0⟩ : ∃ R,R = Pt.grp.mul (K / 2 ^ (m + 1)) q:=⟨_,rfl⟩
   rw [← hR0] at hR
   have HR0:=veil hR0
   clear hR0
   obtain ⟨x1,y1,z1,h1,k1⟩:=twice_rep R0.2 hR
   obtain ⟨R1,hR1⟩ : ∃ R,R = Pt.grp.op R0 R0:=⟨_,rfl⟩
   have HR1:=veil hR1
   replace h1 : Rep x1 y1 z1 R1.1:=by rw [hR1]; exact h1
   have K1:=veil k1
   clear hR1 k1 hR
   have hgs : gs < wr.heap.size:=(Array.getElem?_eq_some_iff.1 bs).1
   have hgs0 : gs ≠ w.heap.size:=fun e => (by rw [e,b0] at bs; injection bs with bs; injection bs with _ bs; exact absurd bs (by decide))
   have hgs1 : gs ≠ w.heap.size + 1:=fun e => (by rw [e,b1] at bs; injection bs with bs; injection bs with _ bs; exact absurd bs (by decide))
   have hgs2 : gs ≠ w.heap.size + 1 + 1:=fun e => (by rw [e,b2] at bs; injection bs with bs; injection bs with _ bs; exact absurd bs (by decide))
   have hgsc : gs ≠ gc:=fun e => (by rw [e,bc] at bs; injection bs with bs; injection bs with _ bs; exact absurd bs (by decide))
   have hgsb : b ≠ gs:=fun e => (by obtain ⟨_,_,_,h2⟩:=hf; have h3:=blkOf h2; rw [e,bs] at h3; injection h3 with h3; injection h3 with _ h3; exact absurd h3 (by decide))
   go_upto_region 8 with (fail)
   refine' zbc (m:=3) (A:=_) (by kernel_rfl) ?h4a ?h4b
   case h4a =>
    refine zab (cv b) rfl (zag rfl rfl bc rfl Tryz.underlying126 rfl (iK _)) ?_
    refine zab (sv x.val y.val z.val) rfl (zag rfl rfl bs rfl Tryz.underlying177 rfl (iS _ _ _)) ?_;simp only [aP,lA,lZ,lS]
    refine zab (sv x1.val y1.val z1.val) rfl (zak (args:=[cv b,sv x.val y.val z.val]) rfl rfl (fun W => zad Tryz.func146 rfl rfl _ W) (fun W hW => K1.out _ _ (hf.ext hW))) ?_;simp only [aP,lA,lZ,lS]
    exact zaw
   refine zda _ rfl rfl rfl rfl rfl rfl bs (iS _ _ _) rfl (sc_one _ _ _) ?_
   intro w8 hB hb
   replace b0:=zff hB b0 hgs0.symm
   replace b1:=zff hB b1 hgs1.symm
   replace b2:=zff hB b2 hgs2.symm
   replace bc:=zff hB bc hgsc.symm
   replace hf:=hf.but hB hgsb
   replace hx:=hx.new hB hls
   clear hB bs
   have bs:=hb
   clear hb
   go_upto_region 9 with (fail)
   by_cases hbit : bit K m = true
   ·
    have HBIT:=veil hbit
    obtain ⟨x2,y2,z2,h2,k2⟩:=plus_rep R1.2 q.2 h1
    obtain ⟨R2,hR2⟩ : ∃ R,R = Pt.grp.op R1 q:=⟨_,rfl⟩
    have HR2:=veil hR2
    replace h2 : Rep x2 y2 z2 R2.1:=by rw [hR2]; exact h2
    have K2:=veil k2
    clear hR2 k2 h1
    clear hbit
    refine' zbc (m:=3) (A:=_) (by kernel_rfl) ?h5a ?h5b
    case h5a =>
     refine zab (nv K) rfl (zag rfl rfl b0 rfl uN rfl (iN _)) ?_
     refine zab (.int .i64 (m : Int)) rfl (zaj (.inl rfl) rfl) ?_;simp only [aP,lA,lZ,lS]
     refine zab (.bool true) rfl (zak (args:=[nv K,.int .i64 (m : Int)]) rfl rfl (fun W => zad Tryz.func120 rfl rfl _ W) (fun W hW => kbit K m true HBIT.out hm W)) ?_;simp only [aP,lA,lZ,lS]
     exact zaw
    refine zbi rfl ?_
    intro w9 hE
    replace b0:=hE.block b0
    replace b1:=hE.block b1
    replace b2:=hE.block b2
    replace bc:=hE.block bc
    replace bs:=hE.block bs
    replace hf:=hf.ext hE
    replace hx:=hx.trans hE
    clear hE
    go_upto_region 10 with (fail)
    refine' zbc (m:=4) (A:=_) (by kernel_rfl) ?h6a ?h6b
    case h6a =>
     refine zab (cv b) rfl (zag rfl rfl bc rfl Tryz.underlying126 rfl (iK _)) ?_
     refine zab (sv x1.val y1.val z1.val) rfl (zag rfl rfl bs rfl Tryz.underlying177 rfl (iS _ _ _)) ?_;simp only [aP,lA,lZ,lS]
     refine zab (qv (Pt.pX q.1) (Pt.pY q.1) (Pt.pFar q.1)) rfl (zag rfl rfl b1 rfl Tryz.underlying29 rfl (iT _ _ _)) ?_
     refine zab (sv x2.val y2.val z2.val) rfl (zak (args:=[cv b,sv x1.val y1.val z1.val,qv (Pt.pX q.1) (Pt.pY q.1) (Pt.pFar q.1)]) rfl rfl (fun W => zad Tryz.func147 rfl rfl _ W) (fun W hW => K2.out _ _ (hf.ext hW))) ?_;simp only [aP,lA,lZ,lS]
     exact zaw
    refine zda _ rfl rfl rfl rfl rfl rfl bs (iS _ _ _) rfl (sc_one _ _ _) ?_
    intro w10 hB hb
    replace b0:=zff hB b0 hgs0.symm
    replace b1:=zff hB b1 hgs1.symm
    replace b2:=zff hB b2 hgs2.symm
    replace bc:=zff hB bc hgsc.symm
    replace hf:=hf.but hB hgsb
    replace hx:=hx.new hB hls
    clear hB bs
    have bs:=hb
    clear hb
    go_wp2
    go_roundw
    case rel => exact ⟨m,by omega,by go_num,⟨x2,y2,z2,by rw [zgz,if_pos HBIT.out,← HR0.out,← HR1.out,← HR2.out]; exact h2,bs⟩,b0,b1,⟨c2,b2,hc2⟩,bc,hf,hx⟩
    case measure => simp [intOf]
   ·
    have hbit : bit K m = false:=by simpa using hbit
    have HBIT:=veil hbit
    clear hbit
    refine' zbc (m:=3) (A:=_) (by kernel_rfl) ?h7a ?h7b
    case h7a =>
     refine zab (nv K) rfl (zag rfl rfl b0 rfl uN rfl (iN _)) ?_
     refine zab (.int .i64 (m : Int)) rfl (zaj (.inl rfl) rfl) ?_;simp only [aP,lA,lZ,lS]
     refine zab (.bool false) rfl (zak (args:=[nv K,.int .i64 (m : Int)]) rfl rfl (fun W => zad Tryz.func120 rfl rfl _ W) (fun W hW => kbit K m false HBIT.out hm W)) ?_;simp only [aP,lA,lZ,lS]
     exact zaw
    refine zbi rfl ?_
    intro w9 hE
    replace b0:=hE.block b0
    replace b1:=hE.block b1
    replace b2:=hE.block b2
    replace bc:=hE.block bc
    replace bs:=hE.block bs
    replace hf:=hf.ext hE
    replace hx:=hx.trans hE
    clear hE
    go_wp2
    go_roundw
    case rel => exact ⟨m,by omega,by go_num,⟨x1,y1,z1,by rw [zgz,HBIT.out,if_neg (by decide),← HR0.out,← HR1.out]; exact h1,bs⟩,b0,b1,⟨c2,b2,hc2⟩,bc,hf,hx⟩
    case measure => simp [intOf]
section
variable {P : Program} {o : Oper} {a : Act} {w : World}
end
theorem hsT (X Y : Nat) (f : Bool) : (#[vI vU 0,vI vU 0,vI vU 0,vI vU 0,vI vU 0,vI vU 0,vI vU 0,vI vU 0,.bool false] : Array Value).size = (qc X Y f).size:=by simp [qc]
theorem parse_no (A : Option Addr) (n c : Nat) (hn : n ≠ 64) (w : World) :
  Calls Tryz.prog 57 #[.slice A n c] w fun e w' => e = .returned (.tuple #[qv 0 0 false,.iface 39 (.int .i64 2)]) ∧ Ext w w':=by
 have hn2 : ¬ (n : Int) = 64:=by omega
 clear hn
 go_enter Tryz.func57,Tryz.ntmps57
 go_upto_region 2 with (fail)
 refine zdp fun w1 hx b0 => ?_
 refine' zbc (m:=2) (A:=_) (by kernel_rfl) ?h1 ?h2
 case h1 =>
  refine zab (qv 0 0 false) rfl (zcd rfl rfl (bldT0 ·)) ?_
  refine zab (.iface 39 (.int .i64 2)) rfl (made_iface rfl (mkErr2 ·)) ?_;simp only [aP,lA,lZ,lS]
  exact zaw
 refine zfn _ rfl rfl rfl rfl rfl rfl b0 (iT _ _ _) (hsT _ _ _) (zcz _ _ _) ?_
 intro w2 hB hb
 go_wp2
 exact bodyPost_ret (zck rfl _ _ (w.heap.size) 29 (qc 0 0 false) (0,0) _ rfl hb Tryz.underlying29 rfl (iT _ _ _)) rfl ⟨rfl,hx.new hB (by omega)⟩
theorem zif {g k : Nat} (hne : k ≠ g) : ∀ (vs : List Value) (o : Nat) (w : World),(w.setCells g o vs).heap[k]? = w.heap[k]?
 | [],_,_ => rfl
 | _ :: r,o,_ => (zif hne r (o + 1) _).trans (Below.heap_setCell _ _ _ _ hne)
theorem Bs.off {w : World} {A : Option Addr} {bs : List Nat} {g o : Nat} {vs : List Value} (h : Bs w A bs) (hne : ∀ b o,A = some ⟨b,o,none⟩ → b ≠ g) : Bs (w.setCells g o vs) A bs :=
 ⟨h.1,h.2.imp id fun ⟨b,o',e,hb,hc⟩ => by
  have hk:=zif (hne b o' e) vs o w
  have hs : b < (w.setCells g o vs).heap.size:=by
   rw [Array.getElem?_eq_getElem hb] at hk
   exact (Array.getElem?_eq_some_iff.1 hk).1
  exact ⟨b,o',e,hs,fun j hj => (World.cell?_of_block (a:=⟨b,o' + j,none⟩) hk).trans (hc j hj)⟩⟩
def KZ : Array Value:=#[.int .i64 0,vI vU 0,vI vU 0,vI vU 0,vI vU 0,vI vU 0,vI vU 0,vI vU 0,vI vU 0,.bool false,.int .i64 0,.int .i64 0]
theorem Pre.cells {g t n : Nat} : ∀ (vs : List Value) (o : Nat) {w : World} {f : Nat → Value},Pre w g t n f → ∃ h,Pre (w.setCells g o vs) g t n h
 | [],_,_,f,p => ⟨f,p⟩
 | v :: r,o,_,_,p => Pre.cells r (o + 1) (p.set o v)
theorem texts_len {bs : List Nat} {many : Nat} {l : List (List Nat)} (h : textsB bs many = some l) {i : Nat} (hi : i < l.length) : (l.getD i []).length ≤ 65535:=by
 unfold textsB at h
 cases hg : getFs bs with
 | none => rw [hg] at h; cases h
 | some fs =>
  rw [hg] at h
  simp only at h
  split at h
  ·
   injection h with h
   subst h
   rw [zcx] at hi
   rw [zfc]
   exact (mayFs_ok (zkv hg).2 hi).2.2.1
  ·
   cases h
theorem texts_parts {bs : List Nat} {l : List (List Nat)} (h : textsB bs 2 = some l) : partsB bs = if (l.getD 1 []).length = 64 then some (l.getD 0 [],sigR (l.getD 1 []),sigS (l.getD 1 [])) else none:=by
 unfold textsB at h
 unfold partsB
 cases hg : getFs bs with
 | none => rw [hg] at h; cases h
 | some fs =>
  rw [hg] at h
  simp only at h ⊢
  split at h
  ·
   rename_i hk
   injection h with h
   subst h
   simp only [zfc]
   by_cases hq : (bsF fs 1).length = 64
   ·
    rw [if_pos hq,if_pos]
    exact ⟨hk.1,hk.2 0 (by decide),hk.2 1 (by decide),hq⟩
   ·
    rw [if_neg hq,if_neg]
    exact fun hn => hq hn.2.2.2
  ·
   cases h
theorem texts_parts_none {bs : List Nat} (h : textsB bs 2 = none) : partsB bs = none:=by
 unfold textsB at h
 unfold partsB
 cases hg : getFs bs with
 | none => rfl
 | some fs =>
  rw [hg] at h
  simp only at h ⊢
  split at h
  ·
   cases h
  ·
   rename_i hn
   rw [if_neg]
   refine fun hk => hn ⟨hk.1,fun i hi => ?_⟩
   match i,hi with
   | 0,_ => exact hk.2.1
   | 1,_ => exact hk.2.2.1
theorem ob_no {A : Option Addr} {m c : Nat} {bs : List Nat} (hm : m = bs.length) (hmc : m ≤ c) (hle : m ≤ 100000000) (h : obB bs = none) (w : World) (hS : Bs w A bs) :
  Calls Tryz.prog 61 #[.slice A m c] w fun e w' => e = .returned (.tuple #[.agg (tkC ⟨0,0,0,0,0⟩),.iface 39 (.int .i64 2)]) ∧ Ext w w' :=
 (zhx A m c bs hm hmc hle w hS).mono fun _ _ ⟨T,ev,he,hE,hA⟩ => by
  rcases hA with ⟨_,rfl,rfl⟩ | ⟨t,h1,_⟩
  ·
   exact ⟨he,hE⟩
  ·
   rw [h] at h1; cases h1
theorem ob_yes {A : Option Addr} {m c : Nat} {bs : List Nat} {t : Tk} (hm : m = bs.length) (hmc : m ≤ c) (hle : m ≤ 100000000) (h : obB bs = some t) (w : World) (hS : Bs w A bs) :
  Calls Tryz.prog 61 #[.slice A m c] w fun e w' => e = .returned (.tuple #[.agg (tkC t),.nilIface]) ∧ Ext w w' :=
 (zhx A m c bs hm hmc hle w hS).mono fun _ _ ⟨T,ev,he,hE,hA⟩ => by
  rcases hA with ⟨h1,_⟩ | ⟨t',h1,rfl,rfl⟩
  ·
   rw [h] at h1; cases h1
  ·
   rw [h] at h1
   injection h1 with h1
   subst h1
   exact ⟨he,hE⟩
theorem open9_calls (C : CodeL) (A : Option Addr) (m c : Nat) (bs : List Nat) (hm : m = bs.length) (hmc : m ≤ c) (hle : m ≤ 100000000) (w : World) (hS : Bs w A bs) :
  Calls Tryz.prog 36 #[.slice A m c] w fun e w' => ∃ T G ev,e = .returned (.tuple #[.agg T,.agg G,ev]) ∧ Ext w w' ∧ OpenC bs T G ev:=by
 have KG:=veil (fun W (hW : Bs W A bs) => tget_calls A m c bs 2 hm hmc hle (by decide) W hW)
 have k2:=neNil2
 have k3:=neNilN
 have HB:=veil hS
 clear hm hmc hle hS
 go_enter Tryz.func36,Tryz.ntmps36
 go_upto_region 1 with (fail)
 obtain ⟨g2,hg2⟩ : ∃ g,g = w.heap.size:=⟨_,rfl⟩
 obtain ⟨g3,hg3⟩ : ∃ g,g = w.heap.size + 1:=⟨_,rfl⟩
 obtain ⟨w0,hw0⟩ : ∃ W,W = (w.alloc (.cells TZ 47)).alloc (.cells Z8 78):=⟨_,rfl⟩
 have h2:=(zbk w (.cells TZ 47) (.cells Z8 78)).1
 have h3:=(zbk w (.cells TZ 47) (.cells Z8 78)).2
 have hE0:=zfk w (.cells TZ 47) (.cells Z8 78)
 rw [← hw0,← hg2] at h2
 rw [← hw0,← hg3] at h3
 rw [← hw0] at hE0
 have H0:=veil (And.intro hE0 (And.intro h2 (And.intro h3 (And.intro (show w.heap.size ≤ g2 by omega) (show g2 < g3 by omega)))))
 unfold TZ Z8 at hw0
 rw [← hw0,← hg3,← hg2]
 clear hw0 hg3 hg2 hE0 h2 h3
 go_upto_region 2 with (go_at_call 60; refine (KG.out w0 (HB.out.ext H0.out.1)).mono ?_; rintro e w1 ⟨x,ev,rfl,hE1,hA⟩)
 have H1:=veil (And.intro (H0.out.1.trans hE1) (And.intro (hE1.block H0.out.2.1) (And.intro (hE1.block H0.out.2.2.1) H0.out.2.2.2)))
 clear hE1 H0 KG
 rcases hA with ⟨hn,⟨A2,c2,rfl⟩,rfl⟩ | ⟨l,hs,hl2,hV,rfl⟩
 ·
  have hr:=zhf (texts_parts_none hn)
  clear hn
  go_wp2_with (first
   | ((with_reducible refine zap ?_); refine wpList_store_row rfl 47 _ _ rfl g2 TZ rfl rfl 47 _ H1.out.2.1 iTZ rfl zci ?_)
   | ((with_reducible refine zap ?_); refine wpList_store_row rfl 78 _ _ rfl g3 Z8 rfl rfl 78 _ (zde TZ H1.out.2.2.1 H1.out.2.2.2.2) iZ8 rfl zfg ?_))
  have hF:=zcr (T:=TZ) (G:=Z8) H1.out.1 H1.out.2.1 H1.out.2.2.1 ⟨H1.out.2.2.2.1,H1.out.2.2.2.2⟩
  refine bodyPost_ret (zbr rfl _ _ g2 g3 47 78 TZ Z8 (0,0) (0,0) _ _ rfl hF.2.1 Tryz.underlying47 rfl iTZ rfl hF.2.2 Tryz.underlying78 rfl iZ8) rfl ⟨_,_,_,rfl,hF.1,.inl ⟨hr,tz_tk,z8_gc,rfl⟩⟩
 ·
  have hpt:=texts_parts hs
  have hx0:=texts_len hs (i:=0) (by omega)
  obtain ⟨_,AL,cl,rfl,hcl,hx⟩:=hV
  rw [hl2] at hx hcl ⊢
  obtain ⟨b,o,hAL,hb,hx⟩:=hx.resolve_left (by decide)
  obtain ⟨A0,k0,c0,hk0,hB0⟩:=hx 0 (by decide)
  obtain ⟨A1,k1,c1,hk1,hB1⟩:=hx 1 (by decide)
  obtain ⟨x0,hx0e⟩ : ∃ x,x = l.getD 0 []:=⟨_,rfl⟩
  obtain ⟨x1,hx1e⟩ : ∃ x,x = l.getD 1 []:=⟨_,rfl⟩
  rw [← hx0e,← hx1e] at hpt
  rw [← hx0e] at c0 hk0 hB0 hx0
  rw [← hx1e] at c1 hk1 hB1
  obtain ⟨L0,hL0⟩ : ∃ L,L = x0.length:=⟨_,rfl⟩
  obtain ⟨L1,hL1⟩ : ∃ L,L = x1.length:=⟨_,rfl⟩
  rw [← hL0] at c0 hk0 hx0
  rw [← hL1] at c1 hk1 hpt
  have HP:=veil hpt
  have HL1:=veil (And.intro hL1 hk1)
  rw [Nat.add_zero] at c0
  subst hAL
  clear hx hs hx0e hx1e hpt
  cases hob : obB x0 with
  | none =>
   have KO:=veil (fun W (hW : Bs W A0 x0) => ob_no hL0 hk0 (by omega) hob W hW)
   have hr : openB bs = none:=by
    have h:=HP.out
    split at h
    ·
     rw [openB_ob h,hob]; rfl
    ·
     exact zhf h
   have HR:=veil hr
   have HB0:=veil hB0
   clear hob hr HP hB0 hB1 hk0 hk1 hx0 hL0 hL1
   go_upto_region 5 with (first
    | (go_at_call 61; refine (KO.out _ HB0.out).mono ?_; rintro e w2 ⟨rfl,hE2⟩)
    | ((with_reducible refine zap ?_); refine wpList_store_row rfl 47 _ _ rfl w2.heap.size (tkC ⟨0,0,0,0,0⟩) rfl rfl 47 _ (zar w2 _) (iTk _) rfl (zbw _) ?_; rw [World.setRow_alloc_new]))
   have hE3:=hE2.trans (Ext.alloc w2 (.cells (tkC ⟨0,0,0,0,0⟩) 47))
   generalize w2.alloc (.cells (tkC ⟨0,0,0,0,0⟩) 47) = w3 at *
   have H3:=veil (And.intro (H1.out.1.trans hE3) (And.intro (hE3.block H1.out.2.1) (And.intro (hE3.block H1.out.2.2.1) trivial)))
   clear hE3 c0 c1 hE2
   go_wp2_with (first
    | ((with_reducible refine zap ?_); refine wpList_store_row rfl 47 _ _ rfl g2 TZ rfl rfl 47 _ H3.out.2.1 iTZ rfl zci ?_)
    | ((with_reducible refine zap ?_); refine wpList_store_row rfl 78 _ _ rfl g3 Z8 rfl rfl 78 _ (zde TZ H3.out.2.2.1 H1.out.2.2.2.2) iZ8 rfl zfg ?_))
   have hF:=zcr (T:=TZ) (G:=Z8) H3.out.1 H3.out.2.1 H3.out.2.2.1 ⟨H1.out.2.2.2.1,H1.out.2.2.2.2⟩
   refine bodyPost_ret (zbr rfl _ _ g2 g3 47 78 TZ Z8 (0,0) (0,0) _ _ rfl hF.2.1 Tryz.underlying47 rfl iTZ rfl hF.2.2 Tryz.underlying78 rfl iZ8) rfl ⟨_,_,_,rfl,hF.1,.inl ⟨HR.out,tz_tk,z8_gc,rfl⟩⟩
  | some t =>
   have KO:=veil (fun W (hW : Bs W A0 x0) => ob_yes hL0 hk0 (by omega) hob W hW)
   have HOB:=veil hob
   have HB0:=veil (And.intro hB0 hB1)
   clear hob hB0 hB1 hk0 hk1 hx0 hL0 hL1
   go_upto_region 5 with (first
    | (go_at_call 61; refine (KO.out _ HB0.out.1).mono ?_; rintro e w2 ⟨rfl,hE2⟩)
    | ((with_reducible refine zap ?_); refine wpList_store_row rfl 47 _ _ rfl w2.heap.size (tkC t) rfl rfl 47 _ (zar w2 _) (iTk _) rfl (zbw _) ?_; rw [World.setRow_alloc_new]))
   have hE3:=hE2.trans (Ext.alloc w2 (.cells (tkC t) 47))
   have h7:=zar w2 (.cells (tkC t) 47)
   generalize w2.alloc (.cells (tkC t) 47) = w3 at *
   generalize w2.heap.size = g7 at *
   have H3:=veil (And.intro (H1.out.1.trans hE3) (And.intro (hE3.block H1.out.2.1) (And.intro (hE3.block H1.out.2.2.1) (And.intro h7 hE3))))
   replace c1:=(hE3.cell hb).trans c1
   clear hE3 h7 c0 hE2 KO
   by_cases h64 : L1 = 64
   ·
    have KP:=veil (fun W (hW : Bs W A1 x1) => C.parse_64 A1 L1 k1 x1 W HL1.out.1 h64 HL1.out.2 hW)
    have hp:=HP.out
    rw [if_pos h64] at hp
    have hr : openB bs = some (t,sigR x1,sigS x1):=by rw [openB_ob hp,HOB.out]; rfl
    have HR:=veil hr
    clear hp hr h64 HP HOB HL1
    go_upto_region 8 with (first
     | (go_at_call 62; refine (KP.out _ (HB0.out.2.ext H3.out.2.2.2.2)).mono ?_; rintro e w4 ⟨rfl,hE4⟩)
     | ((with_reducible refine zap ?_); refine wpList_store_row rfl 78 _ _ rfl w4.heap.size (gc (sigR x1) (sigS x1)) rfl rfl 78 _ (zar w4 _) (iSg _ _) rfl (zcw _ _) ?_; rw [World.setRow_alloc_new]))
    have hE5:=hE4.trans (Ext.alloc w4 (.cells (gc (sigR x1) (sigS x1)) 78))
    have h8:=zar w4 (.cells (gc (sigR x1) (sigS x1)) 78)
    have h38 : g3 < w4.heap.size:=by
     have h:=(Array.getElem?_eq_some_iff.mp (hE4.block H3.out.2.2.1)).1
     omega
    generalize w4.alloc (.cells (gc (sigR x1) (sigS x1)) 78) = w5 at *
    generalize w4.heap.size = g8 at *
    have H7:=veil (And.intro (H3.out.1.trans hE5) (And.intro (hE5.block H3.out.2.1) (And.intro (hE5.block H3.out.2.2.1) (And.intro h8 (And.intro (hE5.block H3.out.2.2.2.1) (And.intro H1.out.2.2.2.1 (And.intro H1.out.2.2.2.2 h38)))))))
    clear hE5 h8 h38 hE4 c1 hb H3 H1 HB0 KP
    go_upto_region 10 with (fail)
    have n26 : g8 ≠ g2:=by have h:=H7.out.2.2.2.2.2.2; omega
    have n32 : g3 ≠ g2:=by have h:=H7.out.2.2.2.2.2.2; omega
    refine wp_tree (by kernel_rfl) fun Q' hQ' => ?_
    refine G_two (i:=0) (j:=1) (by kernel_rfl) ?_ ?_
    ·
     refine G_val _ rfl rfl rfl (fun W hW => zbm rfl rfl (hW.block H7.out.2.2.2.2.1) Tryz.underlying47 rfl (iTk t)) ?_
     simp only [aP,lA,lZ,lS]
     refine G_two (i:=1) (j:=2) (by kernel_rfl) ?_ ?_
     ·
      refine G_val _ rfl rfl rfl (fun W hW => zbm rfl rfl (hW.block (H7.out.2.2.2.1)) Tryz.underlying78 rfl (iSg _ _)) ?_
      simp only [aP,lA,lZ,lS]
      refine G_one (j:=2) (by kernel_rfl) ?_
      refine zds (cells:=tkC t) _ rfl rfl rfl rfl rfl rfl H7.out.2.1 (iTk t) rfl (zbw t) ?_
      intro W8 hB8 h8
      refine G_one (j:=3) (by kernel_rfl) ?_
      refine zds (cells:=gc (sigR x1) (sigS x1)) _ rfl rfl rfl rfl rfl rfl (zgi hB8 H7.out.2.2.1 n32) (iSg _ _) rfl (zcw _ _) ?_
      intro W9 hB9 h9
      refine G_one (j:=4) (by kernel_rfl) ?_
      refine G_val _ rfl rfl rfl (fun W hW => zcp rfl rfl W) ?_
      simp only [aP,lA,lZ,lS]
      refine G_end (by kernel_rfl) hQ' fun W10 hE10 => ?_
      have hF:=zgn H7.out.1 ⟨H7.out.2.2.2.2.2.1,H7.out.2.2.2.2.2.2.1⟩ hB8 h8 hB9 h9 hE10
      clear hB8 h8 hB9 h9 hE10 n26 n32
      go_wp2
      refine bodyPost_ret (zbr rfl _ _ g2 g3 47 78 (tkC t) (gc (sigR x1) (sigS x1)) (0,0) (0,0) _ _ rfl hF.2.1 Tryz.underlying47 rfl (iTk t) rfl hF.2.2 Tryz.underlying78 rfl (iSg _ _)) rfl ⟨_,_,_,rfl,hF.1,.inr ⟨_,_,_,HR.out,rfl,rfl,rfl⟩⟩
     ·
      refine zds (cells:=tkC t) _ rfl rfl rfl rfl rfl rfl H7.out.2.1 (iTk t) rfl (zbw t) ?_
      intro W8 hB8 h8
      refine G_one (j:=1) (by kernel_rfl) ?_
      refine G_val _ rfl rfl rfl (fun W hW => zbm rfl rfl (hW.block (zgi hB8 H7.out.2.2.2.1 n26)) Tryz.underlying78 rfl (iSg _ _)) ?_
      simp only [aP,lA,lZ,lS]
      refine G_one (j:=3) (by kernel_rfl) ?_
      refine zds (cells:=gc (sigR x1) (sigS x1)) _ rfl rfl rfl rfl rfl rfl (zgi hB8 H7.out.2.2.1 n32) (iSg _ _) rfl (zcw _ _) ?_
      intro W9 hB9 h9
      refine G_one (j:=4) (by kernel_rfl) ?_
      refine G_val _ rfl rfl rfl (fun W hW => zcp rfl rfl W) ?_
      simp only [aP,lA,lZ,lS]
      refine G_end (by kernel_rfl) hQ' fun W10 hE10 => ?_
      have hF:=zgn H7.out.1 ⟨H7.out.2.2.2.2.2.1,H7.out.2.2.2.2.2.2.1⟩ hB8 h8 hB9 h9 hE10
      clear hB8 h8 hB9 h9 hE10 n26 n32
      go_wp2
      refine bodyPost_ret (zbr rfl _ _ g2 g3 47 78 (tkC t) (gc (sigR x1) (sigS x1)) (0,0) (0,0) _ _ rfl hF.2.1 Tryz.underlying47 rfl (iTk t) rfl hF.2.2 Tryz.underlying78 rfl (iSg _ _)) rfl ⟨_,_,_,rfl,hF.1,.inr ⟨_,_,_,HR.out,rfl,rfl,rfl⟩⟩
    ·
     refine G_val _ rfl rfl rfl (fun W hW => zbm rfl rfl (hW.block (H7.out.2.2.2.1)) Tryz.underlying78 rfl (iSg _ _)) ?_
     simp only [aP,lA,lZ,lS]
     refine G_one (j:=0) (by kernel_rfl) ?_
     refine G_val _ rfl rfl rfl (fun W hW => zbm rfl rfl (hW.block H7.out.2.2.2.2.1) Tryz.underlying47 rfl (iTk t)) ?_
     simp only [aP,lA,lZ,lS]
     refine G_one (j:=2) (by kernel_rfl) ?_
     refine zds (cells:=tkC t) _ rfl rfl rfl rfl rfl rfl H7.out.2.1 (iTk t) rfl (zbw t) ?_
     intro W8 hB8 h8
     refine G_one (j:=3) (by kernel_rfl) ?_
     refine zds (cells:=gc (sigR x1) (sigS x1)) _ rfl rfl rfl rfl rfl rfl (zgi hB8 H7.out.2.2.1 n32) (iSg _ _) rfl (zcw _ _) ?_
     intro W9 hB9 h9
     refine G_one (j:=4) (by kernel_rfl) ?_
     refine G_val _ rfl rfl rfl (fun W hW => zcp rfl rfl W) ?_
     simp only [aP,lA,lZ,lS]
     refine G_end (by kernel_rfl) hQ' fun W10 hE10 => ?_
     have hF:=zgn H7.out.1 ⟨H7.out.2.2.2.2.2.1,H7.out.2.2.2.2.2.2.1⟩ hB8 h8 hB9 h9 hE10
     clear hB8 h8 hB9 h9 hE10 n26 n32
     go_wp2
     refine bodyPost_ret (zbr rfl _ _ g2 g3 47 78 (tkC t) (gc (sigR x1) (sigS x1)) (0,0) (0,0) _ _ rfl hF.2.1 Tryz.underlying47 rfl (iTk t) rfl hF.2.2 Tryz.underlying78 rfl (iSg _ _)) rfl ⟨_,_,_,rfl,hF.1,.inr ⟨_,_,_,HR.out,rfl,rfl,rfl⟩⟩
   ·
    have KP:=veil (fun W => C.parse_no A1 L1 k1 W h64)
    have hp:=HP.out
    rw [if_neg h64] at hp
    have hr:=zhf hp
    have HR:=veil hr
    clear hp hr h64 HP HOB HL1 HB0
    go_upto_region 8 with (first
     | (go_at_call 62; refine (KP.out _).mono ?_; rintro e w4 ⟨rfl,hE4⟩)
     | ((with_reducible refine zap ?_); refine wpList_store_row rfl 78 _ _ rfl w4.heap.size (gc 0 0) rfl rfl 78 _ (zar w4 _) (iSg _ _) rfl (zcw _ _) ?_; rw [World.setRow_alloc_new]))
    have hE5:=hE4.trans (Ext.alloc w4 (.cells (gc 0 0) 78))
    generalize w4.alloc (.cells (gc 0 0) 78) = w5 at *
    have H5:=veil (And.intro (H3.out.1.trans hE5) (And.intro (hE5.block H3.out.2.1) (And.intro (hE5.block H3.out.2.2.1) trivial)))
    clear hE5 hE4 c1
    go_wp2_with (first
     | ((with_reducible refine zap ?_); refine wpList_store_row rfl 47 _ _ rfl g2 TZ rfl rfl 47 _ H5.out.2.1 iTZ rfl zci ?_)
     | ((with_reducible refine zap ?_); refine wpList_store_row rfl 78 _ _ rfl g3 Z8 rfl rfl 78 _ (zde TZ H5.out.2.2.1 H1.out.2.2.2.2) iZ8 rfl zfg ?_))
    have hF:=zcr (T:=TZ) (G:=Z8) H5.out.1 H5.out.2.1 H5.out.2.2.1 ⟨H1.out.2.2.2.1,H1.out.2.2.2.2⟩
    refine bodyPost_ret (zbr rfl _ _ g2 g3 47 78 TZ Z8 (0,0) (0,0) _ _ rfl hF.2.1 Tryz.underlying47 rfl iTZ rfl hF.2.2 Tryz.underlying78 rfl iZ8) rfl ⟨_,_,_,rfl,hF.1,.inl ⟨HR.out,tz_tk,z8_gc,rfl⟩⟩
theorem openC_all {bs : List Nat} {T G : Array Value} {ev : Value} (h : OpenC bs T G ev) : ∃ t r s,T = tkC t ∧ G = gc r s ∧ ((openB bs = none ∧ ev = .iface 39 (.int .i64 2)) ∨ (openB bs = some (t,r,s) ∧ ev = .nilIface)):=by
 rcases h with ⟨h,rfl,rfl,rfl⟩ | ⟨t,r,s,h,rfl,rfl,rfl⟩
 ·
  exact ⟨_,_,_,rfl,rfl,.inl ⟨h,rfl⟩⟩
 ·
  exact ⟨_,_,_,rfl,rfl,.inr ⟨h,rfl⟩⟩
theorem bodyA_ok {w' : World} {t : Tk} {x ev : Value} (h : BodyA w' t x ev) (hm : mayT t = true) : ∃ A c,x = .slice A 55 c ∧ 55 ≤ c ∧ Bs w' A (tkB t) ∧ ev = .nilIface:=by
 rcases h with ⟨h,_⟩ | ⟨_,⟨A,c,e,hc,hB⟩,he⟩
 ·
  rw [hm] at h; cases h
 ·
  exact ⟨A,c,e,hc,hB,he⟩
theorem check9_calls (C : CodeL) (X Y : Nat) (f : Bool) (hX : X < top) (hY : Y < top) (A : Option Addr) (m c : Nat) (bs : List Nat) (hm : m = bs.length) (hmc : m ≤ c) (hle : m ≤ 100000000) (w : World) (hK : KT w) (hS : Bs w A bs) :
  Calls Tryz.prog 37 #[.slice A m c,qv X Y f] w fun e w' => e = .returned (.tuple #[tkV (checkB lowL X Y f bs).1,errV (checkB lowL X Y f bs).2]) ∧ Ext w w':=by
 have KO:=veil (fun W => open9_calls C A m c bs hm hmc hle W)
 have k2:=neNil2
 have k3:=neNilN
 have HB:=veil (And.intro hS hK)
 have HX:=veil (And.intro hX hY)
 obtain ⟨Q,hC⟩ : ∃ C,C = qc X Y f:=⟨_,rfl⟩
 have HC:=veil (And.intro hC (And.intro (show (Tryz.prog.info? 29).map (·.size) = some Q.size by rw [hC]; exact iT X Y f) (show Q.all (·.oneCell') = true by rw [hC]; exact zcz X Y f)))
 unfold qv
 rw [← hC]
 clear hm hmc hle hS hX hY hC hK
 go_enter Tryz.func37,Tryz.ntmps37
 go_upto_region 1 with (fail)
 obtain ⟨g3,hg3⟩ : ∃ g,g = w.heap.size:=⟨_,rfl⟩
 obtain ⟨g4,hg4⟩ : ∃ g,g = w.heap.size + 1:=⟨_,rfl⟩
 obtain ⟨w0,hw0⟩ : ∃ W,W = (w.alloc (.cells Q 29)).alloc (.cells TZ 47):=⟨_,rfl⟩
 have h3:=(zbk w (.cells Q 29) (.cells TZ 47)).1
 have h4:=(zbk w (.cells Q 29) (.cells TZ 47)).2
 have hE0:=zfk w (.cells Q 29) (.cells TZ 47)
 rw [← hw0,← hg3] at h3
 rw [← hw0,← hg4] at h4
 rw [← hw0] at hE0
 have H0:=veil (And.intro hE0 (And.intro h3 (And.intro h4 (And.intro (show w.heap.size ≤ g4 by omega) (HB.out.1.ext hE0)))))
 unfold TZ at hw0
 rw [← hw0,← hg4,← hg3]
 clear hw0 hg3 hg4 hE0 h3 h4
 go_upto_region 2 with (first
  | (go_at_call 36; refine (KO.out w0 H0.out.2.2.2.2).mono ?_; rintro e w1 ⟨T,G,ev,rfl,hE1,hA⟩; obtain ⟨t,r,s,rfl,rfl,hY⟩:=openC_all hA)
  | ((with_reducible refine zap ?_); refine wpList_store_row rfl 47 _ _ rfl w1.heap.size (tkC t) rfl rfl 47 _ (zbk w1 _ _).1 (iTk t) rfl (zbw t) ?_)
  | ((with_reducible refine zap ?_); refine wpList_store_row rfl 78 _ _ rfl (w1.heap.size + 1) (gc r s) rfl rfl 78 _ (zde _ (zbk w1 _ _).2 (Nat.lt_succ_self _)) (iSg r s) rfl (zcw r s) ?_))
 have hF:=zcr (T:=tkC t) (G:=gc r s) (zfk w1 (.cells TZ 47) (.cells Z8 78)) (zbk w1 _ _).1 (zbk w1 _ _).2 ⟨Nat.le_refl _,Nat.lt_succ_self _⟩
 have hE0:=H0.out.1.trans hE1
 have h31:=(hE1.trans hF.1).block H0.out.2.1
 have h41:=(hE1.trans hF.1).block H0.out.2.2.1
 have hE2:=hE0.trans hF.1
 have h6:=hF.2.1
 have h7:=hF.2.2
 clear hF hE0 hE1 hA
 obtain ⟨g6,hg6⟩ : ∃ g,g = w1.heap.size:=⟨_,rfl⟩
 obtain ⟨g7,hg7⟩ : ∃ g,g = w1.heap.size + 1:=⟨_,rfl⟩
 rw [← hg7,← hg6] at hE2 h6 h7 h31 h41 ⊢
 obtain ⟨w2,hw2⟩ : ∃ W,W = (((w1.alloc (.cells TZ 47)).alloc (.cells Z8 78)).setRow g6 (tkC t)).setRow g7 (gc r s):=⟨_,rfl⟩
 rw [← hw2] at hE2 h6 h7 h31 h41
 unfold TZ Z8 at hw2
 rw [← hw2]
 have H2:=veil (And.intro hE2 (And.intro h31 (And.intro h41 (And.intro h6 (And.intro h7 H0.out.2.2.2.1)))))
 have HY:=veil hY
 clear hw2 hg6 hg7 hE2 h31 h41 h6 h7 hY KO H0
 rcases HY.out with ⟨hp,rfl⟩ | ⟨hp,rfl⟩
 ·
  have hr:=checkB_none (L:=lowL) (X:=X) (Y:=Y) (f:=f) hp
  clear HY hp
  go_wp2_with ((with_reducible refine zap ?_); refine wpList_store_row rfl 47 _ _ rfl g4 TZ rfl rfl 47 _ H2.out.2.2.1 iTZ rfl zci ?_)
  refine bodyPost_ret (zay rfl _ _ g4 47 TZ (0,0) _ rfl (setRow_heap w2 g4 _ TZ 47 (0,0) H2.out.2.2.1) Tryz.underlying47 rfl iTZ) rfl ⟨by rw [hr]; rfl,zat H2.out.1 H2.out.2.2.2.2.2 _⟩
 ·
  have hr : checkB lowL X Y f bs = if vfL X Y f (dgL (tkB t)) r s = true then (t,0) else (⟨0,0,0,0,0⟩,8):=checkB_some (L:=lowL) (X:=X) (Y:=Y) (f:=f) hp
  have hso:=zhr HB.out.1.1 hp
  have HR:=veil hr
  have HO:=veil hso
  have KB:=veil (fun W => body9_calls t W)
  unfold tkV at KB
  clear HY hp hr hso
  go_upto_region 5 with (first
   | ((with_reducible refine zas 22 ?_); refine wpList_load_row rfl 47 _ rfl g6 rfl 47 (tkC t) (0,0) _ H2.out.2.2.2.1 Tryz.underlying47 rfl (iTk t) ?_)
   | (go_at_call 63; refine (KB.out _).mono ?_; rintro e w4 ⟨x,ev,rfl,hE4,hA⟩; obtain ⟨A2,c2,rfl,hc2,hB4,rfl⟩:=bodyA_ok hA HO.out.2.1))
  have H4:=veil (And.intro (H2.out.1.trans hE4) (And.intro (hE4.block H2.out.2.1) (And.intro (hE4.block H2.out.2.2.1) (And.intro (hE4.block H2.out.2.2.2.1) (And.intro (hE4.block H2.out.2.2.2.2.1) (And.intro H2.out.2.2.2.2.2 hB4))))))
  clear hE4 hB4 H2 KB hA
  obtain ⟨v,hv⟩ : ∃ v,v = vfL X Y f (dgL (tkB t)) r s:=⟨_,rfl⟩
  have KS:=veil (fun W (hW : Ext w4 W) => C.sum A2 55 c2 (tkB t) W (kt_now HB.out.2 (H4.out.1.trans hW)) (tkB_length t).symm hc2 (by decide) (H4.out.2.2.2.2.2.2.ext hW))
  have KV : Hid (∀ W : World,Calls Tryz.prog 64 #[.agg Q,dgv (dgL (tkB t)),.agg (gc r s)] W fun e w' => e = .returned (.bool v) ∧ Ext W w'):=veil (fun W => by
   have h:=C.ver X Y f (dgL (tkB t)) r s W HX.out.1 HX.out.2 (by have:=HO.out.2.2.2.1; exact this) (by have:=HO.out.2.2.2.2; exact this) (dgL_lt _)
   unfold qv gv at h
   rw [← HC.out.1,← hv] at h
   exact h)
  have HV:=veil hv
  clear hv
  refine zfb 6 [(true,[0,1,2,3,4,5])] (by kernel_rfl) (by kernel_rfl) fun Q' hQ' => ?_
  refine' zcj (A:=_) _ rfl (by kernel_rfl) ?h1 ?h2
  case h1 =>
   intro D hD hN
   have K1:=veil (fun x : Gw D => hD.calls (v:=dgv (dgL (tkB t))) (fun W hW => KS.out W hW) x)
   have K2:=veil (fun x : Gw D => hD.calls (v:=.bool v) (fun W _ => KV.out W) x)
   simp only [pickI,consO,List.getElem?_cons_zero,List.getElem?_cons_succ]
   go_big_quiet_want
   refine zcu (.agg Q) (fun x => zbm rfl rfl (hD.block H4.out.2.1 x) Tryz.underlying29 rfl HC.out.2.1) ?_
   simp only [aP,lA,lZ,lS]
   go_big_quiet_on
   iterate 2 (go_big_quiet_step (exact K1.out _))
   go_big_quiet_want
   refine zcu (.agg (gc r s)) (fun x => zbm rfl rfl (hD.block H4.out.2.2.2.2.1 x) Tryz.underlying78 rfl (iSg r s)) ?_
   simp only [aP,lA,lZ,lS]
   go_big_quiet_on
   iterate 2 (go_big_quiet_step (exact K2.out _))
   exact zea
  refine zdx hQ' fun w5 hE5 => ?_
  have H5:=veil (And.intro (H4.out.1.trans hE5) (And.intro (hE5.block H4.out.2.2.1) (And.intro (hE5.block H4.out.2.2.2.1) H4.out.2.2.2.2.2.1)))
  clear hE5 H4 KS KV
  cases v with
  | false =>
   have hr : checkB lowL X Y f bs = (⟨0,0,0,0,0⟩,8):=by rw [HR.out,← HV.out]; rfl
   go_wp2_with ((with_reducible refine zap ?_); refine wpList_store_row rfl 47 _ _ rfl g4 TZ rfl rfl 47 _ H5.out.2.1 iTZ rfl zci ?_)
   refine bodyPost_ret (zay rfl _ _ g4 47 TZ (0,0) _ rfl (setRow_heap w5 g4 _ TZ 47 (0,0) H5.out.2.1) Tryz.underlying47 rfl iTZ) rfl ⟨by rw [hr]; rfl,zat H5.out.1 H5.out.2.2.2 _⟩
  | true =>
   have hr : checkB lowL X Y f bs = (t,0):=by rw [HR.out,← HV.out]; rfl
   go_wp2_with (first
    | ((with_reducible refine zas 34 ?_); refine wpList_load_row rfl 47 _ rfl g6 rfl 47 (tkC t) (0,0) _ H5.out.2.2.1 Tryz.underlying47 rfl (iTk t) ?_)
    | ((with_reducible refine zap ?_); refine wpList_store_row rfl 47 _ _ rfl g4 (tkC t) rfl rfl 47 _ H5.out.2.1 (iTk t) rfl (zbw t) ?_))
   refine bodyPost_ret (zay rfl _ _ g4 47 (tkC t) (0,0) _ rfl (setRow_heap w5 g4 _ (tkC t) 47 (0,0) H5.out.2.1) Tryz.underlying47 rfl (iTk t)) rfl ⟨by rw [hr]; rfl,zat H5.out.1 H5.out.2.2.2 _⟩
theorem kcheck_calls (C : CodeL) (v : Value) (l : List Ky) (at_ : Int) (A : Option Addr) (m c : Nat) (bs : List Nat) (w : World) (hK : KT w) (hF : Ks w v l) (hT : TopK l) (hL : l.length ≤ 1000000000) (hm : m = bs.length) (hmc : m ≤ c) (hle : m ≤ 100000000) (hS : Bs w A bs) :
  Calls Tryz.prog 17 #[v,.slice A m c,.int .i64 at_] w fun e w' => e = .returned (.tuple #[tkV (checkC lowL l bs at_).1,errV (checkC lowL l bs at_).2]) ∧ Ext w w':=by
 have KM:=veil (fun W (hW : Ks W v l) => zia v l W hW hT hL)
 have KO:=veil (fun W => open9_calls C A m c bs hm hmc hle W)
 have KF:=veil (fun id W (hW : Ks W v l) => find_calls v l id at_ W hW hL)
 have KC:=veil (fun X Y f hX hY W hKW => check9_calls C X Y f hX hY A m c bs hm hmc hle W hKW)
 have k2:=neNil2
 have k3:=neNilN
 have HB:=veil (And.intro hF (And.intro hS (And.intro hK hT)))
 obtain ⟨R,hR⟩ : ∃ R,R = checkC lowL l bs at_:=⟨_,rfl⟩
 rw [← hR]
 unfold checkC at hR
 clear hm hmc hle hS hF hT hL hK
 go_enter Tryz.func17,Tryz.ntmps17
 go_upto_region 1 with (fail)
 obtain ⟨g,hg⟩ : ∃ g,g = w.heap.size:=⟨_,rfl⟩
 obtain ⟨w0,hw0⟩ : ∃ W,W = w.alloc (.cells TZ 47):=⟨_,rfl⟩
 have h0:=zar w (.cells TZ 47)
 have hE0:=Ext.alloc w (.cells TZ 47)
 rw [← hw0] at hE0
 rw [← hw0,← hg] at h0
 have H0:=veil (And.intro hE0 (And.intro h0 (show w.heap.size ≤ g by omega)))
 unfold TZ at hw0
 rw [← hw0,← hg]
 clear hw0 hg h0 hE0
 generalize mayK l = r at *
 cases r with
 | false =>
  obtain rfl : R = (⟨0,0,0,0,0⟩,1):=hR
  go_upto_region 2 with (go_at_call 10; refine (KM.out _ (HB.out.1.ext H0.out.1)).mono ?_; rintro e w1 ⟨rfl,hE1⟩)
  have H1:=veil (And.intro (H0.out.1.trans hE1) (hE1.block H0.out.2.1))
  clear hE1
  go_wp2_with ((with_reducible refine zap ?_); refine wpList_store_row rfl 47 _ _ rfl g TZ rfl rfl 47 _ H1.out.2 iTZ rfl zci ?_)
  refine bodyPost_ret (zay rfl _ _ g 47 TZ (0,0) _ rfl (setRow_heap w1 g _ TZ 47 (0,0) H1.out.2) Tryz.underlying47 rfl iTZ) rfl ⟨rfl,zat H1.out.1 H0.out.2.2 _⟩
 | true =>
  have hR : R = kcheckB lowL l bs at_:=hR
  have HR:=veil hR
  clear hR
  go_upto_region 3 with (go_at_call 10; refine (KM.out _ (HB.out.1.ext H0.out.1)).mono ?_; rintro e w1 ⟨rfl,hE1⟩)
  have H1:=veil (And.intro (H0.out.1.trans hE1) (hE1.block H0.out.2.1))
  clear hE1 KM
  go_upto_region 4 with (first
   | (go_at_call 36; refine (KO.out w1 (HB.out.2.1.ext H1.out.1)).mono ?_; rintro e w2 ⟨T,G,ev,rfl,hE2,hA⟩; obtain ⟨t,r,s,rfl,rfl,hY⟩:=openC_all hA)
   | ((with_reducible refine zap ?_); refine wpList_store_row rfl 47 _ _ rfl w2.heap.size (tkC t) rfl rfl 47 _ (zbk w2 _ _).1 (iTk t) rfl (zbw t) ?_)
   | ((with_reducible refine zap ?_); refine wpList_store_row rfl 78 _ _ rfl (w2.heap.size + 1) (gc r s) rfl rfl 78 _ (zde _ (zbk w2 _ _).2 (Nat.lt_succ_self _)) (iSg r s) rfl (zcw r s) ?_))
  have hF:=zcr (T:=tkC t) (G:=gc r s) (zfk w2 (.cells TZ 47) (.cells Z8 78)) (zbk w2 _ _).1 (zbk w2 _ _).2 ⟨Nat.le_refl _,Nat.lt_succ_self _⟩
  have hE3:=H1.out.1.trans (hE2.trans hF.1)
  have hb3:=(hE2.trans hF.1).block H1.out.2
  have h8:=hF.2.1
  clear hF hE2 hA
  obtain ⟨g8,hg8⟩ : ∃ g,g = w2.heap.size:=⟨_,rfl⟩
  obtain ⟨g9,hg9⟩ : ∃ g,g = w2.heap.size + 1:=⟨_,rfl⟩
  rw [← hg9,← hg8] at hE3 hb3 h8 ⊢
  obtain ⟨w3,hw3⟩ : ∃ W,W = (((w2.alloc (.cells TZ 47)).alloc (.cells Z8 78)).setRow g8 (tkC t)).setRow g9 (gc r s):=⟨_,rfl⟩
  rw [← hw3] at hE3 hb3 h8
  unfold TZ Z8 at hw3
  rw [← hw3]
  have H3:=veil (And.intro hE3 (And.intro hb3 h8))
  have HY:=veil hY
  clear hw3 hg8 hg9 hE3 hb3 h8 hY KO H1
  rcases HY.out with ⟨hp,rfl⟩ | ⟨hp,rfl⟩
  ·
   have hr : R = (⟨0,0,0,0,0⟩,2):=HR.out.trans (zhi hp)
   subst hr
   clear HY hp
   go_wp2_with ((with_reducible refine zap ?_); refine wpList_store_row rfl 47 _ _ rfl g TZ rfl rfl 47 _ H3.out.2.1 iTZ rfl zci ?_)
   refine bodyPost_ret (zay rfl _ _ g 47 TZ (0,0) _ rfl (setRow_heap w3 g _ TZ 47 (0,0) H3.out.2.1) Tryz.underlying47 rfl iTZ) rfl ⟨rfl,zat H3.out.1 H0.out.2.2 _⟩
  ·
   have hr : R = match findK l t.k at_ with
    | none => (⟨0,0,0,0,0⟩,4)
    | some k => checkB lowL k.x k.y k.f bs:=HR.out.trans (zhh hp)
   obtain ⟨_,_,_,_,c4⟩:=cells_tk9 H3.out.2.2
   have KF2:=veil (KF.out t.k w3 (HB.out.1.ext H3.out.1))
   have hFK : ∀ k,findK l t.k at_ = some k → k.x < top ∧ k.y < top:=fun k hk => HB.out.2.2.2 k (findK_cnt hk).2
   have HFK:=veil hFK
   have HRR:=veil hr
   clear HY hp hr KF hFK
   generalize t.k = id at *
   generalize findK l id at_ = F at *
   go_upto_region 7 with (first
    | (go_at_call 22; refine KF2.out.mono ?_; rintro e w4 ⟨rfl,hE4⟩)
    | ((with_reducible refine zas 11 ?_); refine zdn (zs:=PZ) _ _ rfl rfl rfl rfl rfl rfl (fun _ => rfl) (fun _ => rfl) (fun _ => rfl) (ziv F) (zkp F) (qO_one F) ?_; intro g11 W5 hg11 h11 hE5))
   have hE45:=hE4.trans hE5
   have H5:=veil (And.intro (H3.out.1.trans hE45) (And.intro (hE45.block H3.out.2.1) h11))
   clear hE4 hE5 hE45 h11 c4 KF2 H3
   cases F with
   | none =>
    obtain rfl : R = (⟨0,0,0,0,0⟩,4):=HRR.out
    go_wp2_with ((with_reducible refine zap ?_); refine wpList_store_row rfl 47 _ _ rfl g TZ rfl rfl 47 _ H5.out.2.1 iTZ rfl zci ?_)
    refine bodyPost_ret (zay rfl _ _ g 47 TZ (0,0) _ rfl (setRow_heap W5 g _ TZ 47 (0,0) H5.out.2.1) Tryz.underlying47 rfl iTZ) rfl ⟨rfl,zat H5.out.1 H0.out.2.2 _⟩
   | some k =>
    have hr : R = checkB lowL k.x k.y k.f bs:=HRR.out
    have hkt:=HFK.out k rfl
    have KC2:=veil (KC.out k.x k.y k.f hkt.1 hkt.2 W5 (kt_now HB.out.2.2.1 H5.out.1) (HB.out.2.1.ext H5.out.1))
    rw [← hr] at KC2
    clear hr HRR HFK hkt KC
    obtain ⟨Tk0,n0⟩:=R
    unfold qv tkV at KC2
    have hst:=fun (W : World) (hW : Ext W5 W) => hW.block H5.out.2.1
    have HST:=veil hst
    clear hst
    simp only [Option.isSome] at *
    go_wp2_with (first
     | ((with_reducible refine zas 41 ?_); refine wpList_load_row rfl 29 _ rfl g11 rfl 29 (qc k.x k.y k.f) (0,0) _ H5.out.2.2 Tryz.underlying29 rfl (iT k.x k.y k.f) ?_)
     | (go_at_call 37; refine KC2.out.mono ?_; rintro e w6 ⟨rfl,hE6⟩; have HE6:=veil hE6)
     | ((with_reducible refine zap ?_); refine wpList_store_row rfl 47 _ _ rfl g (tkC Tk0) rfl rfl 47 _ (HST.out _ HE6.out) (iTk Tk0) rfl (zbw Tk0) ?_))
    refine bodyPost_ret (zay rfl _ _ g 47 (tkC Tk0) (0,0) _ rfl (setRow_heap w6 g _ (tkC Tk0) 47 (0,0) (HST.out _ HE6.out)) Tryz.underlying47 rfl (iTk Tk0)) rfl ⟨rfl,zat (H5.out.1.trans HE6.out) H0.out.2.2 _⟩
theorem kcheck_nil (w : World) : Calls Tryz.prog 17 #[.slice none 0 0,.slice none 0 0,.int .i64 0] w fun e w' => e = .returned (.tuple #[.agg (tkC ⟨0,0,0,0,0⟩),.iface 39 (.int .i64 2)]) ∧ Ext w w':=by
 have KM : Hid (∀ W : World,Calls Tryz.prog 10 #[.slice none 0 0] W fun e w' => e = .returned (.bool true) ∧ Ext W w'):=veil (fun W => zia _ [] W (Ls.nil W none 0) (fun k hk => by cases hk) (by decide))
 have KO:=veil (fun W => open_nil_calls W)
 have k2:=neNil2
 go_enter Tryz.func17,Tryz.ntmps17
 go_upto_region 1 with (fail)
 obtain ⟨g,hg⟩ : ∃ g,g = w.heap.size:=⟨_,rfl⟩
 obtain ⟨w0,hw0⟩ : ∃ W,W = w.alloc (.cells TZ 47):=⟨_,rfl⟩
 have h0:=zar w (.cells TZ 47)
 have hE0:=Ext.alloc w (.cells TZ 47)
 rw [← hw0] at hE0
 rw [← hw0,← hg] at h0
 have H0:=veil (And.intro hE0 (And.intro h0 (show w.heap.size ≤ g by omega)))
 unfold TZ at hw0
 rw [← hw0,← hg]
 clear hw0 hg h0 hE0
 go_upto_region 3 with (go_at_call 10; refine (KM.out _).mono ?_; rintro e w1 ⟨rfl,hE1⟩)
 have H1:=veil (And.intro (H0.out.1.trans hE1) (hE1.block H0.out.2.1))
 clear hE1 KM
 go_upto_region 4 with (first
  | (go_at_call 36; refine (KO.out w1).mono ?_; rintro e w2 ⟨rfl,hE2⟩)
  | ((with_reducible refine zap ?_); refine wpList_store_row rfl 47 _ _ rfl w2.heap.size (tkC ⟨0,0,0,0,0⟩) rfl rfl 47 _ (zbk w2 _ _).1 (iTk _) rfl (zbw _) ?_)
  | ((with_reducible refine zap ?_); refine wpList_store_row rfl 78 _ _ rfl (w2.heap.size + 1) (gc 0 0) rfl rfl 78 _ (zde _ (zbk w2 _ _).2 (Nat.lt_succ_self _)) (iSg 0 0) rfl (zcw 0 0) ?_))
 have hF:=zcr (T:=tkC ⟨0,0,0,0,0⟩) (G:=gc 0 0) (zfk w2 (.cells TZ 47) (.cells Z8 78)) (zbk w2 _ _).1 (zbk w2 _ _).2 ⟨Nat.le_refl _,Nat.lt_succ_self _⟩
 have hE3:=H1.out.1.trans (hE2.trans hF.1)
 have hb3:=(hE2.trans hF.1).block H1.out.2
 clear hF hE2
 obtain ⟨g8,hg8⟩ : ∃ g,g = w2.heap.size:=⟨_,rfl⟩
 obtain ⟨g9,hg9⟩ : ∃ g,g = w2.heap.size + 1:=⟨_,rfl⟩
 rw [← hg9,← hg8] at hE3 hb3 ⊢
 obtain ⟨w3,hw3⟩ : ∃ W,W = (((w2.alloc (.cells TZ 47)).alloc (.cells Z8 78)).setRow g8 (tkC ⟨0,0,0,0,0⟩)).setRow g9 (gc 0 0):=⟨_,rfl⟩
 rw [← hw3] at hE3 hb3
 unfold TZ Z8 at hw3
 rw [← hw3]
 have H3:=veil (And.intro hE3 hb3)
 clear hw3 hg8 hg9 hE3 hb3 KO H1
 go_wp2_with ((with_reducible refine zap ?_); refine wpList_store_row rfl 47 _ _ rfl g TZ rfl rfl 47 _ H3.out.2 iTZ rfl zci ?_)
 refine bodyPost_ret (zay rfl _ _ g 47 TZ (0,0) _ rfl (setRow_heap w3 g _ TZ 47 (0,0) H3.out.2) Tryz.underlying47 rfl iTZ) rfl ⟨rfl,zat H3.out.1 H0.out.2.2 _⟩
theorem kt_keep (w w' : World) (h : KT w) (k : Ext w w') : KT w':=kt_now h k
theorem code10 (C : CodeL) : Code10 lowL KT where
 keep:=kt_keep
 base:=base_calls
 find:=fun v l id at_ w hF hT hL => find10_calls v l id at_ w hF hT (Nat.le_trans hL (by decide))
 check:=fun v l at_ A m c bs w hK hF hT hL hm hmc hle hS => kcheck_calls C v l at_ A m c bs w hK hF hT (Nat.le_trans hL (by decide)) hm hmc (Nat.le_trans hle (by decide)) hS
 check_nil:=kcheck_nil
/-! ### the field of n -/
def Fn (w : World) (b : Nat) : Prop:=∃ N Q,Fok Pt.nn N Q ∧ Fb w b Pt.nn N Q
theorem Fn.ext {w w' : World} {b : Nat} (h : Fn w b) (k : Ext w w') : Fn w' b:=by
 obtain ⟨N,Q,h1,h2⟩:=h
 exact ⟨N,Q,h1,h2.call k⟩
theorem Fn.but {w w' : World} {b r : Nat} (h : Fn w b) (k : But r w w') (hne : b ≠ r) : Fn w' b:=by
 obtain ⟨N,Q,h1,h2⟩:=h
 exact ⟨N,Q,h1,World.rowIs.of_block h2 (k.block b h2.lt (fun e => hne (Option.some.inj e)))⟩
section
variable {b : Nat} {w : World}
theorem nadd_p {X Y Z : Nat} (hZ : Z = (X % Pt.nn + Y % Pt.nn) % Pt.nn) (hX : X < top) (hY : Y < top) (hF : Fn w b) : Calls Tryz.prog 110 #[ptrTo b,nv X,nv Y] w fun e w' => e = .returned (nv Z) ∧ Ext w w':=by
 obtain ⟨N,Q,h1,h2⟩:=hF
 exact fadd2_calls b X Y Pt.nn N Q Z hX hY h1 hZ.symm w h2
theorem ncut_p {X Z : Nat} (hZ : Z = X % Pt.nn) (hX : X < top) (hF : Fn w b) : Calls Tryz.prog 110 #[ptrTo b,nv X,nv 0] w fun e w' => e = .returned (nv Z) ∧ Ext w w' :=
 nadd_p (by rw [hZ,Nat.zero_mod,Nat.add_zero,Nat.mod_mod]) hX zcb hF
theorem nmul_p {X Y Z : Nat} (hZ : Z = X * Y % Pt.nn) (hX : X < top) (hY : Y < top) (hF : Fn w b) : Calls Tryz.prog 89 #[ptrTo b,nv X,nv Y] w fun e w' => e = .returned (nv Z) ∧ Ext w w':=by
 obtain ⟨N,Q,h1,h2⟩:=hF
 exact fmul2_calls b X Y Pt.nn N Q Z hX hY h1 hZ.symm w h2
theorem ninv_p {X t : Nat} (h0 : X ≠ 0) (hX : X < Pt.nn) (ht : t = Pt.iG Pt.nn X) (hF : Fn w b) : Calls Tryz.prog 87 #[ptrTo b,nv X] w fun e w' => e = .returned (.tuple #[nv t,.nilIface]) ∧ Ext w w':=by
 obtain ⟨N,Q,h1,h2⟩:=hF
 refine (zka b X Pt.nn N Q (Nat.lt_trans hX zej) h1 w h2).mono ?_
 rintro e w' ⟨⟨y,hy,hi,rfl⟩,hb⟩
 have hg:=Pt.gcd_nn h0 hX
 have e1 : y = t:=by rw [ht]; exact Pt.iG_of Pt.nn Pt.nn_root Pt.nn_one hy (hi hg)
 rw [zjw hg,e1]
 exact ⟨rfl,hb⟩
end
/-! ### a maker -/
theorem gc_size (r s : Nat) : (gc 0 0).size = (gc r s).size:=by simp [gc]
section
variable (g : Nat) (W : World)
end
/-! ### what the layers below answer -/
theorem ofl_is {y : Nat → Nat} {X : Nat} (hy : ∀ j,y j < 256) (hX : X = num32 y) {g : Nat} (w : World) (hb : w.heap[g]? = some (.cells (dgc y) 112 (0,0))) : Calls Tryz.prog 81 #[.slice (some ⟨g,0,none⟩) 32 32] w fun e w' => e = .returned (.tuple #[nv X,.nilIface]) ∧ Ext w w':=by
 subst hX
 exact of_some g 0 32 32 y hy (by decide) w (Array.getElem?_eq_some_iff.1 hb).1 (fun j hj => by rw [Nat.zero_add,cell_of_row w g j _ _ _ hb]; exact zdi _ hj)
theorem mulb_is {K : Nat} (hK : K < top) {P : Pt.Q} (hP : P = Pt.grp.mul K Pt.base) (w : World) : Calls Tryz.prog 125 #[nv K,qv Pt.gx Pt.gy false] w fun e w' => e = .returned (.tuple #[qv (Pt.pX P.1) (Pt.pY P.1) (Pt.pFar P.1),.nilIface]) ∧ Ext w w':=by
 subst hP
 have h:=mul_yes K hK Pt.base w
 unfold qvP at h
 rwa [base_x.1,base_x.2.1,base_x.2.2] at h
theorem mulq_is {K X Y : Nat} {f : Bool} (hK : K < top) {p q : Pt.Q} (hp : X = Pt.pX p.1 ∧ Y = Pt.pY p.1 ∧ f = Pt.pFar p.1) (hq : q = Pt.grp.mul K p) (w : World) : Calls Tryz.prog 125 #[nv K,qv X Y f] w fun e w' => e = .returned (.tuple #[qv (Pt.pX q.1) (Pt.pY q.1) (Pt.pFar q.1),.nilIface]) ∧ Ext w w':=by
 obtain ⟨rfl,rfl,rfl⟩:=hp
 subst hq
 exact mul_yes K hK p w
theorem addq_is {a b c : Pt.Q} (hc : c = Pt.grp.op a b) (w : World) : Calls Tryz.prog 126 #[qv (Pt.pX a.1) (Pt.pY a.1) (Pt.pFar a.1),qv (Pt.pX b.1) (Pt.pY b.1) (Pt.pFar b.1)] w fun e w' => e = .returned (.tuple #[qv (Pt.pX c.1) (Pt.pY c.1) (Pt.pFar c.1),.nilIface]) ∧ Ext w w':=by
 subst hc; exact add_yes a b w
theorem onp_is {X Y : Nat} {f r : Bool} (h : onB X Y f = r) (hX : X < top) (hY : Y < top) (w : World) : Calls Tryz.prog 47 #[qv X Y f] w fun e w' => e = .returned (.bool r) ∧ Ext w w':=by
 subst h; exact on_is X Y f hX hY w
theorem eqN0 {X : Nat} (hX : X < top) (h0 : X ≠ 0) (W : World) : (binOp .eql 27 (nv X) (nv 0)).run Tryz.prog W = .ok (.bool false) W:=by
 have e:=zjb hX zcb W
 rw [decide_eq_false h0] at e
 exact e
end Go.Proofs.YthlbemnbmbmjhaaGreatDoor
