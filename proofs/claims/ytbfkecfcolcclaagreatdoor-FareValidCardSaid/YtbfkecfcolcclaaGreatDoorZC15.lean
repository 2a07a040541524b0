/-
  Of KP KQ Re Rf Rg RS Rk Rm.
-/
import Derived.Lib.AppendZeros
import Derived.Lib.SliceRun
import Derived.Shelf.SlSortCmp.WholeK
import Derived.Test.YtbfkecfcolcclaaGreatDoorRows
import Derived.Test.YtbfkecfcolcclaaGreatDoorZC10
import Derived.Test.YtbfkecfcolcclaaGreatDoorZC4
import Derived.Test.YtbfkecfcolcclaaGreatDoorZC6
import Derived.Test.YtbfkecfcolcclaaGreatDoorZC1
set_option maxRecDepth 1000000
set_option maxHeartbeats 20000000
namespace Go.Proofs.YtbfkecfcolcclaaGreatDoor
open Go.RowKit
open Go.Value renaming int → vI
open Go.IntKind renaming u64 → vU
open Go.Act renaming put → aP
open List renaming setIfInBounds_toArray → lA, set_cons_zero → lZ, set_cons_succ → lS
def textsOk (fs : List Fd) (many : Nat) : Prop:=fs.length = many ∧ ∀ i,i < many → tgF fs i = (i : Int) + 1
instance (fs : List Fd) (many : Nat) : Decidable (textsOk fs many):=by unfold textsOk; exact inferInstance
def textsOf (fs : List Fd) : List (List Nat):=fs.map fun f => f.2
def textsB (bs : List Nat) (many : Nat) : Option (List (List Nat)):=match getFs bs with
 | some fs => if textsOk fs many then some (textsOf fs) else none
 | none => none
theorem zcm (fs : List Fd) (i : Nat) : (textsOf fs).getD i [] = bsF fs i:=by
 unfold textsOf bsF
 simp only [List.getD_eq_getElem?_getD,List.getElem?_map]
 cases fs[i]? <;> rfl
theorem zbh (fs : List Fd) : (textsOf fs).length = fs.length:=by simp [textsOf]
theorem textsB_get {bs : List Nat} {fs : List Fd} (many : Nat) (h : getFs bs = some fs) : textsB bs many = if textsOk fs many then some (textsOf fs) else none:=by
 unfold textsB
 rw [h]
theorem hmk_tx (n : Nat) (hn : n ≤ 1000000) (W : World) : (Instr.makeSlice 99 (.int .i64 (n : Int)) (.int .i64 (n : Int))).run Tryz.prog W = .ok (.slice (some ⟨W.heap.size,0,none⟩) n n) (W.alloc (.cells (madeCells #[.slice none 0 0] n) 30)) :=
 run_make_row' 99 30 (.slice none 0 0) 24 Tryz.underlying99 (by kernel_rfl) rfl .i64 .i64 n (by omega) (by omega) W
def LaidV (w : World) (fs : List Fd) (f : Nat → Value) (i : Nat) : Prop:=∀ j,j < i → ∃ A c,f j = .slice A (bsF fs j).length c ∧ (bsF fs j).length ≤ c ∧ Bs w A (bsF fs j)
theorem LaidV.step {w : World} {fs : List Fd} {f : Nat → Value} {i c : Nat} {A : Option Addr} (h : LaidV w fs f i) (hc : (bsF fs i).length ≤ c) (hB : Bs w A (bsF fs i)) :
  LaidV w fs (fun j => if j = i then .slice A (bsF fs i).length c else f j) (i + 1):=fun j hj => by
 by_cases e : j = i
 ·
  subst e
  exact ⟨A,c,by simp only; rw [if_pos trivial],hc,hB⟩
 ·
  obtain ⟨A,c,h2⟩:=h j (by omega)
  refine ⟨A,c,?_,h2.2⟩
  simp only
  rw [if_neg e]
  exact h2.1
theorem LaidV.vs {w w' : World} {fs : List Fd} {f : Nat → Value} {g n : Nat} (h : LaidV w fs f n) (hn : n = fs.length) (hE : Ext w w') (hl : BytF fs) (hp : Pre w' g 30 n f) : Vs w' (.slice (some ⟨g,0,none⟩) n n) (textsOf fs):=by
 subst hn
 refine ⟨fun x hx => ?_,some ⟨g,0,none⟩,fs.length,by rw [zbh],by rw [zbh]; exact Nat.le_refl _,.inr ⟨g,0,rfl,hp.lt,fun i hi => ?_⟩⟩
 ·
  unfold textsOf at hx
  obtain ⟨y,hy,rfl⟩:=List.mem_map.1 hx
  exact hl y hy
 ·
  rw [zbh] at hi
  obtain ⟨A,c,h2,h3,h4⟩:=h i hi
  rw [zcm]
  exact ⟨A,c,by rw [Nat.zero_add,hp.cell hi,h2],h3,h4.ext hE⟩
def TGetA (w' : World) (bs : List Nat) (many : Nat) (x ev : Value) : Prop :=
 (textsB bs many = none ∧ (∃ A c,x = .slice A 0 c) ∧ ev = .iface 38 (.int .i64 2)) ∨ (∃ l,textsB bs many = some l ∧ l.length = many ∧ Vs w' x l ∧ ev = .nilIface)
theorem tget_calls (A : Option Addr) (m c : Nat) (bs : List Nat) (many : Nat) (hm : m = bs.length) (hmc : m ≤ c) (hle : m ≤ 100000000) (hmany : many ≤ 64) (w : World) (hS : Bs w A bs) :
  Calls Tryz.prog 62 #[.slice A m c,.int .i64 (many : Int)] w fun e w' => ∃ x ev,e = .returned (.tuple #[x,ev]) ∧ Ext w w' ∧ TGetA w' bs many x ev:=by
 have KG:=veil (code8.get A m c bs w hm hmc hle hS)
 have k2:=neNil2
 have k3:=neNilN
 clear hm hmc hS hle
 go_enter Tryz.func62,Tryz.ntmps62
 go_upto_region 2 with (go_at_call 90; refine KG.out.mono ?_; rintro e w1 ⟨x,y,rfl,hE1,hA⟩)
 rcases hA with ⟨hn,⟨A2,c2,rfl⟩,rfl⟩ | ⟨fs,hs,rfl,hF⟩
 ·
  have hr : textsB bs many = none:=by
   unfold textsB
   rw [hn]
  clear KG
  go_wp2
  go_ret2
  exact ⟨_,_,rfl,hE1,.inl ⟨hr,⟨none,0,rfl⟩,rfl⟩⟩
 ·
  have hnum:=textsB_get many hs
  have hE0:=hE1
  obtain ⟨hB,AL,cl,rfl,hcl,hx⟩:=hF
  obtain ⟨q,hq⟩ : ∃ q,q = fs.length:=⟨_,rfl⟩
  rw [← hq] at hx hcl ⊢
  by_cases hqm : q = many
  ·
   subst hqm
   have hmk:=hmk_tx q (by omega)
   have hp0:=pre_new w1 (madeCells #[.slice none 0 0] q) 30 q (size_madeCells _ _).symm
   have hE2:=Ext.alloc w1 (.cells (madeCells #[.slice none 0 0] q) 30)
   have HX:=veil (And.intro hx (And.intro hq (And.intro hnum (And.intro hE1 hB))))
   have H0:=veil (And.intro hp0 hE2)
   clear KG hx hq hnum hE1 hs hB hcl hE0 hp0 hE2
   go_upto_region 7 with (fail)
   obtain ⟨g,hg⟩ : ∃ g,g = w1.heap.size:=⟨_,rfl⟩
   generalize w1.alloc (.cells (madeCells #[.slice none 0 0] q) 30) = w2 at *
   rw [← hg] at H0 ⊢
   have HG:=veil (show w1.heap.size ≤ g by omega)
   clear hg hmk
   go_wp2
   go_loopw [9,10,28] (fun _ _ v wr => ∃ i : Nat,i ≤ q ∧ v = .int .i64 (i : Int) ∧ (∃ f,Pre wr g 30 q f ∧ LaidV w1 fs f i) ∧ (∀ j,j < i → tgF fs j = (j : Int) + 1) ∧ Ext w1 wr)
    (fun _ _ v _ => q - (intOf v).toNat)
   case atStart => exact ⟨0,by omega,rfl,⟨_,H0.out.1,fun j hj => by omega⟩,fun j hj => by omega,H0.out.2⟩
   case round =>
    obtain ⟨i,hi,rfl,⟨f,hp,hl⟩,hall,hE⟩:=hrel
    by_cases hlt : i < q
    ·
     have hd1 : decide ((i : Int) < (q : Int)) = true:=by simp; omega
     have hii : (i : Int) < (q : Int):=by omega
     obtain ⟨b,o,hAL,hb,hcl⟩:=HX.out.1.resolve_left (by omega)
     obtain ⟨h1,A',k',h2,h3,h4⟩:=hcl i (by have:=HX.out.2.1; omega)
     have c0:=(hE.cell hb).trans h1
     have c1:=(hE.cell hb).trans h2
     have hst:=LaidV.step hl h3 h4
     obtain ⟨T,hT⟩ : ∃ T,T = tgF fs i:=⟨_,rfl⟩
     obtain ⟨L,hL⟩ : ∃ L,L = (bsF fs i).length:=⟨_,rfl⟩
     rw [← hT] at c0
     rw [← hL] at c1 hst
     have hno : ¬ (T = (i : Int) + 1) → textsB bs q = none:=fun h => by
      rw [HX.out.2.2.1,if_neg]
      intro hk
      rw [hT] at h
      exact h (hk.2 i hlt)
     have HNO:=veil hno
     have HRG:=veil (rng_fd c0 c1)
     have HS:=veil (And.intro hst (And.intro hp (And.intro hE (And.intro hall hT))))
     clear c0 c1 h1 h2 h3 h4 hst hl hp hcl hE hall hno hT hL
     subst hAL
     go_upto_region 10 with (first
      | ((with_reducible refine zaa 32 ?_); refine wpList_load_mid rfl 135 _ rfl b _ rfl _ _ HRG.out Tryz.underlying135 rfl infoF2 ?_)
      | ((with_reducible refine zae ?_); refine wpList_store_row rfl 135 _ _ rfl wr.heap.size #[.int .i64 T,.slice A' L k'] rfl rfl 135 _ (zab wr _) infoF2 rfl one_fd ?_; rw [World.setRow_alloc_new]))
     obtain ⟨d0,d1⟩:=zfh (zab wr (.cells #[.int .i64 T,.slice A' L k'] 135))
     have hEW:=Ext.alloc wr (.cells #[.int .i64 T,.slice A' L k'] 135)
     have hpW:=HS.out.2.1.alloc (.cells #[.int .i64 T,.slice A' L k'] 135)
     have c2:=hpW.cell hlt
     have f2:=hpW.frozen i
     have HW:=veil (And.intro hpW (HS.out.2.2.1.trans hEW))
     generalize wr.alloc (.cells #[.int .i64 T,.slice A' L k'] 135) = W at *
     generalize wr.heap.size = gf at *
     clear hEW hpW
     by_cases g2 : T = (i : Int) + 1
     ·
      have f1 : (T == (i : Int) + 1) = true:=by simp [g2]
      have HT:=veil g2
      subst g2
      go_wp2
      go_roundw
      case rel =>
       refine ⟨i + 1,by omega,by go_num,⟨_,HW.out.1.set i _,HS.out.1⟩,fun j hj => ?_,zad HW.out.2 HG.out _⟩
       by_cases e : j = i
       ·
        subst e
        rw [← HS.out.2.2.2.2]
       ·
        exact HS.out.2.2.2.1 j (by omega)
      case measure => simp [intOf]; omega
     ·
      have f1 : (T == (i : Int) + 1) = false:=by simp [g2]
      have hr:=HNO.out g2
      go_wp2
      go_ret2
      exact ⟨_,_,rfl,HX.out.2.2.2.1.trans HW.out.2,.inl ⟨hr,⟨none,0,rfl⟩,rfl⟩⟩
    ·
     obtain rfl : i = q:=by omega
     have hd1 : decide ((i : Int) < (i : Int)) = false:=by simp
     have hr : textsB bs i = some (textsOf fs):=by
      rw [HX.out.2.2.1,if_pos]
      exact ⟨HX.out.2.1.symm,hall⟩
     have hV:=LaidV.vs hl HX.out.2.1 hE HX.out.2.2.2.2 hp
     clear hl hp hall
     go_wp2
     go_ret2
     exact ⟨_,_,rfl,HX.out.2.2.2.1.trans hE,.inr ⟨_,hr,by rw [zbh]; exact HX.out.2.1.symm,hV,rfl⟩⟩
  ·
   have hr : textsB bs many = none:=by
    rw [hnum,if_neg]
    intro h
    exact hqm (hq.trans h.1)
   have f1 : ((q : Int) == (many : Int)) = false:=by simp; omega
   have f2 : ¬ ((q : Int) = (many : Int)):=by omega
   clear KG hx hq hnum hs hB hcl
   go_wp2
   go_ret2
   exact ⟨_,_,rfl,hE0,.inl ⟨hr,⟨none,0,rfl⟩,rfl⟩⟩
theorem texts_none {bs : List Nat} {many : Nat} (h : textsB bs many = none) : numbersB bs many = none:=by
 unfold textsB at h
 unfold numbersB
 cases hg : getFs bs with
 | none => rfl
 | some fs =>
  rw [hg] at h
  simp only at h ⊢
  split at h
  ·
   cases h
  ·
   rename_i hn
   rw [if_neg]
   exact fun hk => hn ⟨hk.1,fun i hi => (hk.2 i hi).1⟩
theorem texts_some {bs : List Nat} {many : Nat} {l : List (List Nat)} (h : textsB bs many = some l) : numbersB bs many = if ∀ i,i < many → 0 ≤ ofB (l.getD i []) then some (l.map ofB) else none:=by
 unfold textsB at h
 unfold numbersB
 cases hg : getFs bs with
 | none => rw [hg] at h; cases h
 | some fs =>
  rw [hg] at h
  simp only at h ⊢
  split at h
  ·
   rename_i hk
   injection h with h
   subst h
   have e : numsOf fs = (textsOf fs).map ofB:=by
    unfold numsOf textsOf
    rw [List.map_map]
    rfl
   rw [e]
   by_cases hq : ∀ i,i < many → 0 ≤ ofB ((textsOf fs).getD i [])
   ·
    rw [if_pos hq,if_pos]
    exact ⟨hk.1,fun i hi => ⟨hk.2 i hi,by have:=hq i hi; rwa [zcm] at this⟩⟩
   ·
    rw [if_neg hq,if_neg]
    intro hn
    refine hq fun i hi => ?_
    rw [zcm]
    exact (hn.2 i hi).2
  ·
   cases h
def obB (bs : List Nat) : Option Tk:=match numbersB bs 5 with
 | some l => if mayT (tkOf l) = true then some (tkOf l) else none
 | none => none
theorem obB_none {bs : List Nat} (h : numbersB bs 5 = none) : obB bs = none:=by
 unfold obB
 rw [h]
theorem obB_some {bs : List Nat} {l : List Int} (h : numbersB bs 5 = some l) : obB bs = if mayT (tkOf l) = true then some (tkOf l) else none:=by
 unfold obB
 rw [h]
theorem openB_ob {bs body : List Nat} {r s : Nat} (h : partsB bs = some (body,r,s)) : openB bs = (obB body).map fun t => (t,r,s):=by
 unfold openB obB
 rw [h]
 simp only
 cases numbersB body 5 with
 | none => rfl
 | some l =>
  simp only
  split
  ·
   rfl
  ·
   rfl
theorem tkOf_map {l : List (List Nat)} (h : l.length = 5) : tkOf (l.map ofB) = ⟨ofB (l.getD 0 []),ofB (l.getD 1 []),ofB (l.getD 2 []),ofB (l.getD 3 []),ofB (l.getD 4 [])⟩:=by
 match l,h with
 | [_,_,_,_,_],_ => rfl
def OBodyA (bs : List Nat) (T : Array Value) (ev : Value) : Prop :=
 (obB bs = none ∧ T = tkC ⟨0,0,0,0,0⟩ ∧ ev = .iface 38 (.int .i64 2)) ∨ (∃ t,obB bs = some t ∧ T = tkC t ∧ ev = .nilIface)
theorem of_yes {A : Option Addr} {m c : Nat} {bs : List Nat} (hm : m = bs.length) (hmc : m ≤ c) {w : World} (hS : Bs w A bs) (h : 0 ≤ ofB bs) : Calls Tryz.prog 91 #[.slice A m c] w fun e w' => e = .returned (.tuple #[.int .i64 (ofB bs),.nilIface]) ∧ Ext w w' :=
 (of8_calls A m c bs hm hmc w hS).mono fun _ _ ⟨x,ev,he,hE,hA⟩ => by
  rcases hA with ⟨h1,_⟩ | ⟨_,rfl,rfl⟩
  ·
   omega
  ·
   exact ⟨he,hE⟩
theorem of_no {A : Option Addr} {m c : Nat} {bs : List Nat} (hm : m = bs.length) (hmc : m ≤ c) {w : World} (hS : Bs w A bs) (h : ofB bs < 0) : Calls Tryz.prog 91 #[.slice A m c] w fun e w' => e = .returned (.tuple #[.int .i64 0,.iface 38 (.int .i64 2)]) ∧ Ext w w' :=
 (of8_calls A m c bs hm hmc w hS).mono fun _ _ ⟨x,ev,he,hE,hA⟩ => by
  rcases hA with ⟨_,rfl,rfl⟩ | ⟨h1,_⟩
  ·
   exact ⟨he,hE⟩
  ·
   omega
theorem row_five {w : World} {g t : Nat} {f : Nat → Value} (h : w.rowIs g t 5 f) : w.cell? ⟨g,0,none⟩ = some (f 0) ∧ w.cell? ⟨g,1,none⟩ = some (f 1) ∧ w.cell? ⟨g,2,none⟩ = some (f 2) ∧ w.cell? ⟨g,3,none⟩ = some (f 3) ∧ w.cell? ⟨g,4,none⟩ = some (f 4) :=
 ⟨h.cell (by omega),h.cell (by omega),h.cell (by omega),h.cell (by omega),h.cell (by omega)⟩
theorem zew (A : Option Addr) (m c : Nat) (bs : List Nat) (hm : m = bs.length) (hmc : m ≤ c) (hle : m ≤ 100000000) (w : World) (hS : Bs w A bs) :
  Calls Tryz.prog 63 #[.slice A m c] w fun e w' => ∃ T ev,e = .returned (.tuple #[.agg T,ev]) ∧ Ext w w' ∧ OBodyA bs T ev:=by
 have KG:=veil (fun W (hW : Bs W A bs) => tget_calls A m c bs 5 hm hmc hle (by decide) W hW)
 have k2:=neNil2
 have k3:=neNilN
 have HB:=veil hS
 clear hm hmc hS hle
 go_enter Tryz.func63,Tryz.ntmps63
 go_upto_region 1 with (fail)
 obtain ⟨g2,hg2⟩ : ∃ g,g = w.heap.size:=⟨_,rfl⟩
 obtain ⟨w0,hw0⟩ : ∃ W,W = w.alloc (.cells TZ 24):=⟨_,rfl⟩
 have h2:=zab w (.cells TZ 24)
 have hE0:=Ext.alloc w (.cells TZ 24)
 rw [← hw0] at hE0
 rw [← hw0,← hg2] at h2
 have H0:=veil (And.intro hE0 (And.intro h2 (show w.heap.size ≤ g2 by omega)))
 unfold TZ at hw0
 rw [← hw0,← hg2]
 clear hw0 hg2 h2 hE0
 go_upto_region 2 with (go_at_call 62; refine (KG.out w0 (HB.out.ext H0.out.1)).mono ?_; rintro e w1 ⟨x,ev,rfl,hE1,hA⟩)
 have H1:=veil (And.intro (H0.out.1.trans hE1) (And.intro (hE1.block H0.out.2.1) H0.out.2.2))
 clear hE1 H0 KG
 rcases hA with ⟨hn,⟨A2,c2,rfl⟩,rfl⟩ | ⟨l,hs,hl5,hV,rfl⟩
 ·
  have hr:=obB_none (texts_none hn)
  clear hn
  go_wp2_with ((with_reducible refine zae ?_); refine wpList_store_row rfl 24 _ _ rfl g2 TZ rfl rfl 24 _ H1.out.2.1 iTZ rfl zbz ?_)
  refine bodyPost_ret (zai rfl _ _ g2 24 TZ (0,0) _ rfl (setRow_heap w1 g2 _ TZ 24 (0,0) H1.out.2.1) Tryz.underlying24 rfl iTZ) rfl ⟨_,_,rfl,zah H1.out.1 H1.out.2.2 _,.inl ⟨hr,rfl,rfl⟩⟩
 ·
  have hnum:=texts_some hs
  obtain ⟨_,AL,cl,rfl,hcl,hx⟩:=hV
  obtain ⟨n,hn⟩ : ∃ n,n = l.length:=⟨_,rfl⟩
  rw [← hn] at hx hcl hl5 ⊢
  subst hl5
  have HX:=veil (And.intro (hx.resolve_left (by decide)) (And.intro hn hnum))
  have hr6 : (w1.alloc (.cells #[.int .i64 0,.int .i64 0,.int .i64 0,.int .i64 0,.int .i64 0] 136)).rowIs w1.heap.size 136 5 (fun _ => .int .i64 0):=World.rowIs_alloc w1 _ _ _ (fun i hi => by
   have hi : i < 5:=hi
   match i,hi with
   | 0,_ => rfl
   | 1,_ => rfl
   | 2,_ => rfl
   | 3,_ => rfl
   | 4,_ => rfl)
  have hE2:=Ext.alloc w1 (.cells #[.int .i64 0,.int .i64 0,.int .i64 0,.int .i64 0,.int .i64 0] 136)
  have H2:=veil (And.intro hr6 hE2)
  clear hs hnum hx hn hcl hr6 hE2
  go_upto_region 5 with (fail)
  obtain ⟨g,hg⟩ : ∃ g,g = w1.heap.size:=⟨_,rfl⟩
  generalize w1.alloc (.cells #[.int .i64 0,.int .i64 0,.int .i64 0,.int .i64 0,.int .i64 0] 136) = w2 at *
  rw [← hg] at H2 ⊢
  have HG:=veil (show w1.heap.size ≤ g by omega)
  clear hg
  go_wp2
  go_loopw [5,7,8,21] (fun s _ _ v wr => ∃ i : Nat,i ≤ 5 ∧ s = .nilIface ∧ v = .int .i64 (i : Int) ∧ wr.rowIs g 136 5 (fun j => if j < i then .int .i64 (ofB (l.getD j [])) else .int .i64 0) ∧ (∀ j,j < i → 0 ≤ ofB (l.getD j [])) ∧ Ext w1 wr)
   (fun _ _ _ v _ => 5 - (intOf v).toNat)
  case atStart => exact ⟨0,by omega,rfl,rfl,H2.out.1.congr (fun j hj => by rw [if_neg (by omega)]),fun j hj => by omega,H2.out.2⟩
  case round =>
   obtain ⟨i,hi,rfl,rfl,hp,hall,hE⟩:=hrel
   by_cases hlt : i < 5
   ·
    have hii : (i : Int) < 5:=by omega
    obtain ⟨b,o,hAL,hb,hcl⟩:=HX.out.1
    obtain ⟨A',k',h1,h3,h4⟩:=hcl i (by have:=HX.out.2.1; omega)
    have c0:=(hE.cell hb).trans h1
    have hB:=h4.ext hE
    obtain ⟨L,hL⟩ : ∃ L,L = (l.getD i []).length:=⟨_,rfl⟩
    obtain ⟨N,hN⟩ : ∃ N,N = ofB (l.getD i []):=⟨_,rfl⟩
    rw [← hL] at c0 h3
    subst hAL
    by_cases gN : 0 ≤ N
    ·
     have KO:=veil (of_yes hL h3 hB (by rw [← hN]; exact gN))
     rw [← hN] at KO
     have HS:=veil (And.intro hp (And.intro hall (And.intro hE (And.intro hN gN))))
     clear h1 h3 h4 hB hp hall hE hcl hL hN gN
     go_upto_region 9 with (go_at_call 91; refine KO.out.mono ?_; rintro e w3 ⟨rfl,hE3⟩; have hp3:=veil (zac HS.out.1 hE3 HS.out.1.lt); have c2:=hp3.out.cell hlt; have f2:=hp3.out.frozen i)
     clear c0 c2 f2
     go_wp2
     go_roundw
     case rel =>
      refine ⟨i + 1,by omega,rfl,by go_num,(hp3.out.set i _).congr (fun j hj => ?_),fun j hj => ?_,zad (HS.out.2.2.1.trans hE3) HG.out _⟩
      ·
       by_cases e : j = i
       ·
        subst e
        rw [if_pos rfl,if_pos (by omega),HS.out.2.2.2.1]
       ·
        rw [if_neg e]
        by_cases e2 : j < i
        ·
         rw [if_pos e2,if_pos (by omega)]
        ·
         rw [if_neg e2,if_neg (by omega)]
      ·
       by_cases e : j = i
       ·
        subst e
        rw [← HS.out.2.2.2.1]
        exact HS.out.2.2.2.2
       ·
        exact HS.out.2.1 j (by omega)
     case measure => simp [intOf]; omega
    ·
     have KO:=veil (of_no hL h3 hB (by rw [← hN]; omega))
     have hr:=obB_none (bs:=bs) (by
      rw [HX.out.2.2,if_neg]
      intro h
      have:=h i hlt
      omega)
     have HS:=veil (And.intro hp (And.intro hr hE))
     clear h1 h3 h4 hB hp hall hE hcl hL hN gN hr
     go_upto_region 9 with (go_at_call 91; refine KO.out.mono ?_; rintro e w3 ⟨rfl,hE3⟩; have hp3:=veil (zac HS.out.1 hE3 HS.out.1.lt); have c2:=hp3.out.cell hlt; have f2:=hp3.out.frozen i)
     have hE4 : Ext w1 (w3.setCell ⟨g,i,none⟩ (.int .i64 0)):=zad (HS.out.2.2.trans hE3) HG.out _
     clear c0 c2 f2
     generalize w3.setCell ⟨g,i,none⟩ (.int .i64 0) = w4 at *
     have H4:=veil (And.intro (H1.out.1.trans hE4) (hE4.block H1.out.2.1))
     clear hE4
     go_wp2_with ((with_reducible refine zae ?_); refine wpList_store_row rfl 24 _ _ rfl g2 TZ rfl rfl 24 _ H4.out.2 iTZ rfl zbz ?_)
     refine bodyPost_ret (zai rfl _ _ g2 24 TZ (0,0) _ rfl (setRow_heap w4 g2 _ TZ 24 (0,0) H4.out.2) Tryz.underlying24 rfl iTZ) rfl ⟨_,_,rfl,zah H4.out.1 H1.out.2.2 _,.inl ⟨HS.out.2.1,rfl,rfl⟩⟩
   ·
    obtain rfl : i = 5:=by omega
    have hr:=HX.out.2.2
    rw [if_pos hall] at hr
    have hob:=obB_some hr
    rw [tkOf_map HX.out.2.1.symm] at hob
    obtain ⟨c0,c1,c2,c3,c4⟩:=row_five hp
    rw [if_pos (by decide)] at c0 c1 c2 c3 c4
    have HO:=veil hob
    clear hob hr hall hp
    obtain ⟨N0,hN0⟩ : ∃ N,N = ofB (l.getD 0 []):=⟨_,rfl⟩
    obtain ⟨N1,hN1⟩ : ∃ N,N = ofB (l.getD 1 []):=⟨_,rfl⟩
    obtain ⟨N2,hN2⟩ : ∃ N,N = ofB (l.getD 2 []):=⟨_,rfl⟩
    obtain ⟨N3,hN3⟩ : ∃ N,N = ofB (l.getD 3 []):=⟨_,rfl⟩
    obtain ⟨N4,hN4⟩ : ∃ N,N = ofB (l.getD 4 []):=⟨_,rfl⟩
    rw [← hN0,← hN1,← hN2,← hN3,← hN4] at HO
    rw [← hN0] at c0
    rw [← hN1] at c1
    rw [← hN2] at c2
    rw [← hN3] at c3
    rw [← hN4] at c4
    have HE:=veil hE
    clear hN0 hN1 hN2 hN3 hN4 hE
    go_upto_region 13 with ((with_reducible refine zae ?_); refine wpList_store_row rfl 24 _ _ rfl wr.heap.size (tkC ⟨N0,N1,N2,N3,N4⟩) rfl rfl 24 _ (zab wr _) (iTk _) rfl (zav _) ?_; rw [World.setRow_alloc_new])
    have h9:=zab wr (.cells (tkC ⟨N0,N1,N2,N3,N4⟩) 24)
    have hE9:=Ext.alloc wr (.cells (tkC ⟨N0,N1,N2,N3,N4⟩) 24)
    generalize (⟨N0,N1,N2,N3,N4⟩ : Tk) = t at *
    generalize wr.alloc (.cells (tkC t) 24) = w3 at *
    generalize wr.heap.size = g9 at *
    have KM:=veil (fun W => zgi t W)
    have H3:=veil (And.intro h9 (And.intro (H1.out.1.trans (HE.out.trans hE9)) ((HE.out.trans hE9).block H1.out.2.1)))
    clear h9 hE9 c0 c1 c2 c3 c4
    unfold tkV at KM
    cases hmay : mayT t with
    | false =>
     rw [hmay] at KM HO
     clear hmay
     have hr : obB bs = none:=by rw [HO.out]; rfl
     go_upto_region 14 with (first
      | ((with_reducible refine zaa 49 ?_); refine wpList_load_row rfl 24 _ rfl g9 rfl 24 (tkC t) (0,0) _ H3.out.1 Tryz.underlying24 rfl (iTk t) ?_)
      | (go_at_call 24; refine (KM.out _).mono ?_; rintro e w4 ⟨rfl,hE4⟩))
     have h24:=hE4.block H3.out.2.2
     go_wp2_with ((with_reducible refine zae ?_); refine wpList_store_row rfl 24 _ _ rfl g2 TZ rfl rfl 24 _ h24 iTZ rfl zbz ?_)
     refine bodyPost_ret (zai rfl _ _ g2 24 TZ (0,0) _ rfl (setRow_heap w4 g2 _ TZ 24 (0,0) h24) Tryz.underlying24 rfl iTZ) rfl ⟨_,_,rfl,zah (H3.out.2.1.trans hE4) H1.out.2.2 _,.inl ⟨hr,rfl,rfl⟩⟩
    | true =>
     rw [hmay] at KM HO
     clear hmay
     have hr : obB bs = some t:=by rw [HO.out]; rfl
     go_upto_region 15 with (first
      | ((with_reducible refine zaa 49 ?_); refine wpList_load_row rfl 24 _ rfl g9 rfl 24 (tkC t) (0,0) _ H3.out.1 Tryz.underlying24 rfl (iTk t) ?_)
      | (go_at_call 24; refine (KM.out _).mono ?_; rintro e w4 ⟨rfl,hE4⟩))
     have h24:=hE4.block H3.out.2.2
     have h94:=hE4.block H3.out.1
     go_wp2_with (first
      | ((with_reducible refine zaa 54 ?_); refine wpList_load_row rfl 24 _ rfl g9 rfl 24 (tkC t) (0,0) _ h94 Tryz.underlying24 rfl (iTk t) ?_)
      | ((with_reducible refine zae ?_); refine wpList_store_row rfl 24 _ _ rfl g2 (tkC t) rfl rfl 24 _ h24 (iTk t) rfl (zav t) ?_))
     refine bodyPost_ret (zai rfl _ _ g2 24 (tkC t) (0,0) _ rfl (setRow_heap w4 g2 _ (tkC t) 24 (0,0) h24) Tryz.underlying24 rfl (iTk t)) rfl ⟨_,_,rfl,zah (H3.out.2.1.trans hE4) H1.out.2.2 _,.inr ⟨_,hr,rfl,rfl⟩⟩
def prevS (l : List Rv) (i : Nat) : Int:=if i = 0 then 0 else rvS l (i - 1)
theorem prevS_ge {l : List Rv} {i : Nat} (h : ∀ j,j < i → okR l j) : 0 ≤ prevS l i:=by
 unfold prevS
 by_cases h0 : i = 0
 ·
  rw [if_pos h0]; omega
 ·
  rw [if_neg h0]
  have:=(h (i - 1) (by omega)).1
  omega
theorem okR11_of {l : List Rv} {i : Nat} (h : ∀ j,j < i → okR l j) (h1 : prevS l i < rvS l i) (h2 : rvS l i ≤ 2147483647) (h3 : 0 ≤ rvF l i) (h4 : rvF l i ≤ 1073741824) : okR l i:=by
 have:=prevS_ge h
 refine ⟨by omega,h2,h3,h4,fun h0 => ?_⟩
 unfold prevS at h1
 rwa [if_neg (by omega)] at h1
theorem okR_prev {l : List Rv} {i : Nat} (h : okR l i) : prevS l i < rvS l i:=by
 unfold prevS
 by_cases h0 : i = 0
 ·
  rw [if_pos h0]; have:=h.1; omega
 ·
  rw [if_neg h0]; exact h.2.2.2.2 (by omega)
theorem zcp (v : Value) (l : List Rv) (w : World) (hF : Rs w v l) (hL : l.length ≤ 1000000000) :
  Calls Tryz.prog 27 #[v] w fun e w' => e = .returned (.bool (mayRs l)) ∧ Ext w w':=by
 obtain ⟨AL,c,rfl,hc,hx⟩:=hF
 obtain ⟨R,hR⟩ : ∃ R,R = mayRs l:=⟨_,rfl⟩
 rw [← hR]
 obtain ⟨n,hn⟩ : ∃ n,n = l.length:=⟨_,rfl⟩
 rw [← hn] at hx hc ⊢
 have HR:=veil (And.intro hR (And.intro hn hL))
 have HX:=veil hx
 have hnL : n ≤ 1000000000:=by omega
 clear hR hx hn hL
 go_enter Tryz.func27,Tryz.ntmps27
 by_cases hbig : 200 < n
 ·
  have hd0 : decide (200 < (n : Int)) = true:=by simp; omega
  have e : R = false:=by
   rw [HR.out.1]
   unfold mayRs
   exact decide_eq_false fun h => by have:=h.1; rw [← HR.out.2.1] at this; omega
  subst e
  clear hbig
  go_wp2
  go_ret
  exact ⟨rfl,Ext.refl _⟩
 ·
  have hd0 : decide (200 < (n : Int)) = false:=by simp; omega
  have HB:=veil hbig
  clear hbig
  go_wp2
  go_loopw [3,11] (fun u v wr => ∃ i : Nat,i ≤ n ∧ v = .int .i64 (i : Int) ∧ u = .int .i64 (prevS l i) ∧ (∀ j,j < i → okR l j) ∧ Ext w wr)
   (fun _ v _ => n - (intOf v).toNat)
  case atStart => exact ⟨0,by omega,rfl,rfl,fun j hj => by omega,Ext.refl _⟩
  case round =>
   obtain ⟨i,hi,rfl,rfl,hall,hE⟩:=hrel
   by_cases hlt : i < n
   ·
    have hd1 : decide ((i : Int) < (n : Int)) = true:=by simp; omega
    have hii : (i : Int) < (n : Int):=by omega
    obtain ⟨b,o,hAL,hb,hcl⟩:=HX.out.resolve_left (by omega)
    have hil : i < l.length:=by have:=HR.out.2.1; omega
    have HRG:=veil (zas hE hb (hcl i _ (zeh hil)))
    have hfalse : ∀ h : ¬ okR l i,R = false:=fun h => HR.out.1.trans (mayRs_false hil h)
    have hnext : prevS l (i + 1) = rvS l i:=rfl
    have hs : (l.getD i (0,0)).1 = rvS l i:=rfl
    have hf : (l.getD i (0,0)).2 = rvF l i:=rfl
    have HK:=veil (And.intro hall (And.intro hfalse (And.intro hE hnext)))
    generalize l.getD i (0,0) = k at *
    clear hall hfalse hE hnext hil hb hcl
    subst hAL
    go_upto_region 7 with (first
     | ((with_reducible refine zaa 14 ?_); refine wpList_load_mid rfl 65 _ rfl b _ rfl (rvC k) _ HRG.out Tryz.underlying65 rfl (iRv k) ?_)
     | ((with_reducible refine zaa 5 ?_); refine zbs _ _ rfl rfl rfl rfl rfl rfl hzRv (fun _ => rfl) (fun _ => rfl) (iRvA k) (rvA_size k) (rvA_one k) ?_; intro gk W hg hW hEW))
    have c0:=rv_s (rv_blk hW)
    have c1:=rv_f (rv_blk hW)
    simp only [Nat.zero_add] at c1
    rw [hs] at c0
    rw [hf] at c1
    have HE:=veil (HK.out.2.2.1.trans hEW)
    obtain ⟨p,hp⟩ : ∃ p,p = prevS l i:=⟨_,rfl⟩
    rw [← hp]
    obtain ⟨ks,hks⟩ : ∃ z,z = rvS l i:=⟨_,rfl⟩
    obtain ⟨kf,hkf⟩ : ∃ z,z = rvF l i:=⟨_,rfl⟩
    rw [← hks] at c0
    rw [← hkf] at c1
    have HV:=veil (And.intro hks (And.intro hkf hp))
    clear hW hEW hs hf hks hkf hp HRG
    by_cases g0 : ks ≤ p
    ·
     have hd2 : decide (ks ≤ p) = true:=decide_eq_true g0
     have e : R = false:=HK.out.2.1 fun h => by have h1:=okR_prev h; rw [← HV.out.1,← HV.out.2.2] at h1; omega
     subst e
     clear g0
     go_wp2
     go_ret
     exact ⟨rfl,HE.out⟩
    ·
     have hd2 : decide (ks ≤ p) = false:=decide_eq_false g0
     by_cases g1 : 2147483647 < ks
     ·
      have hd3 : decide (2147483647 < ks) = true:=decide_eq_true g1
      have e : R = false:=HK.out.2.1 fun h => by have h1:=h.2.1; rw [← HV.out.1] at h1; omega
      subst e
      clear g0 g1
      go_wp2
      go_ret
      exact ⟨rfl,HE.out⟩
     ·
      have hd3 : decide (2147483647 < ks) = false:=decide_eq_false g1
      by_cases g2 : kf < 0
      ·
       have hd4 : decide (kf < 0) = true:=decide_eq_true g2
       have e : R = false:=HK.out.2.1 fun h => by have h1:=h.2.2.1; rw [← HV.out.2.1] at h1; omega
       subst e
       clear g0 g1 g2
       go_wp2
       go_ret
       exact ⟨rfl,HE.out⟩
      ·
       have hd4 : decide (kf < 0) = false:=decide_eq_false g2
       by_cases g3 : 1073741824 < kf
       ·
        have hd5 : decide (1073741824 < kf) = true:=decide_eq_true g3
        have e : R = false:=HK.out.2.1 fun h => by have h1:=h.2.2.2.1; rw [← HV.out.2.1] at h1; omega
        subst e
        clear g0 g1 g2 g3
        go_wp2
        go_ret
        exact ⟨rfl,HE.out⟩
       ·
        have hd5 : decide (1073741824 < kf) = false:=decide_eq_false g3
        have HOK:=veil (show okR l i from okR11_of HK.out.1 (by rw [← HV.out.1,← HV.out.2.2]; omega) (by rw [← HV.out.1]; omega) (by rw [← HV.out.2.1]; omega) (by rw [← HV.out.2.1]; omega))
        clear g0 g1 g2 g3
        go_wp2
        go_roundw
        case rel =>
         refine ⟨i + 1,by omega,by go_num,by rw [HK.out.2.2.2,← HV.out.1],fun j hj => ?_,HE.out⟩
         by_cases e : j = i
         ·
          subst e; exact HOK.out
         ·
          exact HK.out.1 j (by omega)
        case measure => simp [intOf]; omega
   ·
    obtain rfl : i = n:=by omega
    have hd1 : decide ((i : Int) < (i : Int)) = false:=by simp
    have e : R = true:=by
     rw [HR.out.1,mayRs_len (by rw [← HR.out.2.1]; exact hall),← HR.out.2.1]
     exact decide_eq_true (by have:=HB.out; omega)
    subst e
    clear hall
    go_wp2
    go_ret
    exact ⟨rfl,hE⟩
/-! ### Is -/
theorem isOne_calls (x : Rv) (s t : Int) (g1 g2 : Nat) (w : World) (h1 : w.cell? ⟨g1,0,none⟩ = some (.int .i64 s)) (h2 : w.cell? ⟨g2,0,none⟩ = some (.int .i64 t)) :
  Calls Tryz.prog 36 #[.agg (rvC x).toArray,.pointer (some ⟨g1,0,none⟩),.pointer (some ⟨g2,0,none⟩)] w fun e w' => e = .returned (.bool (decide (x.1 = s) && decide (x.2 ≤ t))) ∧ Ext w w':=by
 have l1:=World.block_lt_of_cell? _ _ h1
 have l2:=World.block_lt_of_cell? _ _ h2
 obtain ⟨x1,x2⟩:=x
 have hE:=Ext.alloc w (.cells #[.int .i64 x1,.int .i64 x2] 65)
 show Calls Tryz.prog 36 #[.agg #[.int .i64 x1,.int .i64 x2],.pointer (some ⟨g1,0,none⟩),.pointer (some ⟨g2,0,none⟩)] w fun e w' => e = .returned (.bool (decide (x1 = s) && decide (x2 ≤ t))) ∧ Ext w w'
 obtain ⟨R,hR⟩ : ∃ R,R = (decide (x1 = s) && decide (x2 ≤ t)):=⟨_,rfl⟩
 rw [← hR]
 go_enter Tryz.func36,Tryz.ntmps36
 go_upto_region 1 with (fail)
 have d1 : (w.alloc (.cells #[.int .i64 x1,.int .i64 x2] 65)).cell? ⟨g1,0,none⟩ = some (.int .i64 s):=(hE.cell l1).trans h1
 have d2 : (w.alloc (.cells #[.int .i64 x1,.int .i64 x2] 65)).cell? ⟨g2,0,none⟩ = some (.int .i64 t):=(hE.cell l2).trans h2
 have d3 : (w.alloc (.cells #[.int .i64 x1,.int .i64 x2] 65)).cell? ⟨w.heap.size,0,none⟩ = some (.int .i64 x1):=by simp
 have d4 : (w.alloc (.cells #[.int .i64 x1,.int .i64 x2] 65)).cell? ⟨w.heap.size,1,none⟩ = some (.int .i64 x2):=by simp
 generalize w.alloc (.cells #[.int .i64 x1,.int .i64 x2] 65) = w1 at *
 generalize w.heap.size = g at *
 have HE:=veil hE
 clear hE h1 h2 l1 l2
 by_cases e : x1 = s
 ·
  subst e
  have f1 : (x1 == x1) = true:=by simp
  rw [decide_eq_true (rfl : x1 = x1),Bool.true_and] at hR
  subst hR
  go_wp2
  go_ret
  exact ⟨rfl,HE.out⟩
 ·
  have f1 : (x1 == s) = false:=by simp [e]
  rw [decide_eq_false e,Bool.false_and] at hR
  subst hR
  clear e
  go_wp2
  go_ret
  exact ⟨rfl,HE.out⟩
def tells (s t : Int) (r : Rv) : Bool:=decide (r.1 = s) && decide (r.2 ≤ t)
theorem indexR_calls (v : Value) (l : List Rv) (s t : Int) (g1 g2 : Nat) (w : World) (hF : Rs w v l) (hL : l.length ≤ 1000000000) (h1 : w.cell? ⟨g1,0,none⟩ = some (.int .i64 s)) (h2 : w.cell? ⟨g2,0,none⟩ = some (.int .i64 t)) :
  Calls Tryz.prog 68 #[v,.func (.func 36) #[] #[.pointer (some ⟨g1,0,none⟩),.pointer (some ⟨g2,0,none⟩)]] w fun e w' => ∃ z : Int,e = .returned (.int .i64 z) ∧ decide (0 ≤ z) = l.any (tells s t) ∧ Ext w w':=by
 obtain ⟨AL,c,rfl,hc,hx⟩:=hF
 obtain ⟨n,hn⟩ : ∃ n,n = l.length:=⟨_,rfl⟩
 rw [← hn] at hx hc hL ⊢
 obtain ⟨R,hR⟩ : ∃ R,R = l.any (tells s t):=⟨_,rfl⟩
 rw [← hR]
 have HR:=veil (And.intro hR hn)
 have HX:=veil hx
 have l1:=World.block_lt_of_cell? _ _ h1
 have l2:=World.block_lt_of_cell? _ _ h2
 have KO:=veil (fun (x : Rv) W (h : Ext w W) => isOne_calls x s t g1 g2 W ((h.cell l1).trans h1) ((h.cell l2).trans h2))
 clear hR hx hn h1 h2 l1 l2
 go_enter Tryz.func68,Tryz.ntmps68
 go_wp2
 go_loopw [5,8] (fun _ v wr => ∃ i : Nat,i ≤ n ∧ v = .int .i64 (i : Int) ∧ (∀ j,j < i → tells s t (l.getD j (0,0)) = false) ∧ Ext w wr)
  (fun _ v _ => n - (intOf v).toNat)
 case atStart => exact ⟨0,by omega,rfl,fun j hj => by omega,Ext.refl _⟩
 case round =>
  obtain ⟨i,hi,rfl,hall,hE⟩:=hrel
  by_cases hlt : i < n
  ·
   have hd1 : decide ((i : Int) < (n : Int)) = true:=by simp; omega
   have hii : (i : Int) < (n : Int):=by omega
   obtain ⟨b,o,hAL,hb,hcl⟩:=HX.out.resolve_left (by omega)
   have hil : i < l.length:=by have:=HR.out.2; omega
   have HRG:=veil (zas hE hb (hcl i _ (zeh hil)))
   have hmem : l.getD i (0,0) ∈ l:=List.mem_of_getElem? (zeh hil)
   obtain ⟨k,hk⟩ : ∃ k,k = l.getD i (0,0):=⟨_,rfl⟩
   rw [← hk] at HRG hmem
   have KK:=veil (show Calls Tryz.prog 36 #[.agg (rvC k).toArray,.pointer (some ⟨g1,0,none⟩),.pointer (some ⟨g2,0,none⟩)] wr (fun e w' => e = .returned (.bool (tells s t k)) ∧ Ext wr w') from KO.out k wr hE)
   cases ho : tells s t k with
   | true =>
    rw [ho] at KK
    have e : R = true:=by
     rw [HR.out.1,List.any_eq_true]
     exact ⟨k,hmem,ho⟩
    subst e
    clear hmem ho hk hil hcl hall
    subst hAL
    go_wp2_with (first
     | ((with_reducible refine zaa 15 ?_); refine wpList_load_mid rfl 65 _ rfl b _ rfl (rvC k) _ HRG.out Tryz.underlying65 rfl (iRv k) ?_)
     | (go_at_call 36; refine KK.out.mono ?_; rintro e w1 ⟨rfl,hE1⟩))
    go_ret
    exact ⟨(i : Int),rfl,by simp,hE.trans hE1⟩
   | false =>
    rw [ho] at KK
    have hnext : ∀ j,j < i + 1 → tells s t (l.getD j (0,0)) = false:=fun j hj => by
     by_cases e : j = i
     ·
      subst e
      rw [← hk]
      exact ho
     ·
      exact hall j (by omega)
    have HN:=veil hnext
    clear hmem ho hk hil hcl hall hnext
    subst hAL
    go_wp2_with (first
     | ((with_reducible refine zaa 15 ?_); refine wpList_load_mid rfl 65 _ rfl b _ rfl (rvC k) _ HRG.out Tryz.underlying65 rfl (iRv k) ?_)
     | (go_at_call 36; refine KK.out.mono ?_; rintro e w1 ⟨rfl,hE1⟩))
    go_roundw
    case rel => exact ⟨i + 1,by omega,by go_num,HN.out,hE.trans hE1⟩
    case measure => simp [intOf]; omega
  ·
   obtain rfl : i = n:=by omega
   have hd1 : decide ((i : Int) < (i : Int)) = false:=by simp
   have e : R = false:=by
    rw [HR.out.1,List.any_eq_false]
    intro k hk
    obtain ⟨j,hj,rfl⟩:=List.mem_iff_getElem.1 hk
    have:=hall j (by have:=HR.out.2; omega)
    rw [List.getD_eq_getElem?_getD,List.getElem?_eq_getElem hj] at this
    simpa using this
   subst e
   clear hall
   go_wp2
   go_ret
   exact ⟨-1,rfl,by decide,hE⟩
theorem containsR_calls (v : Value) (l : List Rv) (s t : Int) (g1 g2 : Nat) (w : World) (hF : Rs w v l) (hL : l.length ≤ 1000000000) (h1 : w.cell? ⟨g1,0,none⟩ = some (.int .i64 s)) (h2 : w.cell? ⟨g2,0,none⟩ = some (.int .i64 t)) :
  Calls Tryz.prog 35 #[v,.func (.func 36) #[] #[.pointer (some ⟨g1,0,none⟩),.pointer (some ⟨g2,0,none⟩)]] w fun e w' => e = .returned (.bool (l.any (tells s t))) ∧ Ext w w':=by
 have KI:=veil (indexR_calls v l s t g1 g2 w hF hL h1 h2)
 obtain ⟨R,hR⟩ : ∃ R,R = l.any (tells s t):=⟨_,rfl⟩
 rw [← hR] at KI ⊢
 clear hF hL hR h1 h2
 go_enter Tryz.func35,Tryz.ntmps35
 go_wp2_with (go_at_call 68; refine KI.out.mono ?_; rintro e w1 ⟨z,rfl,hz,hE1⟩)
 go_ret
 exact ⟨by first | rfl | rw [hz],hE1⟩
theorem is11_calls (v : Value) (l : List Rv) (s t : Int) (w : World) (hF : Rs w v l) (hL : l.length ≤ 1000000000) :
  Calls Tryz.prog 18 #[v,.int .i64 s,.int .i64 t] w fun e w' => e = .returned (.bool (mayRs l && isR l s t)) ∧ Ext w w':=by
 have KM:=veil (fun W (hW : Rs W v l) => zcp v l W hW hL)
 obtain ⟨R,hR⟩ : ∃ R,R = (mayRs l && isR l s t):=⟨_,rfl⟩
 rw [← hR]
 have HF:=veil hF
 have hHL:=veil hL
 clear hF hL
 go_enter Tryz.func18,Tryz.ntmps18
 go_upto_region 1 with (fail)
 have d1 : ((w.alloc (.cells #[.int .i64 s] 3)).alloc (.cells #[.int .i64 t] 3)).cell? ⟨w.heap.size,0,none⟩ = some (.int .i64 s):=by simp
 have d2 : ((w.alloc (.cells #[.int .i64 s] 3)).alloc (.cells #[.int .i64 t] 3)).cell? ⟨w.heap.size + 1,0,none⟩ = some (.int .i64 t):=by simp
 have hE : Ext w ((w.alloc (.cells #[.int .i64 s] 3)).alloc (.cells #[.int .i64 t] 3)):=(Ext.alloc _ _).trans (Ext.alloc _ _)
 generalize (w.alloc (.cells #[.int .i64 s] 3)).alloc (.cells #[.int .i64 t] 3) = w1 at *
 generalize hg2 : w.heap.size + 1 = g2 at *
 generalize w.heap.size = g1 at *
 have HE:=veil (And.intro hE (And.intro d1 d2))
 clear hE d1 d2 hg2
 have KM1:=veil (KM.out w1 (HF.out.ext HE.out.1))
 clear KM
 cases hm : mayRs l with
 | false =>
  rw [hm] at KM1 hR
  replace hR : R = false:=hR
  subst hR
  clear hm
  go_wp2_with (go_at_call 27; refine KM1.out.mono ?_; rintro e w2 ⟨rfl,hE2⟩)
  go_ret
  exact ⟨rfl,HE.out.1.trans hE2⟩
 | true =>
  rw [hm] at KM1
  have KC:=veil (fun W (h : Ext w1 W) => containsR_calls v l s t g1 g2 W ((HF.out.ext HE.out.1).ext h) hHL.out ((h.cell (World.block_lt_of_cell? _ _ HE.out.2.1)).trans HE.out.2.1) ((h.cell (World.block_lt_of_cell? _ _ HE.out.2.2)).trans HE.out.2.2))
  have e : l.any (tells s t) = R:=by rw [hR,hm,Bool.true_and]; exact any_isR hm s t
  rw [e] at KC
  clear hm hR e
  go_wp2_with (first
   | (go_at_call 27; refine KM1.out.mono ?_; rintro e w2 ⟨rfl,hE2⟩)
   | (go_at_call 35; refine (KC.out _ hE2).mono ?_; rintro e w3 ⟨rfl,hE3⟩))
  go_ret
  exact ⟨rfl,HE.out.1.trans (hE2.trans hE3)⟩
theorem infoRv16f : (Tryz.prog.info? 65).map (fun i => (i.zero,i.size,i.bytes)) = some (some (.agg #[.int .i64 0,.int .i64 0]),2,16):=by kernel_rfl
theorem growR_calls (n : Nat) (h1 : n ≤ 1048576) (w : World) :
  Calls Tryz.prog 69 #[.slice none 0 0,.int .i64 (n : Int)] w fun e w' => (∃ v,e = .returned v ∧ OwnL 2 rvC w' w.heap.size 65 v []) ∧ Ext w w':=by
 by_cases h0 : 0 < n
 ·
  obtain ⟨i16,hi,hz,hsz,hby⟩:=zds infoRv16f
  have hr:=fun W => Lib.run_append_nil_zeros (P:=Tryz.prog) W 29 3 29 65 i16 _ .i64 .i64 Tryz.underlying29 Tryz.underlying3 hi hz n h0 (by rw [hsz]; decide) (by omega) (by rw [hby]; omega)
  have HR:=veil hr
  have hg:=grownCap_ge w n 0 65
  have hm:=grownCap_le_maxLen w n 0 65 (by unfold maxLen; omega)
  have HG:=veil (And.intro hg hm)
  have hi0 : (0 : Int) ≤ (n : Int):=by omega
  have hi1 : (0 : Int) < (n : Int):=by omega
  have hd0 : decide ((n : Int) < 0) = false:=by simp
  have hd1 : decide ((0 : Int) < (n : Int)) = true:=by simp; omega
  have hd2 : decide (0 < n) = true:=by simp; omega
  have hc0 : (0 : Int) ≤ (grownCap w n 0 65 : Int):=by omega
  clear hr hg hi hz hsz hby
  go_enter Tryz.func69,Tryz.ntmps69
  go_wp2_with (at_builtin; refine Lib.wpList_append_run _ rfl _ _ _ _ rfl _ _ rfl rfl _ _ (HR.out w) ?_)
  go_ret
  refine ⟨⟨_,rfl,⟨by simp,.inr ⟨w.heap.size,_,_,rfl,Nat.le_refl _,zab w.drew _,Nat.zero_le _,HG.out.2,?_,by simp⟩⟩⟩,(Ext.drew w).trans (Ext.alloc _ _)⟩
  have:=HG.out.1
  simp [size_zeroCells]
  omega
 ·
  obtain rfl : n = 0:=by omega
  go_enter Tryz.func69,Tryz.ntmps69
  go_wp2
  go_ret
  exact ⟨⟨_,rfl,OwnL.nil _ _ _⟩,Ext.refl _⟩
theorem concatR_calls (va vb : Value) (la lb : List Rv) (h : Nat) (w : World) (hA : Rs w va la) (hB : Rs w vb lb) (hla : la.length ≤ 1000) (hlb : lb.length ≤ 1000) (hh : w.heap[h]? = some (.cells #[va,vb] 29 (0,0))) :
  Calls Tryz.prog 37 #[.slice (some ⟨h,0,none⟩) 2 2] w fun e w' => ∃ v,e = .returned v ∧ OwnL 2 rvC w' w.heap.size 65 v (la ++ lb) ∧ Ext w w':=by
 obtain ⟨Aa,ca,rfl,hca,hxa⟩:=hA
 obtain ⟨Ab,cb,rfl,hcb,hxb⟩:=hB
 obtain ⟨i16,hi,hz,hsz,hby⟩:=zds infoRv16f
 have HI:=veil (And.intro hi (And.intro hz (And.intro hsz hby)))
 clear hi hz hsz hby
 have HA:=veil (show Rs w (.slice Aa la.length ca) la from ⟨Aa,ca,rfl,hca,hxa⟩)
 have HB:=veil (show Rs w (.slice Ab lb.length cb) lb from ⟨Ab,cb,rfl,hcb,hxb⟩)
 have c0 : w.cell? ⟨h,0,none⟩ = some (.slice Aa la.length ca):=cell_of_row w h 0 _ _ _ hh
 have c1 : w.cell? ⟨h,1,none⟩ = some (.slice Ab lb.length cb):=cell_of_row w h 1 _ _ _ hh
 have HH:=veil (And.intro hh (Array.getElem?_eq_some_iff.1 hh).1)
 obtain ⟨m,hm⟩ : ∃ m,m = la.length:=⟨_,rfl⟩
 obtain ⟨n,hn⟩ : ∃ n,n = lb.length:=⟨_,rfl⟩
 rw [← hm] at HA c0 hla
 rw [← hn] at HB c1 hlb
 have HM:=veil (And.intro hm hn)
 have GC:=veil (fun W => growR_calls (m + n) (by omega) W)
 clear hxa hxb hca hcb hh hm hn
 go_enter Tryz.func37,Tryz.ntmps37
 go_wp2
 refine wp_loop_rounds 3 ?_
 rw [rounds_succ]
 go_wp2
 rw [rounds_succ]
 go_wp2
 rw [rounds_succ]
 go_wp2_with fail
 have G:=GC.out w
 rw [show ((m + n : Nat) : Int) = (m : Int) + (n : Int) by omega] at G
 refine G.mono ?_
 clear G GC
 rintro e w1 ⟨⟨v,rfl,hO⟩,hE⟩
 have d0 : w1.cell? ⟨h,0,none⟩ = some (.slice Aa m ca):=(hE.cell HH.out.2).trans c0
 have HO:=veil (And.intro hO hE)
 clear hO hE c0
 go_wp2
 refine wp_loop_rounds 3 ?_
 rw [rounds_succ]
 go_wp2_with ((with_reducible refine zaa 33 ?_); refine zfx (sz:=2) (cs:=rvC) (l:=[]) (ys:=la) Tryz.underlying29 HI.out.1 HI.out.2.1 HI.out.2.2.1 HI.out.2.2.2 rfl (by decide) zat rvC_one rfl rfl rfl rfl HO.out.1 HM.out.1 (HA.out.ext HO.out.2) (by unfold maxLen; simp; omega) (by simp; omega) (Below.size HO.out.2) ?_; intro v2 w2 hO2 hG2)
 have hE2 : Ext w w2:=HO.out.2.grown hG2 (Below.size HO.out.2) fun k hk => (HO.out.1.lt hk).1
 rw [List.nil_append] at hO2
 have d1 : w2.cell? ⟨h,1,none⟩ = some (.slice Ab n cb):=(hE2.cell HH.out.2).trans c1
 have HO2:=veil (And.intro hO2 hE2)
 clear hO2 hE2 hG2 c1 d0 HO
 rw [rounds_succ]
 go_wp2_with ((with_reducible refine zaa 33 ?_); refine zfx (sz:=2) (cs:=rvC) (l:=la) (ys:=lb) Tryz.underlying29 HI.out.1 HI.out.2.1 HI.out.2.2.1 HI.out.2.2.2 rfl (by decide) zat rvC_one rfl rfl rfl rfl HO2.out.1 HM.out.2 (HB.out.ext HO2.out.2) (by rw [← HM.out.1]; unfold maxLen; omega) (by rw [← HM.out.1]; omega) (Below.size HO2.out.2) ?_; intro v3 w3 hO3 hG3)
 have hE3 : Ext w w3:=HO2.out.2.grown hG3 (Below.size HO2.out.2) fun k hk => (HO2.out.1.lt hk).1
 have HO3:=veil (And.intro hO3 hE3)
 clear hO3 hE3 hG3 d1
 rw [rounds_succ]
 go_wp2
 go_ret
 exact ⟨_,rfl,HO3.out.1,HO3.out.2⟩
def RowR (W : World) (g : Nat) (D : List Rv) : Prop:=g < W.heap.size ∧ (∀ i,i < D.length → W.there g (i * 2) 2) ∧ ∀ i x,D[i]? = some x → W.rangeAt g (i * 2) (rvC x)
theorem RowR.ext {W W' : World} {g : Nat} {D : List Rv} (h : RowR W g D) (k : Ext W W') : RowR W' g D :=
 ⟨Nat.lt_of_lt_of_le h.1 (Below.size k),fun i hi j hj => by
  have:=h.2.1 i hi j hj
  exact ⟨by rw [k.cell h.1]; exact this.1,by rw [Below.frozen k (p:=⟨g,i * 2 + j,none⟩) h.1]; exact this.2⟩,fun i x hi => zas k h.1 (h.2.2 i x hi)⟩
theorem butR_setCell (w : World) (g o : Nat) (v : Value) : w.grownBy (w.setCell ⟨g,o,none⟩ v) (some g) :=
 ⟨rfl,rfl,rfl,by simp,fun k _ hk => Below.heap_setCell _ _ _ k (fun e => hk (by rw [e]))⟩
theorem zci (g : Nat) : ∀ (vs : List Value) (o : Nat) (w : World),w.grownBy (w.setCells g o vs) (some g)
 | [],_,w => World.grownBy.refl w _
 | v :: r,o,w => (butR_setCell w g o v).trans (zci g r (o + 1) _)
theorem zhd {w w' : World} (h : Ext w w') (row : Option Nat) : w.grownBy w' row:=⟨Below.os h,Below.tape h,Below.output h,Below.size h,fun k hk _ => Below.block h k hk⟩
theorem RowR.set {W : World} {g : Nat} {D : List Rv} (h : RowR W g D) {k : Nat} (hk : k < D.length) (x : Rv) : RowR (W.setCells g (k * 2) (rvC x)) g (D.set k x):=by
 have hg:=zci g (rvC x) (k * 2) W
 refine ⟨Nat.lt_of_lt_of_le h.1 hg.size,fun i hi => ?_,fun i y hi => ?_⟩
 ·
  rw [List.length_set] at hi
  exact World.there_setCells (h.2.1 i hi) g (k * 2) (rvC x)
 ·
  by_cases e : i = k
  ·
   subst e
   rw [List.getElem?_set_self hk] at hi
   obtain rfl:=Option.some.inj hi
   exact World.rangeAt_setCells_same W g (i * 2) (rvC x) (h.2.1 i hk)
  ·
   rw [List.getElem?_set_ne (fun h => e h.symm)] at hi
   exact World.rangeAt_setCells_apart (h.2.2 i y hi) g (k * 2) (rvC x) (.inr (by rw [zat,zat]; omega))
theorem RowR.cut {W : World} {g k : Nat} {D : List Rv} (h : RowR W g D) {vs : List Value} : ∀ i x,i < k → D[i]? = some x → (W.setCells g (k * 2) vs).rangeAt g (i * 2) (rvC x):=fun i x hk hi =>
 World.rangeAt_setCells_apart (h.2.2 i x hi) g (k * 2) vs (.inr (.inl (by rw [zat]; omega)))
theorem run_clearR (w : World) (g o n c : Nat) (hn : 0 < n) (hc : ∀ j,j < n * 2 → (w.cell? ⟨g,o + j,none⟩).isSome = true ∧ w.frozen? ⟨g,o + j,none⟩ = false) :
  ∃ vs,∀ ty,(Builtin.clear_ #[29] ty #[.slice (some ⟨g,o,none⟩) n c]).run Tryz.prog w = .ok (.tuple #[]) (w.setCells g o vs):=by
 have hl : (Builtin.zeroCells #[.int .i64 0,.int .i64 0] n).toList.length = n * 2:=by rw [Array.length_toList,size_zeroCells]; rfl
 have h1 : ∀ v ∈ (Builtin.zeroCells #[.int .i64 0,.int .i64 0] n).toList,v.oneCell' = true:=by
  intro v hv
  rw [Array.mem_toList_iff] at hv
  unfold Builtin.zeroCells at hv
  obtain ⟨i,_,rfl⟩:=Array.mem_map.1 hv
  have hi : i % 2 = 0 ∨ i % 2 = 1:=by omega
  show ((#[Value.int .i64 0,Value.int .i64 0] : Array Value)[i % 2]!).oneCell' = true
  rcases hi with e | e <;> rw [e] <;> rfl
 have hst:=run_storeCells_cells (P:=Tryz.prog) g o (Builtin.zeroCells #[.int .i64 0,.int .i64 0] n).toList 0 w (by rw [hl]; intro j hj; exact (hc j hj).1) (by rw [hl]; intro j hj; exact (hc j hj).2) h1
 simp only [Nat.add_zero] at hst
 obtain ⟨m,rfl⟩ : ∃ m,n = m + 1:=⟨n - 1,by omega⟩
 refine ⟨(Builtin.zeroCells #[.int .i64 0,.int .i64 0] (m + 1)).toList,fun ty => ?_⟩
 simp [Builtin.clear_,run_underlying Tryz.underlying29,Tryz.zeroValue65,Value.cells,hst]
theorem sameS_calls (x y : Rv) (w : World) : Calls Tryz.prog 41 #[.agg (rvC x).toArray,.agg (rvC y).toArray] w fun e w' => e = .returned (.bool (decide (x.1 = y.1))) ∧ Ext w w':=by
 obtain ⟨x1,x2⟩:=x
 obtain ⟨y1,y2⟩:=y
 show Calls Tryz.prog 41 #[.agg #[.int .i64 x1,.int .i64 x2],.agg #[.int .i64 y1,.int .i64 y2]] w fun e w' => e = .returned (.bool (decide (x1 = y1))) ∧ Ext w w'
 obtain ⟨R,hR⟩ : ∃ R,R = decide (x1 = y1):=⟨_,rfl⟩
 rw [← hR]
 have f1 : (x1 == y1) = R:=by rw [hR]; rfl
 clear hR
 go_enter Tryz.func41,Tryz.ntmps41
 go_wp2
 go_ret
 exact ⟨rfl,(Ext.alloc _ _).trans (Ext.alloc _ _)⟩
theorem sliceR_from (g n c k : Nat) (hk : k < n) (hn : n ≤ c) (w : World) : (Instr.sliceAt 29 (.slice (some ⟨g,0,none⟩) n c) (some (.int .i64 (k : Int))) none none).run Tryz.prog w = .ok (.slice (some ⟨g,k * 2,none⟩) (n - k) (c - k)) w:=by
 have e2 : ((sizeOf (Tryz.prog.elem 29)).run Tryz.prog w) = .ok 2 w:=by kernel_rfl
 rw [run_sliceAt_slice w 29 _ _ _ _ (by kernel_rfl),run_slice_l w 29 (some ⟨g,0,none⟩) n c (by kernel_rfl) .i64 (k : Int) (by omega) (by omega),e2]
 simp only [Result.andThen,sliced,Int.toNat_natCast]
 rw [if_neg (by omega)]
 simp [Addr.add_mid]
theorem sliceR_to (g n c k : Nat) (hk : k ≤ c) (h0 : 0 < k) (w : World) : (Instr.sliceAt 29 (.slice (some ⟨g,0,none⟩) n c) none (some (.int .i64 (k : Int))) none).run Tryz.prog w = .ok (.slice (some ⟨g,0,none⟩) k c) w:=by
 have e2 : ((sizeOf (Tryz.prog.elem 29)).run Tryz.prog w) = .ok 2 w:=by kernel_rfl
 rw [run_sliceAt_slice w 29 _ _ _ _ (by kernel_rfl),run_slice_h w 29 (some ⟨g,0,none⟩) n c (by kernel_rfl) .i64 (k : Int) (by omega) (by omega),e2]
 simp only [Result.andThen,sliced,Int.toNat_natCast]
 rw [if_neg (by omega)]
 simp [Addr.add_mid]
theorem RowR.rs {W : World} {g n cap : Nat} {D : List Rv} (h : RowR W g D) (hn : n = D.length) (hc : n ≤ cap) : Rs W (.slice (some ⟨g,0,none⟩) n cap) D:=by
 subst hn
 exact ⟨_,_,rfl,hc,.inr ⟨g,0,rfl,h.1,fun i x hi => by rw [Nat.zero_add]; exact h.2.2 i x hi⟩⟩
theorem compactRow_calls (g cap : Nat) (d : List Rv) (w : World) (hR : RowR w g d) (hcap : d.length ≤ cap) (hd : d.length ≤ 100000) :
  Calls Tryz.prog 40 #[.slice (some ⟨g,0,none⟩) d.length cap,.func (.func 41) #[] #[]] w fun e w' => (∃ v,e = .returned v ∧ Rs w' v (cpt d)) ∧ w.grownBy w' (some g):=by
 obtain ⟨n,hn⟩ : ∃ n,n = d.length:=⟨_,rfl⟩
 rw [← hn] at hcap hd ⊢
 have HD:=veil (And.intro hn hR)
 have KS:=veil (fun x y W => sameS_calls x y W)
 clear hn hR
 go_enter Tryz.func40,Tryz.ntmps40
 by_cases hsm : n < 2
 ·
  have hd0 : decide ((n : Int) < 2) = true:=by simp; omega
  have hc : cpt d = d:=by
   have h2 : d.length < 2:=by rw [← HD.out.1]; exact hsm
   match d,h2 with
   | [],_ => rfl
   | [_],_ => rfl
  have HC:=veil hc
  clear hsm hc
  go_wp2
  go_ret
  exact ⟨⟨_,rfl,by rw [HC.out]; exact HD.out.2.rs HD.out.1 hcap⟩,World.grownBy.refl _ _⟩
 ·
  have hd0 : decide ((n : Int) < 2) = false:=by simp; omega
  have HS:=veil hsm
  clear hsm
  go_wp2
  go_loopw [5] (fun v wr => ∃ k : Nat,1 ≤ k ∧ k ≤ n ∧ v = .int .i64 (k : Int) ∧ cpt (d.take k) = d.take k ∧ Ext w wr)
   (fun v _ => n - (intOf v).toNat)
  case atStart =>
   refine ⟨1,by omega,by have:=HS.out; omega,rfl,?_,Ext.refl _⟩
   match d with
   | [] => rfl
   | _ :: _ => rfl
  case round =>
   obtain ⟨k,hk1,hk,rfl,hcp,hE⟩:=hrel
   by_cases hlt : k < n
   ·
    have hd1 : decide ((k : Int) < (n : Int)) = true:=by simp; omega
    have hkn : (k : Int) < (n : Int):=by omega
    have hkl : k < d.length:=by have:=HD.out.1; omega
    have hRw:=HD.out.2.ext hE
    have HX:=veil (And.intro hRw.1 (hRw.2.2 k _ (zeh hkl)))
    have HY:=veil (And.intro hRw.1 (hRw.2.2 (k - 1) _ (zeh (show k - 1 < d.length by omega))))
    have hst:=cpt_take (l:=d) (i:=k) (by omega) hkl
    have hxs : (d.getD k (0,0)).1 = rvS d k:=rfl
    have hys : (d.getD (k - 1) (0,0)).1 = rvS d (k - 1):=rfl
    have htk : d.take (k + 1) = d.take k ++ [d.getD k (0,0)]:=by rw [List.take_add_one,zeh hkl]; rfl
    generalize d.getD k (0,0) = x at *
    generalize d.getD (k - 1) (0,0) = y at *
    have hm1 : (k : Int) - 1 = ((k - 1 : Nat) : Int):=by omega
    obtain ⟨m,hm⟩ : ∃ m,m = k - 1:=⟨_,rfl⟩
    rw [← hm] at hm1 HY
    have hmn : (m : Int) < (n : Int):=by omega
    have hm0 : (0 : Int) ≤ (m : Int):=by omega
    have HE:=veil (And.intro hE (And.intro hcp (And.intro hst (And.intro htk (And.intro hxs (And.intro hys hm))))))
    have KK:=veil (fun W => KS.out x y W)
    clear hE hcp hst htk hxs hys hm hRw hkl
    go_upto_region 6 with (fail)
    cases hq : decide (x.1 = y.1) with
    | false =>
     rw [hq] at KK
     have hne : ¬ rvS d k = rvS d (k - 1):=by
      have:=of_decide_eq_false hq
      rwa [HE.out.2.2.2.2.1,HE.out.2.2.2.2.2.1] at this
     have HN:=veil hne
     clear hq hne
     refine zdc 11 [(true,[0,1,2,3,4,5,6,7,8,9,10])] (by kernel_rfl) (by kernel_rfl) fun Q' hQ' => ?_
     refine' zbj (A:=_) _ rfl (by kernel_rfl) ?_ ?_
     rotate_left
     ·
      intro D' hD' hN'
      have e1:=veil (fun z : Gw D' => zee hD' (v:=.bool false) (fun W _ => KK.out W) z)
      simp only [pickI,consO,List.getElem?_cons_zero,List.getElem?_cons_succ]
      iterate 4 (go_big_quiet_step (fail))
      go_big_quiet_want
      refine zba (.agg (rvC x).toArray) (fun z => zbc rfl rfl (zbg hD' HX.out.1 HX.out.2 z) Tryz.underlying65 rfl (iRv x)) ?_
      simp only [aP,lA,lZ,lS]
      go_big_quiet_on
      iterate 4 (go_big_quiet_step (fail))
      go_big_quiet_want
      refine zba (.agg (rvC y).toArray) (fun z => zbc rfl rfl (zbg hD' HY.out.1 HY.out.2 z) Tryz.underlying65 rfl (iRv y)) ?_
      simp only [aP,lA,lZ,lS]
      go_big_quiet_on
      go_big_quiet_step (exact e1.out _)
      exact zct
     refine zcc hQ' fun W3 hE3 => ?_
     have HE3:=veil hE3
     clear hE3
     go_wp2
     go_roundw
     case rel =>
      refine ⟨k + 1,by omega,by omega,by go_num,?_,HE.out.1.trans HE3.out⟩
      rw [HE.out.2.2.1,if_neg HN.out,HE.out.2.1,HE.out.2.2.2.1]
     case measure => simp [intOf]; omega
    | true =>
     rw [hq] at KK
     have heq : rvS d k = rvS d (k - 1):=by
      have:=of_decide_eq_true hq
      rwa [HE.out.2.2.2.2.1,HE.out.2.2.2.2.2.1] at this
     have hc1 : cpt (d.take (k + 1)) = d.take k:=by rw [HE.out.2.2.1,if_pos heq,HE.out.2.1]
     have HN:=veil hc1
     clear hq heq hc1
     refine zdc 11 [(true,[0,1,2,3,4,5,6,7,8,9,10])] (by kernel_rfl) (by kernel_rfl) fun Q' hQ' => ?_
     refine' zbj (A:=_) _ rfl (by kernel_rfl) ?_ ?_
     rotate_left
     ·
      intro D' hD' hN'
      have e1:=veil (fun z : Gw D' => zee hD' (v:=.bool true) (fun W _ => KK.out W) z)
      simp only [pickI,consO,List.getElem?_cons_zero,List.getElem?_cons_succ]
      iterate 4 (go_big_quiet_step (fail))
      go_big_quiet_want
      refine zba (.agg (rvC x).toArray) (fun z => zbc rfl rfl (zbg hD' HX.out.1 HX.out.2 z) Tryz.underlying65 rfl (iRv x)) ?_
      simp only [aP,lA,lZ,lS]
      go_big_quiet_on
      iterate 4 (go_big_quiet_step (fail))
      go_big_quiet_want
      refine zba (.agg (rvC y).toArray) (fun z => zbc rfl rfl (zbg hD' HY.out.1 HY.out.2 z) Tryz.underlying65 rfl (iRv y)) ?_
      simp only [aP,lA,lZ,lS]
      go_big_quiet_on
      go_big_quiet_step (exact e1.out _)
      exact zct
     refine zcc hQ' fun W3 hE3 => ?_
     have HE3:=veil (HE.out.1.trans hE3)
     have hsl:=fun W => sliceR_from g n cap k hlt hcap W
     obtain ⟨r,hr⟩ : ∃ r,r = n - k:=⟨_,rfl⟩
     rw [← hr] at hsl
     have hrb : r ≤ 100000:=by omega
     have HR:=veil hr
     clear hE3 hm1 hmn hm0 HX HY KK hr
     go_wp2
     clear hsl
     go_loopw [5,7] (fun v u wr => ∃ (q j : Nat) (D : List Rv),1 ≤ j ∧ j ≤ r ∧ v = .int .i64 (q : Int) ∧ u = .int .i64 (j : Int) ∧ q = (cpt (d.take (k + j))).length ∧ q + 1 ≤ k + j ∧ D.length = n ∧ RowR wr g D ∧
       (∀ i,i < q → D[i]? = (cpt (d.take (k + j)))[i]?) ∧ (∀ i,k + j ≤ i + 1 → D[i]? = d[i]?) ∧ w.grownBy wr (some g))
      (fun _ u _ => r - (intOf u).toNat)
     case atStart =>
      refine ⟨k,1,d,by omega,by have:=HR.out; omega,rfl,rfl,?_,by omega,HD.out.1.symm,HD.out.2.ext HE3.out,fun i hi => ?_,fun i _ => rfl,zhd HE3.out _⟩
      ·
       rw [HN.out,List.length_take]; have:=HD.out.1; omega
      ·
       rw [HN.out,List.getElem?_take_of_lt hi]
     case round =>
      obtain ⟨q,j,D,hj1,hj,rfl,rfl,hq,hqk,hDl,hRw,hlow,hhigh,hG⟩:=hrel
      by_cases hjr : j < r
      ·
       have hd2 : decide ((j : Int) < (r : Int)) = true:=by simp; omega
       have hjn : (j : Int) < (r : Int):=by omega
       have hkj : k + j < d.length:=by have:=HR.out; have:=HD.out.1; omega
       have hX : D[k + j]? = some (d.getD (k + j) (0,0)):=by rw [hhigh _ (by omega)]; exact zeh hkj
       have hY : D[k + (j - 1)]? = some (d.getD (k + j - 1) (0,0)):=by
        rw [show k + (j - 1) = k + j - 1 by omega,hhigh _ (by omega)]
        exact zeh (by omega)
       have rX:=hRw.2.2 _ _ hX
       have rY:=hRw.2.2 _ _ hY
       rw [Nat.add_mul] at rX rY
       have hst:=cpt_take (l:=d) (i:=k + j) (by omega) hkj
       have hxs : (d.getD (k + j) (0,0)).1 = rvS d (k + j):=rfl
       have hys : (d.getD (k + j - 1) (0,0)).1 = rvS d (k + j - 1):=rfl
       generalize d.getD (k + j) (0,0) = x2 at *
       generalize d.getD (k + j - 1) (0,0) = y2 at *
       have hm1 : (j : Int) - 1 = ((j - 1 : Nat) : Int):=by omega
       obtain ⟨m2,hm⟩ : ∃ m,m = j - 1:=⟨_,rfl⟩
       rw [← hm] at hm1 rY
       have hmn : (m2 : Int) < (r : Int):=by omega
       have hm0 : (0 : Int) ≤ (m2 : Int):=by omega
       have HX:=veil (And.intro hRw.1 rX)
       have HY:=veil (And.intro hRw.1 rY)
       have hqn : q < n:=by have:=HR.out; omega
       have hqi : (q : Int) < (n : Int):=by omega
       have HI:=veil (And.intro hRw (And.intro hlow (And.intro hhigh (And.intro hG (And.intro hq (And.intro hst (And.intro hxs (And.intro hys (And.intro hX (And.intro hDl hm))))))))))
       have KK:=veil (fun W => KS.out x2 y2 W)
       clear rX rY hRw hlow hhigh hG hq hst hxs hys hX hY hDl hm hkj
       go_upto_region 11 with (fail)
       cases hb : decide (x2.1 = y2.1) with
       | true =>
        rw [hb] at KK
        have heq : rvS d (k + j) = rvS d (k + j - 1):=by
         have:=of_decide_eq_true hb
         rwa [HI.out.2.2.2.2.2.2.1,HI.out.2.2.2.2.2.2.2.1] at this
        have HN2:=veil heq
        clear hb heq
        refine zdc 12 [(true,[0,1,2,3,4,5,6,7,8,9,10,11])] (by kernel_rfl) (by kernel_rfl) fun Q' hQ' => ?_
        refine' zbj (A:=_) _ rfl (by kernel_rfl) ?_ ?_
        rotate_left
        ·
         intro D' hD' hN'
         have e1:=veil (fun z : Gw D' => zee hD' (v:=.bool true) (fun W _ => KK.out W) z)
         simp only [pickI,consO,List.getElem?_cons_zero,List.getElem?_cons_succ]
         iterate 4 (go_big_quiet_step (fail))
         go_big_quiet_want
         refine zba (.agg (rvC x2).toArray) (fun z => zbc rfl rfl (zbg hD' HX.out.1 HX.out.2 z) Tryz.underlying65 rfl (iRv x2)) ?_
         simp only [aP,lA,lZ,lS]
         go_big_quiet_on
         iterate 4 (go_big_quiet_step (fail))
         go_big_quiet_want
         refine zba (.agg (rvC y2).toArray) (fun z => zbc rfl rfl (zbg hD' HY.out.1 HY.out.2 z) Tryz.underlying65 rfl (iRv y2)) ?_
         simp only [aP,lA,lZ,lS]
         go_big_quiet_on
         go_big_quiet_step (exact e1.out _)
         go_big_quiet_step (fail)
         exact zct
        refine zcc hQ' fun W4 hE4 => ?_
        have HE4:=veil hE4
        clear hE4 hm1 hmn hm0 HX HY KK
        go_wp2
        go_roundw
        case rel =>
         have e : cpt (d.take (k + (j + 1))) = cpt (d.take (k + j)):=by rw [← Nat.add_assoc,HI.out.2.2.2.2.2.1,if_pos HN2.out]
         exact ⟨q,j + 1,D,by omega,by omega,rfl,by go_num,by rw [e]; exact HI.out.2.2.2.2.1,by omega,HI.out.2.2.2.2.2.2.2.2.2.1,HI.out.1.ext HE4.out,by rw [e]; exact HI.out.2.1,fun i hi => HI.out.2.2.1 i (by omega),HI.out.2.2.2.1.trans (zhd HE4.out _)⟩
        case measure => simp [intOf]; omega
       | false =>
        rw [hb] at KK
        have hne : ¬ rvS d (k + j) = rvS d (k + j - 1):=by
         have:=of_decide_eq_false hb
         rwa [HI.out.2.2.2.2.2.2.1,HI.out.2.2.2.2.2.2.2.1] at this
        have HN2:=veil hne
        clear hb hne
        refine zdc 12 [(true,[0,1,2,3,4,5,6,7,8,9,10,11])] (by kernel_rfl) (by kernel_rfl) fun Q' hQ' => ?_
        refine' zbj (A:=_) _ rfl (by kernel_rfl) ?_ ?_
        rotate_left
        ·
         intro D' hD' hN'
         have e1:=veil (fun z : Gw D' => zee hD' (v:=.bool false) (fun W _ => KK.out W) z)
         simp only [pickI,consO,List.getElem?_cons_zero,List.getElem?_cons_succ]
         iterate 4 (go_big_quiet_step (fail))
         go_big_quiet_want
         refine zba (.agg (rvC x2).toArray) (fun z => zbc rfl rfl (zbg hD' HX.out.1 HX.out.2 z) Tryz.underlying65 rfl (iRv x2)) ?_
         simp only [aP,lA,lZ,lS]
         go_big_quiet_on
         iterate 4 (go_big_quiet_step (fail))
         go_big_quiet_want
         refine zba (.agg (rvC y2).toArray) (fun z => zbc rfl rfl (zbg hD' HY.out.1 HY.out.2 z) Tryz.underlying65 rfl (iRv y2)) ?_
         simp only [aP,lA,lZ,lS]
         go_big_quiet_on
         go_big_quiet_step (exact e1.out _)
         go_big_quiet_step (fail)
         exact zct
        refine zcc hQ' fun W4 hE4 => ?_
        have hRw4:=HI.out.1.ext hE4
        have HW4:=veil (And.intro hRw4 (And.intro (hRw4.2.1 q (by rw [HI.out.2.2.2.2.2.2.2.2.2.1]; exact hqn)) (And.intro (zas hE4 HX.out.1 HX.out.2) hE4)))
        clear hE4 hm1 hmn hm0 HX HY KK hRw4
        go_wp2_with (first
         | ((with_reducible refine zaa 55 ?_); refine wpList_load_mid rfl 65 _ rfl g _ rfl (rvC x2) _ HW4.out.2.2.1 Tryz.underlying65 rfl (iRv x2) ?_)
         | ((with_reducible refine zae ?_); refine wpList_store_mid rfl 65 _ _ rfl g (q * 2) (rvC x2).toArray rfl rfl HW4.out.2.1 (iRvA x2) (rvA_one x2) ?_))
        go_roundw
        case rel =>
         have e : cpt (d.take (k + (j + 1))) = cpt (d.take (k + j)) ++ [x2]:=by
          rw [← Nat.add_assoc,HI.out.2.2.2.2.2.1,if_neg HN2.out]
         have hq:=HI.out.2.2.2.2.1
         have hDl:=HI.out.2.2.2.2.2.2.2.2.2.1
         refine ⟨q + 1,j + 1,D.set q x2,by omega,by omega,by go_num,by go_num,by rw [e,List.length_append,← hq]; rfl,by omega,by rw [List.length_set]; exact hDl,HW4.out.1.set (by omega) x2,fun i hi => ?_,fun i hi => ?_,(HI.out.2.2.2.1.trans (zhd HW4.out.2.2.2 _)).trans (zci g _ _ _)⟩
         ·
          rw [e]
          by_cases ei : i = q
          ·
           subst ei
           rw [List.getElem?_set_self (by omega),List.getElem?_append_right (by omega),← hq,Nat.sub_self]
           rfl
          ·
           rw [List.getElem?_set_ne (fun h => ei h.symm),List.getElem?_append_left (by omega)]
           exact HI.out.2.1 i (by omega)
         ·
          rw [List.getElem?_set_ne (by omega)]
          exact HI.out.2.2.1 i (by omega)
        case measure => simp [intOf]; omega
      ·
       obtain rfl : j = r:=by omega
       have hd2 : decide ((j : Int) < (j : Int)) = false:=by simp
       have hkr : k + j = d.length:=by have:=HR.out; have:=HD.out.1; omega
       rw [hkr,List.take_length] at hq hlow
       have hq0 : 0 < q:=by rw [hq]; exact cpt_1 (by omega)
       have hqn : q < n:=by have:=HR.out; have:=HD.out.1; omega
       have hs1:=fun W => sliceR_from g n cap q hqn hcap W
       have hs2:=fun W => sliceR_to g n cap q (by omega) hq0 W
       obtain ⟨vs,hvs⟩:=run_clearR wr g (q * 2) (n - q) (cap - q) (by omega) (fun i hi => by
        have h1:=hRw.2.1 (q + i / 2) (by omega) (i % 2) (by omega)
        rwa [show (q + i / 2) * 2 + i % 2 = q * 2 + i by omega] at h1)
       obtain ⟨s,hs⟩ : ∃ s,s = n - q:=⟨_,rfl⟩
       rw [← hs] at hvs hs1
       have HF:=veil (And.intro hRw (And.intro hlow (And.intro hq (And.intro hDl hG))))
       clear hRw hlow hhigh hq hDl hG hs
       go_wp2
       go_ret
       have hgb:=zci g vs (q * 2) wr
       refine ⟨⟨_,rfl,⟨some ⟨g,0,none⟩,cap,by rw [← HF.out.2.2.1]; rfl,by rw [← HF.out.2.2.1]; omega,.inr ⟨g,0,rfl,Nat.lt_of_lt_of_le HF.out.1.1 hgb.size,fun i x' hi => ?_⟩⟩⟩,HF.out.2.2.2.2.trans hgb⟩
       have hiq : i < q:=by rw [HF.out.2.2.1]; exact (List.getElem?_eq_some_iff.1 hi).1
       rw [Nat.zero_add]
       exact HF.out.1.cut i x' hiq ((HF.out.2.1 i hiq).trans hi)
   ·
    obtain rfl : k = n:=by omega
    have hd1 : decide ((k : Int) < (k : Int)) = false:=by simp
    have e : cpt d = d:=by rw [HD.out.1,List.take_length] at hcp; exact hcp
    have HC:=veil e
    clear e hcp
    go_wp2
    go_ret
    exact ⟨⟨_,rfl,by rw [HC.out]; exact (HD.out.2.ext hE).rs HD.out.1 hcap⟩,zhd hE _⟩
theorem RowR.of {w : World} {base g cap : Nat} {D : List Rv} (h : OwnL 2 rvC w base 65 (.slice (some ⟨g,0,none⟩) D.length cap) D) : RowR w g D ∧ D.length ≤ cap:=by
 have hls:=h.ls zat
 rcases h.2 with ⟨e,_⟩ | ⟨g',cap',cur,e,hb,hh,hn,hm,hs,ht⟩
 ·
  cases e
 ·
  injection e with e1 _ e3
  injection e1 with e1
  injection e1 with e1 _ _
  subst e1 e3
  have hlt:=(Array.getElem?_eq_some_iff.1 hh).1
  refine ⟨⟨hlt,fun i hi j hj => ⟨?_,by simp [World.frozen?,hh]⟩,fun i x hi => ?_⟩,hn⟩
  ·
   rw [cell_of_row w g _ cur _ _ hh,Array.getElem?_eq_getElem (show i * 2 + j < cur.size by omega)]
   rfl
  ·
   obtain ⟨A,c,e,_,hx⟩:=hls
   injection e with e1 _ _
   rcases hx with h0 | ⟨b,o,rfl,_,hr⟩
   ·
    have:=(List.getElem?_eq_some_iff.1 hi).1
    omega
   ·
    injection e1 with e1
    injection e1 with e2 e3 _
    subst e2 e3
    have:=hr i x hi
    rwa [Nat.zero_add] at this
theorem compactR_calls (v : Value) (d : List Rv) (base : Nat) (w : World) (hO : OwnL 2 rvC w base 65 v d) (hd : d.length ≤ 100000) :
  Calls Tryz.prog 40 #[v,.func (.func 41) #[] #[]] w fun e w' => (∃ v',e = .returned v' ∧ Rs w' v' (cpt d)) ∧ w.grownBy w' v.ownBlock:=by
 rcases hO.2 with ⟨rfl,h0⟩ | ⟨g,cap,cur,rfl,_⟩
 ·
  obtain rfl : d = []:=List.length_eq_zero_iff.1 h0
  go_enter Tryz.func40,Tryz.ntmps40
  go_wp2
  go_ret
  exact ⟨⟨_,rfl,Ls.nil _ _ _⟩,World.grownBy.refl _ _⟩
 ·
  obtain ⟨hR,hc⟩:=RowR.of hO
  exact compactRow_calls g cap d w hR hc hd
end Go.Proofs.YtbfkecfcolcclaaGreatDoor
namespace Go.Proofs.YtbfkecfcolcclaaGreatDoor
open Go.Shelf
def sortR_ren : Go.Shelf.Ren:=⟨fun | 6 => 38 | 15 => 71 | 14 => 70 | 28 => 113 | 29 => 114 | 20 => 105 | 21 => 106 | 22 => 107 | 23 => 108 | 24 => 109 | 25 => 110 | 26 => 111 | 27 => 112 | 46 => 160 | 47 => 161 | 48 => 162 | 49 => 163 | 50 => 164 | 57 => 198 | n => n,fun | 22 => 29 | 24 => 65 | 25 => 79 | 3 => 3 | 39 => 116 | 0 => 0 | 53 => 163 | 55 => 56 | 4 => 4 | 46 => 156 | 45 => 155 | 50 => 160 | 5 => 5 | 9 => 9 | 66 => 202 | 70 => 206 | 76 => 228 | 77 => 229 | n => n,fun | n => n⟩
theorem sortR : Go.Proofs.SlLaysF0.n6 Tryz.prog sortR_ren:={
 mixed:=by kernel_rfl,
 f6:=⟨Tryz.f38.name,by decide,Tryz.func38.trans (congrArg some (by kernel_rfl))⟩,
 f14:=⟨Tryz.f70.name,by decide,Tryz.func70.trans (congrArg some (by kernel_rfl))⟩,
 f15:=Tryz.func71.trans (congrArg some (by kernel_rfl)),
 f20:=⟨Tryz.f105.name,by decide,Tryz.func105.trans (congrArg some (by kernel_rfl))⟩,
 f21:=⟨Tryz.f106.name,by decide,Tryz.func106.trans (congrArg some (by kernel_rfl))⟩,
 f22:=⟨Tryz.f107.name,by decide,Tryz.func107.trans (congrArg some (by kernel_rfl))⟩,
 f23:=⟨Tryz.f108.name,by decide,Tryz.func108.trans (congrArg some (by kernel_rfl))⟩,
 f24:=⟨Tryz.f109.name,by decide,Tryz.func109.trans (congrArg some (by kernel_rfl))⟩,
 f25:=⟨Tryz.f110.name,by decide,Tryz.func110.trans (congrArg some (by kernel_rfl))⟩,
 f26:=⟨Tryz.f111.name,by decide,Tryz.func111.trans (congrArg some (by kernel_rfl))⟩,
 f27:=⟨Tryz.f112.name,by decide,Tryz.func112.trans (congrArg some (by kernel_rfl))⟩,
 f28:=Tryz.func113.trans (congrArg some (by kernel_rfl)),
 f29:=Tryz.func114.trans (congrArg some (by kernel_rfl)),
 f46:=⟨Tryz.f160.name,by decide,Tryz.func160.trans (congrArg some (by kernel_rfl))⟩,
 f47:=Tryz.func161.trans (congrArg some (by kernel_rfl)),
 f48:=Tryz.func162.trans (congrArg some (by kernel_rfl)),
 f49:=⟨Tryz.f163.name,by decide,Tryz.func163.trans (congrArg some (by kernel_rfl))⟩,
 f50:=⟨Tryz.f164.name,by decide,Tryz.func164.trans (congrArg some (by kernel_rfl))⟩,
 f57:=⟨Tryz.f198.name,by decide,Tryz.func198.trans (congrArg some (by kernel_rfl))⟩,
 t0:=Tryz.underlying0,
 a0:=Tryz.isAgg0,
 z0:=Tryz.sizeOf0,
 v0:=Tryz.zeroValue0,
 t3:=Tryz.underlying3,
 a3:=Tryz.isAgg3,
 z3:=Tryz.sizeOf3,
 v3:=Tryz.zeroValue3,
 t4:=Tryz.underlying4,
 a4:=Tryz.isAgg4,
 z4:=Tryz.sizeOf4,
 v4:=Tryz.zeroValue4,
 t5:=Tryz.underlying5,
 a5:=Tryz.isAgg5,
 z5:=Tryz.sizeOf5,
 v5:=Tryz.zeroValue5,
 t9:=Tryz.underlying9,
 a9:=Tryz.isAgg9,
 z9:=Tryz.sizeOf9,
 v9:=Tryz.zeroValue9,
 t22:=Tryz.underlying29,
 a22:=Tryz.isAgg29,
 z22:=Tryz.sizeOf29,
 v22:=Tryz.zeroValue29,
 t25:=Tryz.underlying79,
 a25:=Tryz.isAgg79,
 z25:=Tryz.sizeOf79,
 v25:=Tryz.zeroValue79,
 t39:=Tryz.underlying116,
 a39:=Tryz.isAgg116,
 z39:=Tryz.sizeOf116,
 v39:=Tryz.zeroValue116,
 t45:=Tryz.underlying155,
 a45:=Tryz.isAgg155,
 z45:=Tryz.sizeOf155,
 v45:=Tryz.zeroValue155,
 t46:=Tryz.underlying156,
 a46:=Tryz.isAgg156,
 z46:=Tryz.sizeOf156,
 v46:=Tryz.zeroValue156,
 t50:=Tryz.underlying160,
 a50:=Tryz.isAgg160,
 z50:=Tryz.sizeOf160,
 v50:=Tryz.zeroValue160,
 t53:=Tryz.underlying163,
 a53:=Tryz.isAgg163,
 z53:=Tryz.sizeOf163,
 v53:=Tryz.zeroValue163,
 t55:=Tryz.underlying56,
 a55:=Tryz.isAgg56,
 z55:=Tryz.sizeOf56,
 v55:=Tryz.zeroValue56,
 t66:=Tryz.underlying202,
 a66:=Tryz.isAgg202,
 z66:=Tryz.sizeOf202,
 v66:=Tryz.zeroValue202,
 t70:=Tryz.underlying206,
 a70:=Tryz.isAgg206,
 z70:=Tryz.sizeOf206,
 v70:=Tryz.zeroValue206,
 t76:=Tryz.underlying228,
 a76:=Tryz.isAgg228,
 z76:=Tryz.sizeOf228,
 v76:=Tryz.zeroValue228,
 t77:=Tryz.underlying229,
 a77:=Tryz.isAgg229,
 z77:=Tryz.sizeOf229,
 v77:=Tryz.zeroValue229 }
end Go.Proofs.YtbfkecfcolcclaaGreatDoor
namespace Go.Proofs.YtbfkecfcolcclaaGreatDoor
open Go.RowKit Go.Shelf Go.Lib Go.Sort
theorem isNaN_calls (a : Int) (w : World) : Calls Tryz.prog 115 #[.int .i64 a] w fun e w' => e = .returned (.bool false) ∧ w' = w:=by
 have f1 : (a == a) = true:=by simp
 go_enter Tryz.func115,Tryz.ntmps115
 go_wp2
 go_ret
 exact ⟨rfl,rfl⟩
theorem compare_calls (a b : Int) (w : World) : Calls Tryz.prog 73 #[.int .i64 a,.int .i64 b] w fun e w' => e = .returned (.int .i64 (ci a b)) ∧ w' = w:=by
 have K:=veil (fun x W => isNaN_calls x W)
 obtain ⟨R,hR⟩ : ∃ R,R = ci a b:=⟨_,rfl⟩
 rw [← hR]
 unfold ci at hR
 by_cases h1 : a < b
 ·
  have hd1 : decide (a < b) = true:=decide_eq_true h1
  rw [if_pos h1] at hR
  subst hR
  clear h1
  go_enter Tryz.func73,Tryz.ntmps73
  go_wp2_with (go_at_call 115; refine (K.out _ _).mono ?_; rintro e w' ⟨rfl,rfl⟩)
  go_ret
  exact ⟨rfl,rfl⟩
 ·
  have hd1 : decide (a < b) = false:=decide_eq_false h1
  rw [if_neg h1] at hR
  by_cases h2 : b < a
  ·
   have hd2 : decide (b < a) = true:=decide_eq_true h2
   rw [if_pos h2] at hR
   subst hR
   clear h1 h2
   go_enter Tryz.func73,Tryz.ntmps73
   go_wp2_with (go_at_call 115; refine (K.out _ _).mono ?_; rintro e w' ⟨rfl,rfl⟩)
   go_ret
   exact ⟨rfl,rfl⟩
  ·
   have hd2 : decide (b < a) = false:=decide_eq_false h2
   rw [if_neg h2] at hR
   subst hR
   clear h1 h2
   go_enter Tryz.func73,Tryz.ntmps73
   go_wp2_with (go_at_call 115; refine (K.out _ _).mono ?_; rintro e w' ⟨rfl,rfl⟩)
   go_ret
   exact ⟨rfl,rfl⟩
def orZ (a b : Int) : Int:=if a = 0 then b else a
theorem or_calls (a b : Int) (g c : Nat) (w : World) (hg : w.heap[g]? = some (.cells #[.int .i64 a,.int .i64 b] 3 (0,0))) : Calls Tryz.prog 72 #[.slice (some ⟨g,0,none⟩) 2 c] w fun e w' => e = .returned (.int .i64 (orZ a b)) ∧ w' = w:=by
 have c0 : w.cell? ⟨g,0,none⟩ = some (.int .i64 a):=by rw [cell_of_row w g _ _ _ _ hg]; rfl
 have c1 : w.cell? ⟨g,1,none⟩ = some (.int .i64 b):=by rw [cell_of_row w g _ _ _ _ hg]; rfl
 clear hg
 obtain ⟨R,hR⟩ : ∃ R,R = orZ a b:=⟨_,rfl⟩
 rw [← hR]
 unfold orZ at hR
 by_cases h1 : a = 0
 ·
  rw [if_pos h1] at hR
  subst hR h1
  have f0 : ((0 : Int) == 0) = true:=by decide
  by_cases h2 : R = 0
  ·
   subst h2
   go_enter Tryz.func72,Tryz.ntmps72
   go_wp2
   refine wp_loop_rounds 3 ?_
   rw [rounds_succ]
   go_wp2
   rw [rounds_succ]
   go_wp2
   rw [rounds_succ]
   go_wp2
   go_ret
   exact ⟨rfl,rfl⟩
  ·
   have f1 : (R == 0) = false:=by simp [h2]
   clear h2
   go_enter Tryz.func72,Tryz.ntmps72
   go_wp2
   refine wp_loop_rounds 2 ?_
   rw [rounds_succ]
   go_wp2
   rw [rounds_succ]
   go_wp2
   go_ret
   exact ⟨rfl,rfl⟩
 ·
  rw [if_neg h1] at hR
  subst hR
  have f1 : (R == 0) = false:=by simp [h1]
  clear h1
  go_enter Tryz.func72,Tryz.ntmps72
  go_wp2
  refine wp_loop_rounds 1 ?_
  rw [rounds_succ]
  go_wp2
  go_ret
  exact ⟨rfl,rfl⟩
end Go.Proofs.YtbfkecfcolcclaaGreatDoor
namespace Go.Proofs.YtbfkecfcolcclaaGreatDoor
open Go.RowKit Go.Shelf Go.Lib Go.Sort
def Grn (w w' : World) : Prop:=∃ q os',w' = grow (w.drewN q) os'
theorem Grn.refl (w : World) : Grn w w:=⟨0,#[],by rw [grow_empty]; rfl⟩
theorem Grn.drew {w w' : World} (h : Grn w w') : Grn w w'.drew:=by
 obtain ⟨q,os,rfl⟩:=h
 exact ⟨q + 1,os,rfl⟩
theorem Grn.alloc {w w' : World} (h : Grn w w') (o : Obj) : Grn w (w'.alloc o):=by
 obtain ⟨q,os,rfl⟩:=h
 exact ⟨q,os ++ #[o],by rw [alloc_eq_grow,grow_grow]⟩
theorem Grn.cells {w w' : World} (h : Grn w w') (b o : Nat) (hb : b < w.heap.size) : w'.cell? ⟨b,o,none⟩ = w.cell? ⟨b,o,none⟩:=by
 obtain ⟨q,os,rfl⟩:=h
 exact cell?_grow _ _ _ (by exact hb)
abbrev HG (wz w' : World) : Prop:=(∀ b o,b < wz.heap.size → w'.cell? ⟨b,o,none⟩ = wz.cell? ⟨b,o,none⟩) ∧ Grn wz w'
theorem HG.of {wz w' : World} (h : Grn wz w') : HG wz w':=⟨h.cells,h⟩
theorem HG.drew {wz w' : World} (h : HG wz w') : HG wz w'.drew:=.of h.2.drew
theorem HG.alloc {wz w' : World} (h : HG wz w') (o : Obj) : HG wz (w'.alloc o):=.of (h.2.alloc o)
theorem inOrderR_calls (x y : Rv) (w : World) : Calls Tryz.prog 39 #[.agg (rvC x).toArray,.agg (rvC y).toArray] w fun e w' => e = .returned (.int .i64 (cfR x y)) ∧ Grn w w':=by
 have k1:=fun a b W => compare_calls a b W
 have k2:=veil (fun a b g c W (hg : W.heap[g]? = some (.cells #[.int .i64 a,.int .i64 b] 3 (0,0))) => or_calls a b g c W hg)
 obtain ⟨x1,x2⟩:=x
 obtain ⟨y1,y2⟩:=y
 show Calls Tryz.prog 39 #[.agg #[.int .i64 x1,.int .i64 x2],.agg #[.int .i64 y1,.int .i64 y2]] w fun e w' => e = .returned (.int .i64 (orZ (ci x1 y1) (ci x2 y2))) ∧ Grn w w'
 go_enter Tryz.func39,Tryz.ntmps39
 go_upto_region 1 with (fail)
 have hG:=((Grn.refl w).alloc (.cells #[.int .i64 x1,.int .i64 x2] 65)).alloc (.cells #[.int .i64 y1,.int .i64 y2] 65)
 have c0 : ((w.alloc (.cells #[.int .i64 x1,.int .i64 x2] 65)).alloc (.cells #[.int .i64 y1,.int .i64 y2] 65)).cell? ⟨w.heap.size,0,none⟩ = some (.int .i64 x1):=by simp
 have c1 : ((w.alloc (.cells #[.int .i64 x1,.int .i64 x2] 65)).alloc (.cells #[.int .i64 y1,.int .i64 y2] 65)).cell? ⟨w.heap.size,1,none⟩ = some (.int .i64 x2):=by simp
 have d0 : ((w.alloc (.cells #[.int .i64 x1,.int .i64 x2] 65)).alloc (.cells #[.int .i64 y1,.int .i64 y2] 65)).cell? ⟨w.heap.size + 1,0,none⟩ = some (.int .i64 y1):=by simp
 have d1 : ((w.alloc (.cells #[.int .i64 x1,.int .i64 x2] 65)).alloc (.cells #[.int .i64 y1,.int .i64 y2] 65)).cell? ⟨w.heap.size + 1,1,none⟩ = some (.int .i64 y2):=by simp
 have l0 : w.heap.size < ((w.alloc (.cells #[.int .i64 x1,.int .i64 x2] 65)).alloc (.cells #[.int .i64 y1,.int .i64 y2] 65)).heap.size:=by simp; omega
 have l1 : w.heap.size + 1 < ((w.alloc (.cells #[.int .i64 x1,.int .i64 x2] 65)).alloc (.cells #[.int .i64 y1,.int .i64 y2] 65)).heap.size:=by simp
 generalize (w.alloc (.cells #[.int .i64 x1,.int .i64 x2] 65)).alloc (.cells #[.int .i64 y1,.int .i64 y2] 65) = wz at *
 generalize hg0 : w.heap.size = g0 at *
 generalize hg1 : g0 + 1 = g1 at *
 have HGG:=veil hG
 clear hG hg1 hg0
 go_region_held3 (fun w' => (∀ b o,b < wz.heap.size → w'.cell? ⟨b,o,none⟩ = wz.cell? ⟨b,o,none⟩) ∧ Grn wz w')
  (first
   | with_reducible exact HG.of (Grn.refl _)
   | with_reducible exact HG.drew (HG.of (Grn.refl _))
   | with_reducible exact HG.drew (HG.alloc (HG.of (Grn.refl _)) _)
   | with_reducible exact HG.alloc (HG.of (Grn.refl _)) _
   | with_reducible exact HG.drew (by assumption)
   | with_reducible exact HG.alloc (by assumption) _
   | with_reducible assumption)
  (first
   | (go_at_call 73; refine (k1 _ _ _).mono ?_; rintro e w' ⟨rfl,rfl⟩)
   | (go_at_call 72; refine (k2.out _ _ _ _ ((wz.alloc (.cells #[.int .i64 (ci x1 y1),.int .i64 (ci x2 y2)] 3)).drew) (zab wz _)).mono ?_; rintro e w' ⟨rfl,rfl⟩))
 go_wp2
 go_ret
 exact ⟨rfl,(HGG.out.alloc _).drew⟩
end Go.Proofs.YtbfkecfcolcclaaGreatDoor
