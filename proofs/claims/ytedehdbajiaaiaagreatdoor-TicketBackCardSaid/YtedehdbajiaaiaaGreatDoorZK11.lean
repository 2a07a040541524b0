/-
  Of TI KN KO KV KP KQ KE KG Half IsH.
-/
import Derived.Test.YtedehdbajiaaiaaGreatDoorRows
import Derived.WalkKit
import Derived.WalkSpells
import Derived.WalkLawsBesides
import Derived.Deep.LoopGhost
import Derived.Deep.RegionWith
import Derived.Deep.QuietTactic
import Derived.BigQuiet
import Derived.Test.YtedehdbajiaaiaaGreatDoorZK9
import Derived.Test.YtedehdbajiaaiaaGreatDoorZK3
import Derived.Test.YtedehdbajiaaiaaGreatDoorZK6
import Derived.Test.YtedehdbajiaaiaaGreatDoorZK1
import Derived.Test.YtedehdbajiaaiaaGreatDoorZK8
set_option maxRecDepth 1000000
set_option maxHeartbeats 20000000
namespace Go.Proofs.YtedehdbajiaaiaaGreatDoor
open Go.RowKit
open Go.Value renaming int → vI
open Go.IntKind renaming u64 → vU
open Go.Act renaming put → aP
open List renaming setIfInBounds_toArray → lA, set_cons_zero → lZ, set_cons_succ → lS
theorem or_u64 {V Y : Nat} (hV : V < 72057594037927936) (hY : Y < 256) : bits .or .u64 (IntKind.u64.wrap ((V : Int) * 256)) (Y : Int) = ((256 * V + Y : Nat) : Int):=by
 rw [IntKind.wrap_u64,show (V : Int) * 256 % 18446744073709551616 = ((V * 256 : Nat) : Int) by omega,u64_or_nat _ _ (by omega) (by omega),nat_join 8 _ _ (by omega) (by omega),Nat.mul_comm]
theorem valB_lt8 {bs : List Nat} (h : Byt bs) : ∀ i,i ≤ bs.length → valB (bs.take i) < 256 ^ i
 | 0,_ => by simp [valB]
 | i + 1,hi => by
  have h1:=valB_lt8 h i (by omega)
  have h2:=h.getD i
  rw [zcg (by omega),Nat.pow_succ]
  omega
theorem valB_ge {bs : List Nat} : ∀ i,i < bs.length → bs.getD 0 0 * 256 ^ i ≤ valB (bs.take (i + 1))
 | 0,hi => by
  rw [zcg hi]
  omega
 | i + 1,hi => by
  have h1:=valB_ge (bs:=bs) i (by omega)
  rw [zcg hi,Nat.pow_succ,← Nat.mul_assoc]
  omega
theorem ofB_big {bs : List Nat} (h : Byt bs) (hl : 8 = bs.length) (hv : (9223372036854775807 : Int) < (valB bs : Nat)) : ofB bs = -1:=by
 unfold ofB
 rw [if_neg]
 rintro ⟨_,h0⟩
 have h1:=valB_lt h h0 7 (by omega)
 rw [List.take_of_length_le (by omega)] at h1
 have : (128 : Nat) * 256 ^ 7 = 9223372036854775808:=by decide
 omega
theorem ofB_small {bs : List Nat} (hl : 8 = bs.length) (hv : ¬ (9223372036854775807 : Int) < (valB bs : Nat)) : ofB bs = (valB bs : Nat):=by
 unfold ofB
 rw [if_pos]
 refine ⟨hl.symm,?_⟩
 have h1:=valB_ge (bs:=bs) 7 (by omega)
 rw [List.take_of_length_le (by omega)] at h1
 have : (256 : Nat) ^ 7 = 72057594037927936:=by decide
 omega
def nbv (U j : Nat) : Value:=.int .u8 ((U / 256 ^ (7 - j) % 256 : Nat) : Int)
theorem num_step {U k j : Nat} (hk : k < 8) (hj : j = 7 - k) : ∀ i,i < 8 → (if i = j then nbv U j else if 8 ≤ i + k then nbv U i else .int .u8 0) = (if 8 ≤ i + (k + 1) then nbv U i else .int .u8 0):=by
 intro i hi
 by_cases h : i = j
 ·
  rw [if_pos h,if_pos (by omega),h]
 ·
  rw [if_neg h]
  by_cases h2 : 8 ≤ i + k
  ·
   rw [if_pos h2,if_pos (by omega)]
  ·
   rw [if_neg h2,if_neg (by omega)]
theorem num_bs {w : World} {g : Nat} {n : Int} {U : Nat} (hU : U = (n % 18446744073709551616).toNat) (h : w.rowIs g 5 8 (nbv U)) : Bs w (some ⟨g,0,none⟩) (numB n):=by
 refine ⟨numB_byt n,.inr ⟨g,0,rfl,h.lt,fun j hj => ?_⟩⟩
 rw [zbv] at hj
 rw [Nat.zero_add,h.cell hj,hU]
 unfold nbv
 rw [List.getD_eq_getElem?_getD]
 simp [numB,hj]
theorem row_fill {w : World} {z : Value} {n b t : Nat} (hb : b = w.heap.size) : (w.alloc (.cells (madeCells #[z] n) t)).rowIs b t n (fun _ => z):=by
 subst hb
 exact World.rowIs_made w z n t
theorem num8_calls (n : Int) (w : World) (_h0 : -9223372036854775808 ≤ n) (_h1 : n ≤ 9223372036854775807) :
  Calls Tryz.prog 24 #[.int .i64 n] w fun e w' => ∃ A c,e = .returned (.slice A 8 c) ∧ 8 ≤ c ∧ Bs w' A (numB n) ∧ Ext w w':=by
 obtain ⟨U,hU⟩ : ∃ U,U = (n % 18446744073709551616).toNat:=⟨_,rfl⟩
 have hw : IntKind.u64.wrap n = (U : Int):=by
  rw [hU]
  show n % 18446744073709551616 = _
  omega
 have HU:=veil hU
 clear hU _h0 _h1
 obtain ⟨i0,hi,hz0,hz1,hz2⟩:=info_parts infoTG
 have hmk : ∀ W : World,(Instr.makeSlice 29 (.int .i64 8) (.int .i64 8)).run Tryz.prog W = .ok (.slice (some ⟨W.heap.size,0,none⟩) 8 8) (W.alloc (.cells (madeCells #[.int .u8 0] 8) 5)) :=
  fun W => run_make_row 29 5 i0 (.int .u8 0) Tryz.underlying29 hi hz0 hz1 rfl .i64 .i64 8 (by rw [hz2]; omega) (by omega) W
 clear hi hz0 hz1 hz2
 go_enter Tryz.func24,Tryz.ntmps24
 go_wp2
 go_loopw [4,5] (fun v i wr => ∃ k : Nat,k ≤ 8 ∧ v = .int .u64 ((U / 256 ^ k : Nat) : Int) ∧ i = .int .i64 (7 - (k : Int)) ∧ wr.rowIs w.heap.size 5 8 (fun j => if 8 ≤ j + k then nbv U j else .int .u8 0) ∧ Ext w wr)
  (fun _ i _ => (intOf i + 1).toNat)
 case atStart => exact ⟨0,by omega,by simp,rfl,(row_fill (w:=w) (z:=.int .u8 0) rfl).congr (fun i hi => by rw [if_neg (by omega)]),Ext.alloc w _⟩
 case round =>
  obtain ⟨k,hk,rfl,rfl,hR,hE⟩:=hrel
  by_cases hlt : k < 8
  ·
   obtain ⟨j,hj⟩ : ∃ j,j = 7 - k:=⟨_,rfl⟩
   have hji : (7 : Int) - (k : Int) = (j : Int):=by omega
   have hjn : (j : Int) < (8 : Int):=by omega
   have c2:=hR.cell (i:=j) (by omega)
   have f2:=hR.frozen j
   have hs : U / 256 ^ (k + 1) = U / 256 ^ k / 256:=by rw [Nat.pow_succ,← Nat.div_div_eq_div_mul]
   have hb : nbv U j = .int .u8 (((U / 256 ^ k % 256 : Nat) : Nat) : Int):=by unfold nbv; rw [show 7 - j = k by omega]
   generalize U / 256 ^ k = q at *
   have HJ:=veil (And.intro hj (And.intro hs hb))
   clear hj hs hb
   rw [hji]
   go_wp2
   go_roundw
   case rel =>
    refine ⟨k + 1,by omega,by rw [HJ.out.2.1]; simp,by go_num,?_,?_⟩
    ·
     have h2:=HJ.out.2.2
     rw [show ((q % 256 : Nat) : Int) = (q : Int) % 256 by omega] at h2
     rw [← h2]
     exact (hR.set j (nbv U j)).congr (num_step hlt HJ.out.1)
    ·
     exact zav hE (Nat.le_refl _) _
   case measure => simp [intOf]
  ·
   obtain rfl : k = 8:=by omega
   go_wp2
   go_ret
   exact ⟨_,8,rfl,by omega,num_bs HU.out (hR.congr fun i hi => by rw [if_pos (by omega)]),hE⟩
theorem of8_calls (A : Option Addr) (m c : Nat) (bs : List Nat) (hm : m = bs.length) (hmc : m ≤ c) (w : World) (hS : Bs w A bs) :
  Calls Tryz.prog 82 #[.slice A m c] w fun e w' => ∃ x ev,e = .returned (.tuple #[x,ev]) ∧ Ext w w' ∧ OfA bs x ev:=by
 have HS:=veil (And.intro hS hm)
 by_cases h8 : m = 8
 ·
  subst h8
  clear hS hm
  go_enter Tryz.func82,Tryz.ntmps82
  go_wp2
  go_loopw [4,13] (fun v u wr => ∃ i : Nat,i ≤ 8 ∧ u = .int .i64 (i : Int) ∧ v = .int .u64 ((valB (bs.take i) : Nat) : Int) ∧ Ext w wr)
   (fun _ v _ => 8 - (intOf v).toNat)
  case atStart => exact ⟨0,by omega,rfl,rfl,Ext.refl _⟩
  case round =>
   obtain ⟨i,hi,rfl,rfl,hE⟩:=hrel
   by_cases hlt : i < 8
   ·
    have hii : (i : Int) < 8:=by omega
    obtain ⟨b2,o2,hA,_,c1⟩:=(HS.out.1.ext hE).cell (j:=i) (by have:=HS.out.2; omega)
    have l1:=HS.out.1.1.getD i
    obtain ⟨V,hV⟩ : ∃ V,V = valB (bs.take i):=⟨_,rfl⟩
    obtain ⟨Y,hY⟩ : ∃ Y,Y = bs.getD i 0:=⟨_,rfl⟩
    rw [← hY] at c1 l1
    rw [← hV]
    have k1 : (Y : Int) ≤ 255:=by omega
    have HVY:=veil (And.intro hV hY)
    have hv:=valB_lt8 HS.out.1.1 i (by have:=HS.out.2; omega)
    have h7 : 256 ^ i ≤ 256 ^ 7:=Nat.pow_le_pow_right (by decide) (by omega)
    have e7 : (256 : Nat) ^ 7 = 72057594037927936:=by decide
    have hor:=or_u64 (V:=V) (Y:=Y) (by omega) l1
    have HOR:=veil hor
    clear hV hY l1 hv h7 e7 hor
    subst hA
    go_wp2
    go_roundw
    case rel =>
     refine ⟨i + 1,by omega,by go_num,?_,hE⟩
     rw [zcg (by have:=HS.out.2; omega),← HVY.out.1,← HVY.out.2,HOR.out]
    case measure => simp [intOf]; omega
   ·
    obtain rfl : i = 8:=by omega
    have e : bs.take 8 = bs:=List.take_of_length_le (by have:=HS.out.2; omega)
    rw [e]
    obtain ⟨V,hV⟩ : ∃ V,V = valB bs:=⟨_,rfl⟩
    rw [← hV]
    have HV:=veil hV
    clear hV e
    by_cases g : (9223372036854775807 : Int) < (V : Int)
    ·
     have hd : decide ((9223372036854775807 : Int) < (V : Int)) = true:=decide_eq_true g
     have HR:=veil (ofB_big HS.out.1.1 HS.out.2 (by rw [← HV.out]; exact g))
     clear g
     go_wp2
     go_ret2
     exact ⟨_,_,rfl,hE,.inl ⟨by rw [HR.out]; decide,rfl,rfl⟩⟩
    ·
     have hd : decide ((9223372036854775807 : Int) < (V : Int)) = false:=decide_eq_false g
     have HR:=veil (ofB_small (bs:=bs) HS.out.2 (by rw [← HV.out]; exact g))
     have hle : (V : Int) ≤ 9223372036854775807:=by omega
     clear g
     go_wp2
     go_ret2
     exact ⟨_,_,rfl,hE,.inr ⟨by rw [HR.out]; omega,by rw [HR.out,← HV.out]; rfl,rfl⟩⟩
 ·
  have h8' : ¬ ((m : Int) = 8):=by omega
  have hr : ofB bs = -1:=by
   unfold ofB
   rw [if_neg]
   intro h
   omega
  have HR:=veil hr
  clear hS hm hr
  go_enter Tryz.func82,Tryz.ntmps82
  go_wp2
  go_ret2
  exact ⟨_,_,rfl,Ext.refl _,.inl ⟨by rw [HR.out]; decide,rfl,rfl⟩⟩
theorem code8 : Code8 where
 may:=zfe
 put v fs w hF hL:=by
  cases hM : mayFs fs with
  | false => exact (put_no v fs w hF hL hM).mono fun e w' ⟨he,hE⟩ => ⟨_,_,he,hE,.inl ⟨hM,⟨none,0,rfl⟩,rfl⟩⟩
  | true => exact (put_yes v fs w hF hM).mono fun e w' ⟨A,c,he,hc,hB,hE⟩ => ⟨_,_,he,hE,.inr ⟨hM,rfl,A,c,rfl,hc,hB⟩⟩
 get A m c bs w hm hmc hle hS:=get8_calls A m c bs hm hmc hle w hS
 number n w h0 h1:=num8_calls n w h0 h1
 of A m c bs w hm hmc hS:=of8_calls A m c bs hm hmc w hS
def tagFs : Int → List (List Nat) → List Fd
 | _,[] => []
 | t,x :: r => (t,x) :: tagFs (t + 1) r
theorem zdv : ∀ (t : Int) (l : List (List Nat)),(tagFs t l).length = l.length
 | _,[] => rfl
 | t,_ :: r => by
  show (tagFs (t + 1) r).length + 1 = r.length + 1
  rw [zdv (t + 1) r]
theorem tagFs_get : ∀ (t : Int) (l : List (List Nat)) (i : Nat),i < l.length → tgF (tagFs t l) i = t + i ∧ bsF (tagFs t l) i = l.getD i []
 | _,[],_,h => by simp at h
 | t,n :: r,0,_ => ⟨by show t = t + ((0 : Nat) : Int); omega,rfl⟩
 | t,n :: r,i + 1,h => by
  obtain ⟨h1,h2⟩:=tagFs_get (t + 1) r i (by simpa using h)
  refine ⟨?_,h2⟩
  show tgF (tagFs (t + 1) r) i = _
  rw [h1]
  omega
theorem tagFs_num : ∀ (t : Int) (l : List Int),tagFs t (l.map numB) = numFs t l
 | _,[] => rfl
 | t,n :: r => by
  show (t,numB n) :: tagFs (t + 1) (r.map numB) = (t,numB n) :: numFs (t + 1) r
  rw [tagFs_num (t + 1) r]
theorem tagFs_byt : ∀ {t : Int} {l : List (List Nat)},(∀ x ∈ l,Byt x) → BytF (tagFs t l)
 | _,[],_ => fun f hf => by cases hf
 | t,x :: r,h => fun f hf => by
  rcases List.mem_cons.1 hf with rfl | hf
  ·
   exact h _ List.mem_cons_self
  ·
   exact tagFs_byt (t:=t + 1) (fun y hy => h y (List.mem_cons_of_mem _ hy)) f hf
def Vs (w : World) (v : Value) (l : List (List Nat)) : Prop:=(∀ x ∈ l,Byt x) ∧ ∃ AL c,v = .slice AL l.length c ∧ l.length ≤ c ∧ (l.length = 0 ∨ ∃ b o,AL = some ⟨b,o,none⟩ ∧ b < w.heap.size ∧
 ∀ i,i < l.length → ∃ A c',w.cell? ⟨b,o + i,none⟩ = some (.slice A (l.getD i []).length c') ∧ (l.getD i []).length ≤ c' ∧ Bs w A (l.getD i []))
theorem Vs.ext {w w' : World} {v : Value} {l : List (List Nat)} (h : Vs w v l) (k : Ext w w') : Vs w' v l:=by
 obtain ⟨hB,AL,c,e,hc,h⟩:=h
 refine ⟨hB,AL,c,e,hc,h.imp id ?_⟩
 rintro ⟨b,o,e,hb,hx⟩
 refine ⟨b,o,e,Nat.lt_of_lt_of_le hb k.size,fun i hi => ?_⟩
 obtain ⟨A,c',h2,h3,h4⟩:=hx i hi
 exact ⟨A,c',(k.cell hb).trans h2,h3,h4.ext k⟩
theorem hmk_fd (n : Nat) (hn : n ≤ 1000000) (W : World) : (Instr.makeSlice 86 (.int .i64 (n : Int)) (.int .i64 (n : Int))).run Tryz.prog W = .ok (.slice (some ⟨W.heap.size,0,none⟩) n n) (W.alloc (.cells (madeCells #[.int .i64 0,.slice none 0 0] (n * 2)) 88)):=by
 obtain ⟨i,hi,hz,hsz,hby⟩:=info_parts2 infoF16
 have h:=run_make (P:=Tryz.prog) W 86 88 i _ Tryz.underlying86 hi hz .i64 .i64 (n : Int) (n : Int) (by omega) (Int.le_refl _) (by rw [hby]; omega) (by omega)
 simp only [Int.toNat_natCast,hsz,Value.cells] at h
 exact h
theorem pre_new (w : World) (C : Array Value) (t m : Nat) (hm : m = C.size) : Pre (w.alloc (.cells C t)) w.heap.size t m (fun j => C.getD j undef) :=
 ⟨C,zar w _,fun i hi => by
  have : i < C.size:=by omega
  simp [Array.getD,this]⟩
theorem Pre.there {w : World} {g t n : Nat} {f : Nat → Value} (p : Pre w g t n f) {i : Nat} (hi : i + 2 ≤ n) : w.there g i 2:=fun j hj => ⟨by rw [p.cell (show i + j < n by omega)]; rfl,p.frozen _⟩
theorem Pre.two {w : World} {g t n : Nat} {f : Nat → Value} (p : Pre w g t n f) (i : Nat) (x y : Value) : Pre (w.setCells g i [x,y]) g t n (fun j => if j = i + 1 then y else if j = i then x else f j):=(p.set i x).set (i + 1) y
def Laid (w : World) (l : List (List Nat)) (f : Nat → Value) (i : Nat) : Prop:=∀ j,j < i → f (j * 2) = .int .i64 ((j : Int) + 1) ∧ ∃ A c,f (j * 2 + 1) = .slice A (l.getD j []).length c ∧ (l.getD j []).length ≤ c ∧ Bs w A (l.getD j [])
theorem Laid.step {w : World} {l : List (List Nat)} {f : Nat → Value} {i c : Nat} {A : Option Addr} (h : Laid w l f i) (hc : (l.getD i []).length ≤ c) (hB : Bs w A (l.getD i [])) :
  Laid w l (fun j => if j = i * 2 + 1 then .slice A (l.getD i []).length c else if j = i * 2 then .int .i64 ((i : Int) + 1) else f j) (i + 1):=fun j hj => by
 by_cases e : j = i
 ·
  subst e
  exact ⟨by simp only; rw [if_neg (by omega),if_pos trivial],A,c,by simp only; rw [if_pos trivial],hc,hB⟩
 ·
  obtain ⟨h1,h2⟩:=h j (by omega)
  refine ⟨?_,?_⟩
  ·
   simp only
   rw [if_neg (by omega),if_neg (by omega)]
   exact h1
  ·
   simp only
   rw [if_neg (by omega),if_neg (by omega)]
   exact h2
theorem Laid.fl {w w' : World} {l : List (List Nat)} {f : Nat → Value} {g n : Nat} (h : Laid w l f n) (hn : n = l.length) (hE : Ext w w') (hl : ∀ x ∈ l,Byt x) (hp : Pre w' g 88 (n * 2) f) : Fl w' (.slice (some ⟨g,0,none⟩) n n) (tagFs 1 l):=by
 subst hn
 refine ⟨tagFs_byt hl,some ⟨g,0,none⟩,l.length,by rw [zdv],by rw [zdv]; exact Nat.le_refl _,.inr ⟨g,0,rfl,hp.lt,fun i hi => ?_⟩⟩
 rw [zdv] at hi
 obtain ⟨h1,A,c,h2,h3,h4⟩:=h i hi
 obtain ⟨e1,e2⟩:=tagFs_get 1 l i hi
 rw [e1,e2]
 refine ⟨?_,A,c,?_,h3,h4.ext hE⟩
 ·
  rw [Nat.zero_add,hp.cell (by omega),h1,show (i : Int) + 1 = 1 + (i : Int) by omega]
 ·
  rw [Nat.zero_add,hp.cell (by omega),h2]
theorem zfz (v : Value) (l : List (List Nat)) (hL : l.length ≤ 64) (w : World) (hV : Vs w v l) :
  Calls Tryz.prog 23 #[v] w fun e w' => ∃ x ev,e = .returned (.tuple #[x,ev]) ∧ Ext w w' ∧ PutA w' (tagFs 1 l) x ev:=by
 obtain ⟨hB,AL,c,rfl,hc,hx⟩:=hV
 obtain ⟨n,hn⟩ : ∃ n,n = l.length:=⟨_,rfl⟩
 rw [← hn] at hx hc hL ⊢
 have HX:=veil (And.intro hx (And.intro hn hB))
 have hmk:=hmk_fd n (by omega)
 have hp0:=pre_new w (madeCells #[.int .i64 0,.slice none 0 0] (n * 2)) 88 (n * 2) (size_madeCells _ _).symm
 have hE0:=Ext.alloc w (.cells (madeCells #[.int .i64 0,.slice none 0 0] (n * 2)) 88)
 have H0:=veil (And.intro hp0 hE0)
 clear hx hn hB hp0 hE0
 go_enter Tryz.func23,Tryz.ntmps23
 go_upto_region 2 with (fail)
 obtain ⟨g,hg⟩ : ∃ g,g = w.heap.size:=⟨_,rfl⟩
 generalize w.alloc (.cells (madeCells #[.int .i64 0,.slice none 0 0] (n * 2)) 88) = w1 at *
 rw [← hg] at H0 ⊢
 have HG:=veil (show w.heap.size ≤ g by omega)
 clear hg hmk
 go_wp2
 go_loopw [5,6,12] (fun _ _ v wr => ∃ i : Nat,i ≤ n ∧ v = .int .i64 (i : Int) ∧ (∃ f,Pre wr g 88 (n * 2) f ∧ Laid w l f i) ∧ Ext w wr)
  (fun _ _ v _ => n - (intOf v).toNat)
 case atStart => exact ⟨0,by omega,rfl,⟨_,H0.out.1,fun j hj => by omega⟩,H0.out.2⟩
 case round =>
  obtain ⟨i,hi,rfl,⟨f,hp,hl⟩,hE⟩:=hrel
  by_cases hlt : i < n
  ·
   have hd1 : decide ((i : Int) < (n : Int)) = true:=by simp; omega
   have hii : (i : Int) < (n : Int):=by omega
   obtain ⟨b,o,hA,hb,hcl⟩:=HX.out.1.resolve_left (by omega)
   obtain ⟨A,c',h1,h2,h3⟩:=hcl i (by have:=HX.out.2.1; omega)
   have c0:=(hE.cell hb).trans h1
   have HS:=veil (And.intro (Laid.step hl h2 h3) (And.intro hp hE))
   have hth:=hp.there (i:=i * 2) (by omega)
   have HT:=veil hth
   generalize (l.getD i []).length = L at *
   subst hA
   clear h1 h2 h3 hl hp hth hcl hE
   go_wp2_with ((with_reducible refine zaw ?_); refine wpList_store_mid rfl 88 _ _ rfl g (i * 2) _ rfl rfl HT.out infoF2 one_fd ?_)
   go_roundw
   case rel => exact ⟨i + 1,by omega,by go_num,⟨_,HS.out.2.1.two (i * 2) _ _,HS.out.1⟩,zav (zav HS.out.2.2 HG.out _) HG.out _⟩
   case measure => simp [intOf]; omega
  ·
   obtain rfl : i = n:=by omega
   have hd1 : decide ((i : Int) < (i : Int)) = false:=by simp
   have KP:=veil (code8.put _ _ wr (Laid.fl hl HX.out.2.1 hE HX.out.2.2 hp) (by rw [zdv]; have:=HX.out.2.1; omega))
   have HE:=veil hE
   clear hl hp hE
   go_wp2_with (go_at_call 57; refine KP.out.mono ?_; rintro e w2 ⟨x,ev,rfl,hE2,hA⟩)
   go_ret2
   exact ⟨_,_,rfl,HE.out.trans hE2,hA⟩
theorem vs_row {w : World} {g t : Nat} {C : Array Value} {fr : Nat × Nat} {l : List (List Nat)} {c : Nat} (hg : w.heap[g]? = some (.cells C t fr)) (hc : l.length ≤ c)
  (h : ∀ i,i < l.length → ∃ A c',C[i]? = some (.slice A (l.getD i []).length c') ∧ (l.getD i []).length ≤ c' ∧ Bs w A (l.getD i [])) : Vs w (.slice (some ⟨g,0,none⟩) l.length c) l:=by
 refine ⟨fun x hx => ?_,_,c,rfl,hc,.inr ⟨g,0,rfl,(Array.getElem?_eq_some_iff.1 hg).1,fun i hi => ?_⟩⟩
 ·
  obtain ⟨i,hi,e⟩:=List.mem_iff_getElem.1 hx
  obtain ⟨A,c',_,_,hB⟩:=h i hi
  have : l.getD i [] = x:=by simp [List.getD_eq_getElem?_getD,hi,e]
  rw [← this]
  exact hB.1
 ·
  obtain ⟨A,c',h1,h2,h3⟩:=h i hi
  exact ⟨A,c',by rw [Nat.zero_add,cell_of_row w g i C t fr hg]; exact h1,h2,h3⟩
theorem vs_five {w : World} {g t : Nat} {A0 A1 A2 A3 A4 : Option Addr} {c0 c1 c2 c3 c4 : Nat} {x0 x1 x2 x3 x4 : List Nat} {fr : Nat × Nat}
  (l0 : x0.length = 8) (l1 : x1.length = 8) (l2 : x2.length = 8) (l3 : x3.length = 8) (l4 : x4.length = 8)
  (hg : w.heap[g]? = some (.cells #[.slice A0 8 c0,.slice A1 8 c1,.slice A2 8 c2,.slice A3 8 c3,.slice A4 8 c4] t fr))
  (h0 : 8 ≤ c0 ∧ Bs w A0 x0) (h1 : 8 ≤ c1 ∧ Bs w A1 x1) (h2 : 8 ≤ c2 ∧ Bs w A2 x2) (h3 : 8 ≤ c3 ∧ Bs w A3 x3) (h4 : 8 ≤ c4 ∧ Bs w A4 x4) : Vs w (.slice (some ⟨g,0,none⟩) 5 5) [x0,x1,x2,x3,x4] :=
 vs_row (l:=[x0,x1,x2,x3,x4]) hg (Nat.le_refl _) fun i hi => by
  match i,hi with
  | 0,_ => exact ⟨A0,c0,by show some (Value.slice A0 8 c0) = some (.slice A0 x0.length c0); rw [l0],by show x0.length ≤ _; rw [l0]; exact h0.1,h0.2⟩
  | 1,_ => exact ⟨A1,c1,by show some (Value.slice A1 8 c1) = some (.slice A1 x1.length c1); rw [l1],by show x1.length ≤ _; rw [l1]; exact h1.1,h1.2⟩
  | 2,_ => exact ⟨A2,c2,by show some (Value.slice A2 8 c2) = some (.slice A2 x2.length c2); rw [l2],by show x2.length ≤ _; rw [l2]; exact h2.1,h2.2⟩
  | 3,_ => exact ⟨A3,c3,by show some (Value.slice A3 8 c3) = some (.slice A3 x3.length c3); rw [l3],by show x3.length ≤ _; rw [l3]; exact h3.1,h3.2⟩
  | 4,_ => exact ⟨A4,c4,by show some (Value.slice A4 8 c4) = some (.slice A4 x4.length c4); rw [l4],by show x4.length ≤ _; rw [l4]; exact h4.1,h4.2⟩
theorem cells_tk9 {w : World} {g : Nat} {t : Tk} {fr : Nat × Nat} (h : w.heap[g]? = some (.cells (tkC t) 23 fr)) :
  w.cell? ⟨g,0,none⟩ = some (.int .i64 t.s) ∧ w.cell? ⟨g,1,none⟩ = some (.int .i64 t.p) ∧ w.cell? ⟨g,2,none⟩ = some (.int .i64 t.z) ∧ w.cell? ⟨g,3,none⟩ = some (.int .i64 t.f) ∧ w.cell? ⟨g,4,none⟩ = some (.int .i64 t.k) :=
 ⟨by rw [cell_of_row w g _ _ _ _ h]; rfl,by rw [cell_of_row w g _ _ _ _ h]; rfl,by rw [cell_of_row w g _ _ _ _ h]; rfl,by rw [cell_of_row w g _ _ _ _ h]; rfl,by rw [cell_of_row w g _ _ _ _ h]; rfl⟩
def NumV (n : Int) (v : Value) (W : World) : Prop:=∃ A c,v = .slice A 8 c ∧ 8 ≤ c ∧ Bs W A (numB n)
theorem numV (n : Int) (h : 0 ≤ n ∧ n ≤ 9223372036854775807) (W : World) : Calls Tryz.prog 24 #[.int .i64 n] W fun e w' => ∃ v,e = .returned v ∧ Ext W w' ∧ NumV n v w' :=
 (num8_calls n W (by omega) h.2).mono fun _ _ ⟨A,c,he,hc,hB,hE⟩ => ⟨_,he,hE,A,c,rfl,hc,hB⟩
theorem zhg (t : Tk) (w : World) : Calls Tryz.prog 8 #[tkV t] w fun e w' => ∃ x ev,e = .returned (.tuple #[x,ev]) ∧ Ext w w' ∧ BodyA w' t x ev:=by
 obtain ⟨C,hC⟩ : ∃ C,C = tkC t:=⟨_,rfl⟩
 have KM:=veil (fun W => may9_calls t W)
 have HC:=veil (And.intro hC (And.intro (show (Tryz.prog.info? 23).map (·.size) = some C.size by rw [hC]; exact iTk t) (show C.all (·.oneCell') = true by rw [hC]; exact zde t)))
 unfold tkV at KM ⊢
 rw [← hC] at KM ⊢
 clear hC
 go_enter Tryz.func8,Tryz.ntmps8
 go_upto_region 1 with (fail)
 obtain ⟨g,hg⟩ : ∃ g,g = w.heap.size:=⟨_,rfl⟩
 have h0:=zar w (.cells C 23)
 have hE0:=Ext.alloc w (.cells C 23)
 generalize w.alloc (.cells C 23) = w0 at *
 rw [← hg] at h0 ⊢
 have H0:=veil (And.intro h0 hE0)
 clear h0 hE0 hg
 cases hm : mayT t with
 | false =>
  rw [hm] at KM
  have HM:=veil hm
  clear hm
  go_wp2_with (first
   | ((with_reducible refine zas 4 ?_); refine wpList_load_row rfl 23 _ rfl g rfl 23 C (0,0) _ H0.out.1 Tryz.underlying23 rfl HC.out.2.1 ?_)
   | (go_at_call 10; refine (KM.out _).mono ?_; rintro e w1 ⟨rfl,hE1⟩))
  go_ret2
  exact ⟨_,_,rfl,H0.out.2.trans hE1,.inl ⟨HM.out,⟨none,0,rfl⟩,rfl⟩⟩
 | true =>
  rw [hm] at KM
  have HM:=veil hm
  clear hm
  go_upto_region 3 with (first
   | ((with_reducible refine zas 4 ?_); refine wpList_load_row rfl 23 _ rfl g rfl 23 C (0,0) _ H0.out.1 Tryz.underlying23 rfl HC.out.2.1 ?_)
   | (go_at_call 10; refine (KM.out _).mono ?_; rintro e w1 ⟨rfl,hE1⟩))
  have h1:=hE1.block H0.out.1
  rw [HC.out.1] at h1
  obtain ⟨k0,k1,k2,k3,k4⟩:=cells_tk9 h1
  have HE1:=veil (H0.out.2.trans hE1)
  have hn:=mayT_each HM.out
  have HN:=veil (And.intro (hn t.s (by simp [Tk.list])) (And.intro (hn t.p (by simp [Tk.list])) (And.intro (hn t.z (by simp [Tk.list])) (And.intro (hn t.f (by simp [Tk.list])) (hn t.k (by simp [Tk.list]))))))
  have hlist : tagFs 1 [numB t.s,numB t.p,numB t.z,numB t.f,numB t.k] = numFs 1 t.list:=tagFs_num 1 t.list
  have HL:=veil hlist
  have HS:=veil (show Tk.list t = [t.s,t.p,t.z,t.f,t.k] from rfl)
  clear hE1 h1 hn hlist KM
  generalize t.s = s at *
  generalize t.p = p at *
  generalize t.z = z at *
  generalize t.f = f at *
  generalize t.k = k at *
  refine zfp 21 [(true,[0,1,3,4,6,7,9,10,12,13]),(false,[2]),(false,[5]),(false,[8]),(false,[11]),(false,[14]),(false,[15]),(false,[16]),(true,[17,18,19,20])] (by kernel_rfl) (by kernel_rfl) fun Q' hQ' => ?_
  refine' zdm (A:=_) _ rfl (by kernel_rfl) ?_ ?_
  rotate_left
  ·
   intro D hD hN'
   have e0:=hD.cell k0
   have e1:=hD.cell k1
   have e2:=hD.cell k2
   have e3:=hD.cell k3
   have e4:=hD.cell k4
   simp only [pickI,consO,List.getElem?_cons_zero,List.getElem?_cons_succ]
   repeat (go_big_quiet_step (fail))
   exact zee
  refine zeb (R:=NumV s) _ rfl rfl rfl rfl rfl (zfg Tryz.func24 rfl rfl _) (fun W _ => numV s HN.out.1 W) ?_
  rintro _ W2 hE2 ⟨A0,c0,rfl,hc0,hB0⟩
  simp only [aP,lA,lZ,lS]
  refine zeb (R:=NumV p) _ rfl rfl rfl rfl rfl (zfg Tryz.func24 rfl rfl _) (fun W _ => numV p HN.out.2.1 W) ?_
  rintro _ W3 hE3 ⟨A1,c1,rfl,hc1,hB1⟩
  simp only [aP,lA,lZ,lS]
  refine zeb (R:=NumV z) _ rfl rfl rfl rfl rfl (zfg Tryz.func24 rfl rfl _) (fun W _ => numV z HN.out.2.2.1 W) ?_
  rintro _ W4 hE4 ⟨A2,c2,rfl,hc2,hB2⟩
  simp only [aP,lA,lZ,lS]
  refine zeb (R:=NumV f) _ rfl rfl rfl rfl rfl (zfg Tryz.func24 rfl rfl _) (fun W _ => numV f HN.out.2.2.2.1 W) ?_
  rintro _ W5 hE5 ⟨A3,c3,rfl,hc3,hB3⟩
  simp only [aP,lA,lZ,lS]
  refine zeb (R:=NumV k) _ rfl rfl rfl rfl rfl (zfg Tryz.func24 rfl rfl _) (fun W _ => numV k HN.out.2.2.2.2 W) ?_
  rintro _ W6 hE6 ⟨A4,c4,rfl,hc4,hB4⟩
  simp only [aP,lA,lZ,lS]
  refine zgp (vs:=[(0,.slice A0 8 c0),(1,.slice A1 8 c1),(2,.slice A2 8 c2),(3,.slice A3 8 c3),(4,.slice A4 8 c4)]) (C:=#[.slice A0 8 c0,.slice A1 8 c1,.slice A2 8 c2,.slice A3 8 c3,.slice A4 8 c4]) (e:=29) _ rfl rfl rfl rfl rfl (fun W => by simp [Instr.buildSlice,go_sem]) ?_
  intro g7 W7 hg7 hgb7 hE7
  simp only [aP,lA,lZ,lS]
  have hV:=vs_five (zbv s) (zbv p) (zbv z) (zbv f) (zbv k) hgb7 ⟨hc0,hB0.ext (hE3.trans (hE4.trans (hE5.trans (hE6.trans hE7))))⟩ ⟨hc1,hB1.ext (hE4.trans (hE5.trans (hE6.trans hE7)))⟩ ⟨hc2,hB2.ext (hE5.trans (hE6.trans hE7))⟩ ⟨hc3,hB3.ext (hE6.trans hE7)⟩ ⟨hc4,hB4.ext hE7⟩
  have HV:=veil (And.intro hV (hE2.trans (hE3.trans (hE4.trans (hE5.trans (hE6.trans hE7))))))
  refine zeb (R:=fun v W => ∃ x ev,v = .tuple #[x,ev] ∧ PutA W (numFs 1 t.list) x ev) _ rfl rfl rfl rfl rfl (zfg Tryz.func23 rfl rfl _) (fun W hW => (zfz _ [numB s,numB p,numB z,numB f,numB k] (show (5 : Nat) ≤ 64 by decide) W (HV.out.1.ext hW)).mono fun e W' ⟨x,ev,he,hE',hA⟩ => ⟨_,he,hE',x,ev,rfl,by rw [← HL.out]; exact hA⟩) ?_
  rintro _ W8 hE8 ⟨x,ev,rfl,hA⟩
  simp only [aP,lA,lZ,lS]
  refine' zdm (A:=_) _ rfl (by kernel_rfl) ?_ ?_
  rotate_left
  ·
   intro D hD hN'
   simp only [pickI,consO,List.getElem?_cons_zero,List.getElem?_cons_succ]
   repeat (go_big_quiet_step (fail))
   exact zee
  refine zet hQ' fun W9 hE9 => ?_
  have hEnd:=HE1.out.trans ((HV.out.2.trans hE8).trans hE9)
  have hmay : mayFs (numFs 1 t.list) = true:=numFs_may (by decide : (5 : Nat) ≤ 64)
  rcases hA with ⟨h,_⟩ | ⟨_,rfl,A,c,rfl,hc,hB⟩
  ·
   rw [hmay] at h; cases h
  ·
   have hl : (encF (numFs 1 t.list)).length = 55:=zbt t
   rw [hl] at hc ⊢
   have hB9 : Bs W9 A (tkB t):=hB.ext hE9
   clear hB hmay hl hE2 hE3 hE4 hE5 hE6 hE7 hE8 hE9 hB0 hB1 hB2 hB3 hB4 hV hgb7 hg7
   go_wp2
   go_ret2
   exact ⟨_,_,rfl,hEnd,.inr ⟨HM.out,⟨A,c,rfl,hc,hB9⟩,rfl⟩⟩
theorem neNil2 (w : World) : (binOp .neq 31 (.iface 35 (.int .i64 2)) .nilIface).run Tryz.prog w = .ok (.bool true) w:=by kernel_rfl
theorem neNilN (w : World) : (binOp .neq 31 .nilIface .nilIface).run Tryz.prog w = .ok (.bool false) w:=by kernel_rfl
theorem get8_nil (w : World) : Calls Tryz.prog 81 #[.slice none 0 0] w fun e w' => e = .returned (.tuple #[.slice none 0 0,.nilIface]) ∧ Ext w w':=by
 have KM : Hid (∀ W : World,Calls Tryz.prog 109 #[.slice none 0 0] W fun e w' => e = .returned (.bool true) ∧ Ext W w'):=veil (fun W => zfe _ [] W (Fl.nil W) (by decide))
 go_enter Tryz.func81,Tryz.ntmps81
 go_wp2
 go_loopw [0,4] (fun s v wr => s = .slice none 0 0 ∧ v = .slice none 0 0 ∧ Ext w wr) (fun _ _ _ => 0)
 case atStart => exact ⟨rfl,rfl,Ext.refl _⟩
 case round =>
  obtain ⟨rfl,rfl,hE⟩:=hrel
  have HE:=veil hE
  clear hE
  go_wp2_with (go_at_call 109; refine (KM.out _).mono ?_; rintro e w1 ⟨rfl,hE1⟩)
  go_ret2
  exact ⟨rfl,HE.out.trans hE1⟩
theorem tget_nil (w : World) : Calls Tryz.prog 45 #[.slice none 0 0,.int .i64 2] w fun e w' => e = .returned (.tuple #[.slice none 0 0,.iface 35 (.int .i64 2)]) ∧ Ext w w':=by
 have KG:=veil (fun W => get8_nil W)
 have k3:=neNilN
 go_enter Tryz.func45,Tryz.ntmps45
 go_wp2_with (go_at_call 81; refine (KG.out _).mono ?_; rintro e w1 ⟨rfl,hE1⟩)
 go_ret2
 exact ⟨rfl,hE1⟩
theorem open_nil_calls (w : World) : Calls Tryz.prog 16 #[.slice none 0 0] w fun e w' => e = .returned (.tuple #[.agg (tkC ⟨0,0,0,0,0⟩),.agg (gc 0 0),.iface 35 (.int .i64 2)]) ∧ Ext w w':=by
 have KG:=veil (fun W => tget_nil W)
 have k2:=neNil2
 go_enter Tryz.func16,Tryz.ntmps16
 go_upto_region 1 with (fail)
 obtain ⟨g2,hg2⟩ : ∃ g,g = w.heap.size:=⟨_,rfl⟩
 obtain ⟨g3,hg3⟩ : ∃ g,g = w.heap.size + 1:=⟨_,rfl⟩
 obtain ⟨w0,hw0⟩ : ∃ W,W = (w.alloc (.cells TZ 23)).alloc (.cells Z8 39):=⟨_,rfl⟩
 have h2:=(zbs w (.cells TZ 23) (.cells Z8 39)).1
 have h3:=(zbs w (.cells TZ 23) (.cells Z8 39)).2
 have hE0:=zfj w (.cells TZ 23) (.cells Z8 39)
 rw [← hw0,← hg2] at h2
 rw [← hw0,← hg3] at h3
 rw [← hw0] at hE0
 have H0:=veil (And.intro hE0 (And.intro h2 (And.intro h3 (And.intro (show w.heap.size ≤ g2 by omega) (show g2 < g3 by omega)))))
 unfold TZ Z8 at hw0
 rw [← hw0,← hg3,← hg2]
 clear hw0 hg3 hg2 hE0 h2 h3
 go_upto_region 2 with (go_at_call 45; refine (KG.out _).mono ?_; rintro e w1 ⟨rfl,hE1⟩)
 have H1:=veil (And.intro (H0.out.1.trans hE1) (And.intro (hE1.block H0.out.2.1) (And.intro (hE1.block H0.out.2.2.1) H0.out.2.2.2)))
 clear hE1 H0 KG
 go_wp2_with (first
  | ((with_reducible refine zaw ?_); refine wpList_store_row rfl 23 _ _ rfl g2 TZ rfl rfl 23 _ H1.out.2.1 iTZ rfl zfy ?_)
  | ((with_reducible refine zaw ?_); refine wpList_store_row rfl 39 _ _ rfl g3 Z8 rfl rfl 39 _ (zen TZ H1.out.2.2.1 H1.out.2.2.2.2) iZ8 rfl z8_one ?_))
 have hF:=zex (T:=TZ) (G:=Z8) H1.out.1 H1.out.2.1 H1.out.2.2.1 ⟨H1.out.2.2.2.1,H1.out.2.2.2.2⟩
 refine bodyPost_ret (zdh rfl _ _ g2 g3 23 39 TZ Z8 (0,0) (0,0) _ _ rfl hF.2.1 Tryz.underlying23 rfl iTZ rfl hF.2.2 Tryz.underlying39 rfl iZ8) rfl ⟨by rw [z8_gc]; rfl,hF.1⟩
def textsOk (fs : List Fd) (many : Nat) : Prop:=fs.length = many ∧ ∀ i,i < many → tgF fs i = (i : Int) + 1
instance (fs : List Fd) (many : Nat) : Decidable (textsOk fs many):=by unfold textsOk; exact inferInstance
def textsOf (fs : List Fd) : List (List Nat):=fs.map fun f => f.2
def textsB (bs : List Nat) (many : Nat) : Option (List (List Nat)):=match getFs bs with
 | some fs => if textsOk fs many then some (textsOf fs) else none
 | none => none
theorem zei (fs : List Fd) (i : Nat) : (textsOf fs).getD i [] = bsF fs i:=by
 unfold textsOf bsF
 simp only [List.getD_eq_getElem?_getD,List.getElem?_map]
 cases fs[i]? <;> rfl
theorem zdg (fs : List Fd) : (textsOf fs).length = fs.length:=by simp [textsOf]
theorem textsB_get {bs : List Nat} {fs : List Fd} (many : Nat) (h : getFs bs = some fs) : textsB bs many = if textsOk fs many then some (textsOf fs) else none:=by
 unfold textsB
 rw [h]
theorem hmk_tx (n : Nat) (hn : n ≤ 1000000) (W : World) : (Instr.makeSlice 90 (.int .i64 (n : Int)) (.int .i64 (n : Int))).run Tryz.prog W = .ok (.slice (some ⟨W.heap.size,0,none⟩) n n) (W.alloc (.cells (madeCells #[.slice none 0 0] n) 29)) :=
 run_make_row' 90 29 (.slice none 0 0) 24 Tryz.underlying90 (by kernel_rfl) rfl .i64 .i64 n (by omega) (by omega) W
def LaidV (w : World) (fs : List Fd) (f : Nat → Value) (i : Nat) : Prop:=∀ j,j < i → ∃ A c,f j = .slice A (bsF fs j).length c ∧ (bsF fs j).length ≤ c ∧ Bs w A (bsF fs j)
theorem LaidV.step {w : World} {fs : List Fd} {f : Nat → Value} {i c : Nat} {A : Option Addr} (h : LaidV w fs f i) (hc : (bsF fs i).length ≤ c) (hB : Bs w A (bsF fs i)) :
  LaidV w fs (fun j => if j = i then .slice A (bsF fs i).length c else f j) (i + 1):=fun j hj => by
 by_cases e : j = i
 ·
  subst e
  exact ⟨A,c,by simp only; rw [if_pos trivial],hc,hB⟩
 ·
  obtain ⟨A,c,h2⟩:=h j (by omega)
  refine ⟨A,c,?_,h2.2⟩
  simp only
  rw [if_neg e]
  exact h2.1
theorem LaidV.vs {w w' : World} {fs : List Fd} {f : Nat → Value} {g n : Nat} (h : LaidV w fs f n) (hn : n = fs.length) (hE : Ext w w') (hl : BytF fs) (hp : Pre w' g 29 n f) : Vs w' (.slice (some ⟨g,0,none⟩) n n) (textsOf fs):=by
 subst hn
 refine ⟨fun x hx => ?_,some ⟨g,0,none⟩,fs.length,by rw [zdg],by rw [zdg]; exact Nat.le_refl _,.inr ⟨g,0,rfl,hp.lt,fun i hi => ?_⟩⟩
 ·
  unfold textsOf at hx
  obtain ⟨y,hy,rfl⟩:=List.mem_map.1 hx
  exact hl y hy
 ·
  rw [zdg] at hi
  obtain ⟨A,c,h2,h3,h4⟩:=h i hi
  rw [zei]
  exact ⟨A,c,by rw [Nat.zero_add,hp.cell hi,h2],h3,h4.ext hE⟩
def TGetA (w' : World) (bs : List Nat) (many : Nat) (x ev : Value) : Prop :=
 (textsB bs many = none ∧ (∃ A c,x = .slice A 0 c) ∧ ev = .iface 35 (.int .i64 2)) ∨ (∃ l,textsB bs many = some l ∧ l.length = many ∧ Vs w' x l ∧ ev = .nilIface)
theorem tget_calls (A : Option Addr) (m c : Nat) (bs : List Nat) (many : Nat) (hm : m = bs.length) (hmc : m ≤ c) (hle : m ≤ 100000000) (hmany : many ≤ 64) (w : World) (hS : Bs w A bs) :
  Calls Tryz.prog 45 #[.slice A m c,.int .i64 (many : Int)] w fun e w' => ∃ x ev,e = .returned (.tuple #[x,ev]) ∧ Ext w w' ∧ TGetA w' bs many x ev:=by
 have KG:=veil (code8.get A m c bs w hm hmc hle hS)
 have k2:=neNil2
 have k3:=neNilN
 clear hm hmc hS hle
 go_enter Tryz.func45,Tryz.ntmps45
 go_upto_region 2 with (go_at_call 81; refine KG.out.mono ?_; rintro e w1 ⟨x,y,rfl,hE1,hA⟩)
 rcases hA with ⟨hn,⟨A2,c2,rfl⟩,rfl⟩ | ⟨fs,hs,rfl,hF⟩
 ·
  have hr : textsB bs many = none:=by
   unfold textsB
   rw [hn]
  clear KG
  go_wp2
  go_ret2
  exact ⟨_,_,rfl,hE1,.inl ⟨hr,⟨none,0,rfl⟩,rfl⟩⟩
 ·
  have hnum:=textsB_get many hs
  have hE0:=hE1
  obtain ⟨hB,AL,cl,rfl,hcl,hx⟩:=hF
  obtain ⟨q,hq⟩ : ∃ q,q = fs.length:=⟨_,rfl⟩
  rw [← hq] at hx hcl ⊢
  by_cases hqm : q = many
  ·
   subst hqm
   have hmk:=hmk_tx q (by omega)
   have hp0:=pre_new w1 (madeCells #[.slice none 0 0] q) 29 q (size_madeCells _ _).symm
   have hE2:=Ext.alloc w1 (.cells (madeCells #[.slice none 0 0] q) 29)
   have HX:=veil (And.intro hx (And.intro hq (And.intro hnum (And.intro hE1 hB))))
   have H0:=veil (And.intro hp0 hE2)
   clear KG hx hq hnum hE1 hs hB hcl hE0 hp0 hE2
   go_upto_region 7 with (fail)
   obtain ⟨g,hg⟩ : ∃ g,g = w1.heap.size:=⟨_,rfl⟩
   generalize w1.alloc (.cells (madeCells #[.slice none 0 0] q) 29) = w2 at *
   rw [← hg] at H0 ⊢
   have HG:=veil (show w1.heap.size ≤ g by omega)
   clear hg hmk
   go_wp2
   go_loopw [9,10,28] (fun _ _ v wr => ∃ i : Nat,i ≤ q ∧ v = .int .i64 (i : Int) ∧ (∃ f,Pre wr g 29 q f ∧ LaidV w1 fs f i) ∧ (∀ j,j < i → tgF fs j = (j : Int) + 1) ∧ Ext w1 wr)
    (fun _ _ v _ => q - (intOf v).toNat)
   case atStart => exact ⟨0,by omega,rfl,⟨_,H0.out.1,fun j hj => by omega⟩,fun j hj => by omega,H0.out.2⟩
   case round =>
    obtain ⟨i,hi,rfl,⟨f,hp,hl⟩,hall,hE⟩:=hrel
    by_cases hlt : i < q
    ·
     have hd1 : decide ((i : Int) < (q : Int)) = true:=by simp; omega
     have hii : (i : Int) < (q : Int):=by omega
     obtain ⟨b,o,hAL,hb,hcl⟩:=HX.out.1.resolve_left (by omega)
     obtain ⟨h1,A',k',h2,h3,h4⟩:=hcl i (by have:=HX.out.2.1; omega)
     have c0:=(hE.cell hb).trans h1
     have c1:=(hE.cell hb).trans h2
     have hst:=LaidV.step hl h3 h4
     obtain ⟨T,hT⟩ : ∃ T,T = tgF fs i:=⟨_,rfl⟩
     obtain ⟨L,hL⟩ : ∃ L,L = (bsF fs i).length:=⟨_,rfl⟩
     rw [← hT] at c0
     rw [← hL] at c1 hst
     have hno : ¬ (T = (i : Int) + 1) → textsB bs q = none:=fun h => by
      rw [HX.out.2.2.1,if_neg]
      intro hk
      rw [hT] at h
      exact h (hk.2 i hlt)
     have HNO:=veil hno
     have HRG:=veil (rng_fd c0 c1)
     have HS:=veil (And.intro hst (And.intro hp (And.intro hE (And.intro hall hT))))
     clear c0 c1 h1 h2 h3 h4 hst hl hp hcl hE hall hno hT hL
     subst hAL
     go_upto_region 10 with (first
      | ((with_reducible refine zas 32 ?_); refine wpList_load_mid rfl 88 _ rfl b _ rfl _ _ HRG.out Tryz.underlying88 rfl infoF2 ?_)
      | ((with_reducible refine zaw ?_); refine wpList_store_row rfl 88 _ _ rfl wr.heap.size #[.int .i64 T,.slice A' L k'] rfl rfl 88 _ (zar wr _) infoF2 rfl one_fd ?_; rw [World.setRow_alloc_new]))
     obtain ⟨d0,d1⟩:=zhd (zar wr (.cells #[.int .i64 T,.slice A' L k'] 88))
     have hEW:=Ext.alloc wr (.cells #[.int .i64 T,.slice A' L k'] 88)
     have hpW:=HS.out.2.1.alloc (.cells #[.int .i64 T,.slice A' L k'] 88)
     have c2:=hpW.cell hlt
     have f2:=hpW.frozen i
     have HW:=veil (And.intro hpW (HS.out.2.2.1.trans hEW))
     generalize wr.alloc (.cells #[.int .i64 T,.slice A' L k'] 88) = W at *
     generalize wr.heap.size = gf at *
     clear hEW hpW
     by_cases g2 : T = (i : Int) + 1
     ·
      have f1 : (T == (i : Int) + 1) = true:=by simp [g2]
      have HT:=veil g2
      subst g2
      go_wp2
      go_roundw
      case rel =>
       refine ⟨i + 1,by omega,by go_num,⟨_,HW.out.1.set i _,HS.out.1⟩,fun j hj => ?_,zav HW.out.2 HG.out _⟩
       by_cases e : j = i
       ·
        subst e
        rw [← HS.out.2.2.2.2]
       ·
        exact HS.out.2.2.2.1 j (by omega)
      case measure => simp [intOf]; omega
     ·
      have f1 : (T == (i : Int) + 1) = false:=by simp [g2]
      have hr:=HNO.out g2
      go_wp2
      go_ret2
      exact ⟨_,_,rfl,HX.out.2.2.2.1.trans HW.out.2,.inl ⟨hr,⟨none,0,rfl⟩,rfl⟩⟩
    ·
     obtain rfl : i = q:=by omega
     have hd1 : decide ((i : Int) < (i : Int)) = false:=by simp
     have hr : textsB bs i = some (textsOf fs):=by
      rw [HX.out.2.2.1,if_pos]
      exact ⟨HX.out.2.1.symm,hall⟩
     have hV:=LaidV.vs hl HX.out.2.1 hE HX.out.2.2.2.2 hp
     clear hl hp hall
     go_wp2
     go_ret2
     exact ⟨_,_,rfl,HX.out.2.2.2.1.trans hE,.inr ⟨_,hr,by rw [zdg]; exact HX.out.2.1.symm,hV,rfl⟩⟩
  ·
   have hr : textsB bs many = none:=by
    rw [hnum,if_neg]
    intro h
    exact hqm (hq.trans h.1)
   have f1 : ((q : Int) == (many : Int)) = false:=by simp; omega
   have f2 : ¬ ((q : Int) = (many : Int)):=by omega
   clear KG hx hq hnum hs hB hcl
   go_wp2
   go_ret2
   exact ⟨_,_,rfl,hE0,.inl ⟨hr,⟨none,0,rfl⟩,rfl⟩⟩
theorem texts_none {bs : List Nat} {many : Nat} (h : textsB bs many = none) : numbersB bs many = none:=by
 unfold textsB at h
 unfold numbersB
 cases hg : getFs bs with
 | none => rfl
 | some fs =>
  rw [hg] at h
  simp only at h ⊢
  split at h
  ·
   cases h
  ·
   rename_i hn
   rw [if_neg]
   exact fun hk => hn ⟨hk.1,fun i hi => (hk.2 i hi).1⟩
theorem texts_some {bs : List Nat} {many : Nat} {l : List (List Nat)} (h : textsB bs many = some l) : numbersB bs many = if ∀ i,i < many → 0 ≤ ofB (l.getD i []) then some (l.map ofB) else none:=by
 unfold textsB at h
 unfold numbersB
 cases hg : getFs bs with
 | none => rw [hg] at h; cases h
 | some fs =>
  rw [hg] at h
  simp only at h ⊢
  split at h
  ·
   rename_i hk
   injection h with h
   subst h
   have e : numsOf fs = (textsOf fs).map ofB:=by
    unfold numsOf textsOf
    rw [List.map_map]
    rfl
   rw [e]
   by_cases hq : ∀ i,i < many → 0 ≤ ofB ((textsOf fs).getD i [])
   ·
    rw [if_pos hq,if_pos]
    exact ⟨hk.1,fun i hi => ⟨hk.2 i hi,by have:=hq i hi; rwa [zei] at this⟩⟩
   ·
    rw [if_neg hq,if_neg]
    intro hn
    refine hq fun i hi => ?_
    rw [zei]
    exact (hn.2 i hi).2
  ·
   cases h
def obB (bs : List Nat) : Option Tk:=match numbersB bs 5 with
 | some l => if mayT (tkOf l) = true then some (tkOf l) else none
 | none => none
theorem obB_none {bs : List Nat} (h : numbersB bs 5 = none) : obB bs = none:=by
 unfold obB
 rw [h]
theorem obB_some {bs : List Nat} {l : List Int} (h : numbersB bs 5 = some l) : obB bs = if mayT (tkOf l) = true then some (tkOf l) else none:=by
 unfold obB
 rw [h]
theorem openB_ob {bs body : List Nat} {r s : Nat} (h : partsB bs = some (body,r,s)) : openB bs = (obB body).map fun t => (t,r,s):=by
 unfold openB obB
 rw [h]
 simp only
 cases numbersB body 5 with
 | none => rfl
 | some l =>
  simp only
  split
  ·
   rfl
  ·
   rfl
theorem tkOf_map {l : List (List Nat)} (h : l.length = 5) : tkOf (l.map ofB) = ⟨ofB (l.getD 0 []),ofB (l.getD 1 []),ofB (l.getD 2 []),ofB (l.getD 3 []),ofB (l.getD 4 [])⟩:=by
 match l,h with
 | [_,_,_,_,_],_ => rfl
def OBodyA (bs : List Nat) (T : Array Value) (ev : Value) : Prop :=
 (obB bs = none ∧ T = tkC ⟨0,0,0,0,0⟩ ∧ ev = .iface 35 (.int .i64 2)) ∨ (∃ t,obB bs = some t ∧ T = tkC t ∧ ev = .nilIface)
theorem of_yes {A : Option Addr} {m c : Nat} {bs : List Nat} (hm : m = bs.length) (hmc : m ≤ c) {w : World} (hS : Bs w A bs) (h : 0 ≤ ofB bs) : Calls Tryz.prog 82 #[.slice A m c] w fun e w' => e = .returned (.tuple #[.int .i64 (ofB bs),.nilIface]) ∧ Ext w w' :=
 (of8_calls A m c bs hm hmc w hS).mono fun _ _ ⟨x,ev,he,hE,hA⟩ => by
  rcases hA with ⟨h1,_⟩ | ⟨_,rfl,rfl⟩
  ·
   omega
  ·
   exact ⟨he,hE⟩
theorem of_no {A : Option Addr} {m c : Nat} {bs : List Nat} (hm : m = bs.length) (hmc : m ≤ c) {w : World} (hS : Bs w A bs) (h : ofB bs < 0) : Calls Tryz.prog 82 #[.slice A m c] w fun e w' => e = .returned (.tuple #[.int .i64 0,.iface 35 (.int .i64 2)]) ∧ Ext w w' :=
 (of8_calls A m c bs hm hmc w hS).mono fun _ _ ⟨x,ev,he,hE,hA⟩ => by
  rcases hA with ⟨_,rfl,rfl⟩ | ⟨h1,_⟩
  ·
   exact ⟨he,hE⟩
  ·
   omega
theorem row_five {w : World} {g t : Nat} {f : Nat → Value} (h : w.rowIs g t 5 f) : w.cell? ⟨g,0,none⟩ = some (f 0) ∧ w.cell? ⟨g,1,none⟩ = some (f 1) ∧ w.cell? ⟨g,2,none⟩ = some (f 2) ∧ w.cell? ⟨g,3,none⟩ = some (f 3) ∧ w.cell? ⟨g,4,none⟩ = some (f 4) :=
 ⟨h.cell (by omega),h.cell (by omega),h.cell (by omega),h.cell (by omega),h.cell (by omega)⟩
theorem zgt (A : Option Addr) (m c : Nat) (bs : List Nat) (hm : m = bs.length) (hmc : m ≤ c) (hle : m ≤ 100000000) (w : World) (hS : Bs w A bs) :
  Calls Tryz.prog 46 #[.slice A m c] w fun e w' => ∃ T ev,e = .returned (.tuple #[.agg T,ev]) ∧ Ext w w' ∧ OBodyA bs T ev:=by
 have KG:=veil (fun W (hW : Bs W A bs) => tget_calls A m c bs 5 hm hmc hle (by decide) W hW)
 have k2:=neNil2
 have k3:=neNilN
 have HB:=veil hS
 clear hm hmc hS hle
 go_enter Tryz.func46,Tryz.ntmps46
 go_upto_region 1 with (fail)
 obtain ⟨g2,hg2⟩ : ∃ g,g = w.heap.size:=⟨_,rfl⟩
 obtain ⟨w0,hw0⟩ : ∃ W,W = w.alloc (.cells TZ 23):=⟨_,rfl⟩
 have h2:=zar w (.cells TZ 23)
 have hE0:=Ext.alloc w (.cells TZ 23)
 rw [← hw0] at hE0
 rw [← hw0,← hg2] at h2
 have H0:=veil (And.intro hE0 (And.intro h2 (show w.heap.size ≤ g2 by omega)))
 unfold TZ at hw0
 rw [← hw0,← hg2]
 clear hw0 hg2 h2 hE0
 go_upto_region 2 with (go_at_call 45; refine (KG.out w0 (HB.out.ext H0.out.1)).mono ?_; rintro e w1 ⟨x,ev,rfl,hE1,hA⟩)
 have H1:=veil (And.intro (H0.out.1.trans hE1) (And.intro (hE1.block H0.out.2.1) H0.out.2.2))
 clear hE1 H0 KG
 rcases hA with ⟨hn,⟨A2,c2,rfl⟩,rfl⟩ | ⟨l,hs,hl5,hV,rfl⟩
 ·
  have hr:=obB_none (texts_none hn)
  clear hn
  go_wp2_with ((with_reducible refine zaw ?_); refine wpList_store_row rfl 23 _ _ rfl g2 TZ rfl rfl 23 _ H1.out.2.1 iTZ rfl zfy ?_)
  refine bodyPost_ret (zdi rfl _ _ g2 23 TZ (0,0) _ rfl (setRow_heap w1 g2 _ TZ 23 (0,0) H1.out.2.1) Tryz.underlying23 rfl iTZ) rfl ⟨_,_,rfl,zbj H1.out.1 H1.out.2.2 _,.inl ⟨hr,rfl,rfl⟩⟩
 ·
  have hnum:=texts_some hs
  obtain ⟨_,AL,cl,rfl,hcl,hx⟩:=hV
  obtain ⟨n,hn⟩ : ∃ n,n = l.length:=⟨_,rfl⟩
  rw [← hn] at hx hcl hl5 ⊢
  subst hl5
  have HX:=veil (And.intro (hx.resolve_left (by decide)) (And.intro hn hnum))
  have hr6 : (w1.alloc (.cells #[.int .i64 0,.int .i64 0,.int .i64 0,.int .i64 0,.int .i64 0] 134)).rowIs w1.heap.size 134 5 (fun _ => .int .i64 0):=World.rowIs_alloc w1 _ _ _ (fun i hi => by
   have hi : i < 5:=hi
   match i,hi with
   | 0,_ => rfl
   | 1,_ => rfl
   | 2,_ => rfl
   | 3,_ => rfl
   | 4,_ => rfl)
  have hE2:=Ext.alloc w1 (.cells #[.int .i64 0,.int .i64 0,.int .i64 0,.int .i64 0,.int .i64 0] 134)
  have H2:=veil (And.intro hr6 hE2)
  clear hs hnum hx hn hcl hr6 hE2
  go_upto_region 5 with (fail)
  obtain ⟨g,hg⟩ : ∃ g,g = w1.heap.size:=⟨_,rfl⟩
  generalize w1.alloc (.cells #[.int .i64 0,.int .i64 0,.int .i64 0,.int .i64 0,.int .i64 0] 134) = w2 at *
  rw [← hg] at H2 ⊢
  have HG:=veil (show w1.heap.size ≤ g by omega)
  clear hg
  go_wp2
  go_loopw [5,7,8,21] (fun s _ _ v wr => ∃ i : Nat,i ≤ 5 ∧ s = .nilIface ∧ v = .int .i64 (i : Int) ∧ wr.rowIs g 134 5 (fun j => if j < i then .int .i64 (ofB (l.getD j [])) else .int .i64 0) ∧ (∀ j,j < i → 0 ≤ ofB (l.getD j [])) ∧ Ext w1 wr)
   (fun _ _ _ v _ => 5 - (intOf v).toNat)
  case atStart => exact ⟨0,by omega,rfl,rfl,H2.out.1.congr (fun j hj => by rw [if_neg (by omega)]),fun j hj => by omega,H2.out.2⟩
  case round =>
   obtain ⟨i,hi,rfl,rfl,hp,hall,hE⟩:=hrel
   by_cases hlt : i < 5
   ·
    have hii : (i : Int) < 5:=by omega
    obtain ⟨b,o,hAL,hb,hcl⟩:=HX.out.1
    obtain ⟨A',k',h1,h3,h4⟩:=hcl i (by have:=HX.out.2.1; omega)
    have c0:=(hE.cell hb).trans h1
    have hB:=h4.ext hE
    obtain ⟨L,hL⟩ : ∃ L,L = (l.getD i []).length:=⟨_,rfl⟩
    obtain ⟨N,hN⟩ : ∃ N,N = ofB (l.getD i []):=⟨_,rfl⟩
    rw [← hL] at c0 h3
    subst hAL
    by_cases gN : 0 ≤ N
    ·
     have KO:=veil (of_yes hL h3 hB (by rw [← hN]; exact gN))
     rw [← hN] at KO
     have HS:=veil (And.intro hp (And.intro hall (And.intro hE (And.intro hN gN))))
     clear h1 h3 h4 hB hp hall hE hcl hL hN gN
     go_upto_region 9 with (go_at_call 82; refine KO.out.mono ?_; rintro e w3 ⟨rfl,hE3⟩; have hp3:=veil (zag HS.out.1 hE3 HS.out.1.lt); have c2:=hp3.out.cell hlt; have f2:=hp3.out.frozen i)
     clear c0 c2 f2
     go_wp2
     go_roundw
     case rel =>
      refine ⟨i + 1,by omega,rfl,by go_num,(hp3.out.set i _).congr (fun j hj => ?_),fun j hj => ?_,zav (HS.out.2.2.1.trans hE3) HG.out _⟩
      ·
       by_cases e : j = i
       ·
        subst e
        rw [if_pos rfl,if_pos (by omega),HS.out.2.2.2.1]
       ·
        rw [if_neg e]
        by_cases e2 : j < i
        ·
         rw [if_pos e2,if_pos (by omega)]
        ·
         rw [if_neg e2,if_neg (by omega)]
      ·
       by_cases e : j = i
       ·
        subst e
        rw [← HS.out.2.2.2.1]
        exact HS.out.2.2.2.2
       ·
        exact HS.out.2.1 j (by omega)
     case measure => simp [intOf]; omega
    ·
     have KO:=veil (of_no hL h3 hB (by rw [← hN]; omega))
     have hr:=obB_none (bs:=bs) (by
      rw [HX.out.2.2,if_neg]
      intro h
      have:=h i hlt
      omega)
     have HS:=veil (And.intro hp (And.intro hr hE))
     clear h1 h3 h4 hB hp hall hE hcl hL hN gN hr
     go_upto_region 9 with (go_at_call 82; refine KO.out.mono ?_; rintro e w3 ⟨rfl,hE3⟩; have hp3:=veil (zag HS.out.1 hE3 HS.out.1.lt); have c2:=hp3.out.cell hlt; have f2:=hp3.out.frozen i)
     have hE4 : Ext w1 (w3.setCell ⟨g,i,none⟩ (.int .i64 0)):=zav (HS.out.2.2.trans hE3) HG.out _
     clear c0 c2 f2
     generalize w3.setCell ⟨g,i,none⟩ (.int .i64 0) = w4 at *
     have H4:=veil (And.intro (H1.out.1.trans hE4) (hE4.block H1.out.2.1))
     clear hE4
     go_wp2_with ((with_reducible refine zaw ?_); refine wpList_store_row rfl 23 _ _ rfl g2 TZ rfl rfl 23 _ H4.out.2 iTZ rfl zfy ?_)
     refine bodyPost_ret (zdi rfl _ _ g2 23 TZ (0,0) _ rfl (setRow_heap w4 g2 _ TZ 23 (0,0) H4.out.2) Tryz.underlying23 rfl iTZ) rfl ⟨_,_,rfl,zbj H4.out.1 H1.out.2.2 _,.inl ⟨HS.out.2.1,rfl,rfl⟩⟩
   ·
    obtain rfl : i = 5:=by omega
    have hr:=HX.out.2.2
    rw [if_pos hall] at hr
    have hob:=obB_some hr
    rw [tkOf_map HX.out.2.1.symm] at hob
    obtain ⟨c0,c1,c2,c3,c4⟩:=row_five hp
    rw [if_pos (by decide)] at c0 c1 c2 c3 c4
    have HO:=veil hob
    clear hob hr hall hp
    obtain ⟨N0,hN0⟩ : ∃ N,N = ofB (l.getD 0 []):=⟨_,rfl⟩
    obtain ⟨N1,hN1⟩ : ∃ N,N = ofB (l.getD 1 []):=⟨_,rfl⟩
    obtain ⟨N2,hN2⟩ : ∃ N,N = ofB (l.getD 2 []):=⟨_,rfl⟩
    obtain ⟨N3,hN3⟩ : ∃ N,N = ofB (l.getD 3 []):=⟨_,rfl⟩
    obtain ⟨N4,hN4⟩ : ∃ N,N = ofB (l.getD 4 []):=⟨_,rfl⟩
    rw [← hN0,← hN1,← hN2,← hN3,← hN4] at HO
    rw [← hN0] at c0
    rw [← hN1] at c1
    rw [← hN2] at c2
    rw [← hN3] at c3
    rw [← hN4] at c4
    have HE:=veil hE
    clear hN0 hN1 hN2 hN3 hN4 hE
    go_upto_region 13 with ((with_reducible refine zaw ?_); refine wpList_store_row rfl 23 _ _ rfl wr.heap.size (tkC ⟨N0,N1,N2,N3,N4⟩) rfl rfl 23 _ (zar wr _) (iTk _) rfl (zde _) ?_; rw [World.setRow_alloc_new])
    have h9:=zar wr (.cells (tkC ⟨N0,N1,N2,N3,N4⟩) 23)
    have hE9:=Ext.alloc wr (.cells (tkC ⟨N0,N1,N2,N3,N4⟩) 23)
    generalize (⟨N0,N1,N2,N3,N4⟩ : Tk) = t at *
    generalize wr.alloc (.cells (tkC t) 23) = w3 at *
    generalize wr.heap.size = g9 at *
    have KM:=veil (fun W => may9_calls t W)
    have H3:=veil (And.intro h9 (And.intro (H1.out.1.trans (HE.out.trans hE9)) ((HE.out.trans hE9).block H1.out.2.1)))
    clear h9 hE9 c0 c1 c2 c3 c4
    unfold tkV at KM
    cases hmay : mayT t with
    | false =>
     rw [hmay] at KM HO
     clear hmay
     have hr : obB bs = none:=by rw [HO.out]; rfl
     go_upto_region 14 with (first
      | ((with_reducible refine zas 49 ?_); refine wpList_load_row rfl 23 _ rfl g9 rfl 23 (tkC t) (0,0) _ H3.out.1 Tryz.underlying23 rfl (iTk t) ?_)
      | (go_at_call 10; refine (KM.out _).mono ?_; rintro e w4 ⟨rfl,hE4⟩))
     have h24:=hE4.block H3.out.2.2
     go_wp2_with ((with_reducible refine zaw ?_); refine wpList_store_row rfl 23 _ _ rfl g2 TZ rfl rfl 23 _ h24 iTZ rfl zfy ?_)
     refine bodyPost_ret (zdi rfl _ _ g2 23 TZ (0,0) _ rfl (setRow_heap w4 g2 _ TZ 23 (0,0) h24) Tryz.underlying23 rfl iTZ) rfl ⟨_,_,rfl,zbj (H3.out.2.1.trans hE4) H1.out.2.2 _,.inl ⟨hr,rfl,rfl⟩⟩
    | true =>
     rw [hmay] at KM HO
     clear hmay
     have hr : obB bs = some t:=by rw [HO.out]; rfl
     go_upto_region 15 with (first
      | ((with_reducible refine zas 49 ?_); refine wpList_load_row rfl 23 _ rfl g9 rfl 23 (tkC t) (0,0) _ H3.out.1 Tryz.underlying23 rfl (iTk t) ?_)
      | (go_at_call 10; refine (KM.out _).mono ?_; rintro e w4 ⟨rfl,hE4⟩))
     have h24:=hE4.block H3.out.2.2
     have h94:=hE4.block H3.out.1
     go_wp2_with (first
      | ((with_reducible refine zas 54 ?_); refine wpList_load_row rfl 23 _ rfl g9 rfl 23 (tkC t) (0,0) _ h94 Tryz.underlying23 rfl (iTk t) ?_)
      | ((with_reducible refine zaw ?_); refine wpList_store_row rfl 23 _ _ rfl g2 (tkC t) rfl rfl 23 _ h24 (iTk t) rfl (zde t) ?_))
     refine bodyPost_ret (zdi rfl _ _ g2 23 (tkC t) (0,0) _ rfl (setRow_heap w4 g2 _ (tkC t) 23 (0,0) h24) Tryz.underlying23 rfl (iTk t)) rfl ⟨_,_,rfl,zbj (H3.out.2.1.trans hE4) H1.out.2.2 _,.inr ⟨_,hr,rfl,rfl⟩⟩
section
variable {P : Program} {Q : Exit → Act → World → Prop}
theorem fork_row {l : List Oper} {is : List Nat} {R : Act → Prop} {a A : Act} {w : World} (os : List Oper) (ho : pickI l is = os) (hB : ownB a.tmps.size os = true)
  (h : ∀ D,Up w D → Nonempty (Gw D) → wpQuiet P l.toArray (fun W => ∃ x : Gw D,W = x.val) (fun a' => a' = A) os a) (h2 : R A) : wpMk P l.toArray w R (pickI l is) a:=by
 subst ho
 exact zgd (fun a' e => by subst e; exact h2) (zfk hB fun D hD => h D hD hD.ne)
end
section
variable {P : Program} {ops : Array Oper} {Q : Exit → Act → World → Prop} {md : Region.Mode}
def lateC (md : Region.Mode) (ops : Array Oper) (n : Nat) : Nat → Nat → Bool
 | 0,i => i == n
 | f + 1,i => i == n || (List.range (n + 1)).any fun j => decide (i < j) && Region.waitsFor md ops j i && lateC md ops n f j
def lateI (md : Region.Mode) (ops : Array Oper) (n i : Nat) : Bool :=
 decide (i < n) && lateC md ops n n i && (List.range ops.size).all fun t => decide (t ≤ n) || Region.waitsFor md ops t n
theorem lateC_spec {n : Nat} {listed : Array Bool} (inv : Closed md ops listed) : ∀ (f i : Nat),lateC md ops n f i = true → listed.getD i false = false → listed.getD n false = false ∧ (i ≠ n → n ∉ Region.ready md ops listed)
 | 0,i,h,hun => by
  have e : i = n:=by simpa [lateC] using h
  subst e
  exact ⟨hun,fun h => absurd rfl h⟩
 | f + 1,i,h,hun => by
  by_cases e : i = n
  ·
   subst e
   exact ⟨hun,fun h => absurd rfl h⟩
  ·
   unfold lateC at h
   simp only [Bool.or_eq_true,beq_iff_eq,e,false_or,List.any_eq_true,Bool.and_eq_true,decide_eq_true_eq] at h
   obtain ⟨j,_,⟨hij,hw⟩,hc⟩:=h
   obtain ⟨oj,hoj,e',he,hb,hon⟩:=Region.waitsFor_spec hw
   have hlj : listed.getD j false = false:=by
    cases h2 : listed.getD j false with
    | false => rfl
    | true =>
     have h3:=inv.2 j oj hoj h2 e' he hb
     rw [hon,hun] at h3
     cases h3
   obtain ⟨h1,h2⟩:=lateC_spec inv f j hc hlj
   refine ⟨h1,fun _ => ?_⟩
   by_cases hl : j = n
   ·
    subst hl
    intro hr
    obtain ⟨_,oj',hoj',hall⟩:=mem_ready.1 hr
    have : oj = oj':=Option.some.inj (hoj.symm.trans hoj')
    subst this
    have h3:=hall e' he hb
    rw [hon,hun] at h3
    cases h3
   ·
    exact h2 hl
theorem lateI_spec {n i : Nat} {listed : Array Bool} (hB : lateI md ops n i = true) (inv : Closed md ops listed) (hun : listed.getD i false = false)
  {t : Nat} (ht : t ∈ Region.ready md ops listed) : t < n:=by
 simp only [lateI,Bool.and_eq_true,decide_eq_true_eq] at hB
 obtain ⟨⟨him,hc⟩,hall⟩:=hB
 obtain ⟨_,ot,hot,hallt⟩:=mem_ready.1 ht
 have htl : t < ops.size:=(Array.getElem?_eq_some_iff.1 hot).1
 obtain ⟨hn1,hn2⟩:=lateC_spec inv n i hc hun
 have hn2:=hn2 (by omega)
 have h1:=List.all_eq_true.1 hall t (List.mem_range.2 htl)
 simp only [Bool.or_eq_true,decide_eq_true_eq] at h1
 rcases h1 with h1 | h1
 ·
  have : t ≠ n:=fun e => hn2 (e ▸ ht)
  omega
 ·
  obtain ⟨o',ho',e,he,hb,hon⟩:=Region.waitsFor_spec h1
  have : o' = ot:=Option.some.inj (ho'.symm.trans hot)
  subst this
  have h2:=hallt e he hb
  rw [hon,hn1] at h2
  cases h2
theorem S_first2 {i n : Nat} {oi : Oper} {v : Value} (hi : ops[i]? = some oi) (hsel : ∀ (j : Nat) (o : Oper) cs b,ops[j]? = some o → o.op ≠ .select cs b)
  (hQ : ∀ c a w,Q (.panic c) (a.put oi.dst v) w → Q (.panic c) a w) (hB : lateI md ops n i = true) :
  ∀ (fuel : Nat) (listed : Array Bool) (a : Act) (w : World),Closed md ops listed →
   (∀ j oj,ops[j]? = some oj → j ≠ i → listed.getD j true = false → (∀ e ∈ oj.after,Region.binds md e = true → e.on ≠ i) → oi.apart ops oj = true) →
   i ∈ Region.ready md ops listed → YieldsE P ops oi v a w →
   wpG P md ops Q n fuel (listed.setIfInBounds i true) (a.put oi.dst v) w → wpG P md ops Q n (fuel + 1) listed a w:=by
 intro fuel
 induction fuel with
 | zero =>
  intro listed a w _ _ hr hy H
  refine ⟨fun h => (by rw [h] at hr; cases hr),fun j hj W hW => ?_⟩
  by_cases hji : j = i
  ·
   subst hji; exact hy.wpOp hi hW fun W' hW' => ⟨fun _ => hW',H.ext (hW.trans hW')⟩
  ·
   have:=ready_mono hj hji
   rw [H.1] at this
   cases this
 | succ fuel ih =>
  intro listed a w inv hfree hr hy H
  refine ⟨fun h => (by rw [h] at hr; cases hr),fun j hj W hW => ?_⟩
  by_cases hji : j = i
  ·
   subst hji; exact hy.wpOp hi hW fun W' hW' => ⟨fun _ => hW',H.ext (hW.trans hW')⟩
  ·
   have hun:=getD_both (mem_ready.1 hr).1
   have hjn : j < n:=lateI_spec hB inv hun hj
   have h1:=H.2 j (ready_mono hj hji) W hW
   obtain ⟨hjun,oj,hoj,hall⟩:=mem_ready.1 hj
   have hnot : ∀ e ∈ oj.after,Region.binds md e = true → e.on ≠ i:=fun e he hb heq => by
    have h2:=hall e he hb
    rw [heq,hun] at h2
    cases h2
   have h2:=wpOp_putE hoj (hfree j oj hoj hji hjun hnot) (fun cs b => hsel i oi cs b hi) (fun cs b => hsel j oj cs b hoj) hQ (fun a' w' hk => hk.1 hjn)
    (hy.of_same hW rfl rfl) h1
   have hfree' : ∀ k ok,ops[k]? = some ok → k ≠ i → (listed.setIfInBounds j true).getD k true = false →
     (∀ e ∈ ok.after,Region.binds md e = true → e.on ≠ i) → oi.apart ops ok = true:=fun k ok hk hki hunk hno => by
    refine hfree k ok hk hki ?_ hno
    by_cases hjk : j = k
    ·
     subst hjk; exact hjun
    ·
     rw [getD_set_ne true hjk] at hunk; exact hunk
   refine wpOp_mono (fun a' w' h3 => ⟨h3.2.1,ih (listed.setIfInBounds j true) a' w' (inv.set hj) hfree' (ready_mono hr (Ne.symm hji)) h3.1 ?_⟩) h2
   rw [Array.setIfInBounds_comm _ _ hji]
   exact h3.2.2
inductive Tr
 | done
 | row (is : List Nat) (t : Tr)
 | one (k : Nat) (t : Tr)
 | two (i : Nat) (s : Tr) (j : Nat) (t : Tr)
def lenT : Tr → Nat
 | .done => 0
 | .row is t => is.length + lenT t
 | .one _ t => lenT t + 1
 | .two _ s _ _ => lenT s + 1
def takeT (md : Region.Mode) (ops : Array Oper) (n : Nat) : List Nat → Array Bool → Bool
 | [],_ => true
 | k :: r,listed => (Region.ready md ops listed).contains k && Region.free md ops listed k && lateI md ops n k && takeT md ops n r (listed.setIfInBounds k true)
def trI (md : Region.Mode) (ops : Array Oper) (n : Nat) : Tr → Array Bool → Bool
 | .done,listed => (Region.ready md ops listed).isEmpty
 | .row is t,listed => takeT md ops n is listed && trI md ops n t (markI is listed)
 | .one k t,listed => (Region.ready md ops listed == [k]) && trI md ops n t (listed.setIfInBounds k true)
 | .two i s j t,listed => (Region.ready md ops listed == [i,j]) && (lenT s == lenT t) && trI md ops n s (listed.setIfInBounds i true) && trI md ops n t (listed.setIfInBounds j true)
abbrev One (P : Program) (ops : Array Oper) (Q : Exit → Act → World → Prop) (n k : Nat) (K : Act → World → Prop) (a : Act) (w : World) : Prop :=
 ∀ W,Ext w W → wpOp P ops Q k (fun a' W' => (k < n → Ext W W') ∧ K a' W') a W
def wpTr (P : Program) (l : List Oper) (Q : Exit → Act → World → Prop) (n : Nat) : Tr → Act → World → Prop
 | .done,a,w => ∀ W,Ext w W → Q .normal a W
 | .row is t,a,w => wpMk P l.toArray w (fun a' => wpTr P l Q n t a' w) (pickI l is) a
 | .one k t,a,w => One P l.toArray Q n k (wpTr P l Q n t) a w
 | .two i s j t,a,w => One P l.toArray Q n i (wpTr P l Q n s) a w ∧ One P l.toArray Q n j (wpTr P l Q n t) a w
theorem T_take {n g : Nat} {l : List Oper} (hsel : Region.noSelect l.toArray = true) (hQ : ∀ (o : Oper) v c a w,Q (.panic c) (a.put o.dst v) w → Q (.panic c) a w) {w : World} {R : Act → Prop} {L : Array Bool}
  (hR : ∀ a,R a → Closed md l.toArray L → wpG P md l.toArray Q n g L a w) : ∀ (is : List Nat) (listed : Array Bool) (a : Act),Closed md l.toArray listed →
  takeT md l.toArray n is listed = true → markI is listed = L → wpMk P l.toArray w R (pickI l is) a → wpG P md l.toArray Q n (is.length + g) listed a w
 | [],listed,a,inv,_,hL,h => by
  have hL' : listed = L:=hL
  subst hL'
  simpa using hR a h inv
 | k :: r,listed,a,inv,hX,hL,h => by
  simp only [takeT,Bool.and_eq_true] at hX
  obtain ⟨⟨⟨hr,hf⟩,hkn⟩,hX'⟩:=hX
  have hr' : k ∈ Region.ready md l.toArray listed:=by simpa using hr
  obtain ⟨_,o,h0,_⟩:=mem_ready.1 hr'
  have h0' : l[k]? = some o:=by simpa using h0
  unfold pickI at h
  rw [h0'] at h
  obtain ⟨v,hy,hK⟩:=h
  rw [List.length_cons,show r.length + 1 + g = (r.length + g) + 1 by omega]
  exact S_first2 h0 (Region.noSelect_spec hsel) (hQ o v) hkn _ listed a w inv (Region.free_spec h0 hf) hr' hy
   (T_take hsel hQ hR r _ _ (inv.set hr') hX' hL hK)
theorem T_all {n : Nat} {l : List Oper} (hsel : Region.noSelect l.toArray = true) (hQ : ∀ (o : Oper) v c a w,Q (.panic c) (a.put o.dst v) w → Q (.panic c) a w) :
  ∀ (t : Tr) (listed : Array Bool) (a : Act) (w : World),Closed md l.toArray listed → trI md l.toArray n t listed = true → wpTr P l Q n t a w → wpG P md l.toArray Q n (lenT t) listed a w
 | .done,listed,a,w,_,hX,h => ⟨by simpa [trI] using hX,h⟩
 | .row is t,listed,a,w,inv,hX,h => by
  simp only [trI,Bool.and_eq_true] at hX
  exact T_take (g:=lenT t) hsel hQ (R:=fun a' => wpTr P l Q n t a' w) (L:=markI is listed) (fun a' h' inv' => T_all hsel hQ t _ _ _ inv' hX.2 h') is listed a inv hX.1 rfl h
 | .one k t,listed,a,w,inv,hX,h => by
  simp only [trI,Bool.and_eq_true,beq_iff_eq] at hX
  refine ⟨fun h0 => (by rw [hX.1] at h0; cases h0),fun i hi W hW => ?_⟩
  have e : i = k:=by rw [hX.1] at hi; simpa using hi
  subst e
  exact wpOp_mono (fun a'' W' hk => ⟨hk.1,T_all hsel hQ t _ _ _ (inv.set hi) hX.2 hk.2⟩) (h W hW)
 | .two i s j t,listed,a,w,inv,hX,h => by
  simp only [trI,Bool.and_eq_true,beq_iff_eq] at hX
  obtain ⟨⟨⟨hr,hst⟩,hs⟩,ht⟩:=hX
  refine ⟨fun h0 => (by rw [hr] at h0; cases h0),fun k hk W hW => ?_⟩
  have e : k = i ∨ k = j:=by rw [hr] at hk; simpa using hk
  rcases e with e | e
  ·
   subst e
   exact wpOp_mono (fun a'' W' hk' => ⟨hk'.1,T_all hsel hQ s _ _ _ (inv.set hk) hs hk'.2⟩) (h.1 W hW)
  ·
   subst e
   refine wpOp_mono (fun a'' W' hk' => ⟨hk'.1,?_⟩) (h.2 W hW)
   rw [hst]
   exact T_all hsel hQ t _ _ _ (inv.set hk) ht hk'.2
def treeB (l : List Oper) (n : Nat) (t : Tr) : Bool :=
 Region.noSelect l.toArray && (lenT t == l.length) && trI .any l.toArray n t (Array.replicate l.length false)
theorem wp_sched_tree {id : Nat} (n : Nat) (t : Tr) {a : Act} {w : World} {l : List Oper} (hm : P.follows .mixedOrders = true) (hB : treeB l n t = true)
  (h : ∀ Q',Hid (Q' = NoPanic Q) → wpTr P l Q' n t a w) : (Code.region id l.toArray true).wp P Q a w:=by
 simp only [treeB,Bool.and_eq_true,beq_iff_eq] at hB
 obtain ⟨⟨hsel,hlen⟩,hs⟩:=hB
 refine wp_region_noPanic ?_
 have inv0 : Closed .any l.toArray (Array.replicate l.length false) :=
  ⟨by simp,fun j oj _ hl => (by rw [getD_replicate_false] at hl; cases hl)⟩
 have H:=T_all (P:=P) (md:=.any) (Q:=NoPanic Q) hsel (fun _ _ _ _ _ h => h) t _ a w inv0 hs (h _ (veil rfl))
 rw [hlen] at H
 refine wp_region_any hm (zew (n:=n) _ _ _ _ ?_)
 have:=wpG.ext H (Ext.drew w)
 simpa using this
/-! ### its parts -/
variable {n k d : Nat} {K : Act → World → Prop} {a : Act} {w : World}
theorem one_alloc {t : TypeId} {C : Array Value} (o : Oper) (ho : ops[k]? = some o) (hg : o.guard = none) (hd : o.dst = some d)
  (hb : ∀ W,(execOp a.eval o).run P W = .ok (.value (ptrTo W.heap.size)) (W.alloc (.cells C t)))
  (h : ∀ g W,w.heap.size ≤ g → W.heap[g]? = some (.cells C t (0,0)) → Ext w W → K (a.put (some d) (ptrTo g)) W) : One P ops Q n k K a w:=fun W hW => zbe ho hg (by
 unfold Oper.wp
 rw [hb W]
 show (k < n → Ext W _) ∧ _
 rw [hd]
 exact ⟨fun _ => Ext.alloc W _,h _ _ (Below.size hW) (zar W _) (hW.trans (Ext.alloc W _))⟩)
theorem zhp {v : Value} (o : Oper) (ho : ops[k]? = some o) (hg : o.guard = none) (hd : o.dst = some d) (hm : ∀ W,Ext w W → (execOp a.eval o).run P W = .ok (.value v) W)
  (h : ∀ W,Ext w W → K (a.put (some d) v) W) : One P ops Q n k K a w:=fun W hW => zbe ho hg (by
 unfold Oper.wp
 rw [hm W hW,Oper.upon_value,hd]
 exact ⟨fun _ => Ext.refl W,h W hW⟩)
theorem one_store {ty t : TypeId} {x y : Operand} {g : Nat} {cells old : Array Value} (o : Oper) (ho : ops[k]? = some o) (hgd : o.guard = none) (hop : o.op = .store ty x y) (hd : o.dst = none) (hkn : ¬ k < n)
  (hx : a.eval x = ptrTo g) (hy : a.eval y = .agg cells) (hb : w.heap[g]? = some (.cells old t (0,0))) (hi : (P.info? ty).map (·.size) = some cells.size) (hold : old.size = cells.size) (h1 : cells.all (·.oneCell') = true)
  (h : ∀ W,But g w W → W.heap[g]? = some (.cells cells t (0,0)) → K a W) : One P ops Q n k K a w:=fun W hW =>
 zbe ho hgd (wp_store_row ty x y hop g cells hx hy t old (hW.block hb) hi hold h1 ⟨fun h => absurd h hkn,by
  rw [hd]
  exact h _ (zcc (zhr hW) cells) (setRow_heap W g old cells t (0,0) (hW.block hb))⟩)
theorem tr_end {l : List Oper} {R : Exit → Act → World → Prop} (hQ : Hid (Q = NoPanic R)) (h : ∀ W,Ext w W → R .normal a W) : wpTr P l Q n .done a w:=fun W hW => by
 rw [hQ.out]
 exact h W hW
end
theorem half_div (X P : Nat) : X / 2 / P = X / P / 2:=by rw [Nat.div_div_eq_div_mul,Nat.div_div_eq_div_mul,Nat.mul_comm]
theorem dg_next (B X i : Nat) : dg B X (i + 1) = X / B ^ i / B % B:=by rw [dg,Nat.pow_succ,Nat.div_div_eq_div_mul]
theorem half_word (X m : Nat) : bits .or .u64 (wd X m / 2) (IntKind.u64.wrap (wd X (m + 1) * 9223372036854775808)) = wd (X / 2) m:=by
 unfold wd
 rw [dg_next,IntKind.wrap_u64]
 show _ = ((X / 2 / w64 ^ m % w64 : Nat) : Int)
 rw [half_div]
 unfold dg
 generalize X / w64 ^ m = q
 unfold w64
 rw [show ((q % 18446744073709551616 : Nat) : Int) / 2 = ((q % 18446744073709551616 / 2 : Nat) : Int) by omega,
  show ((q / 18446744073709551616 % 18446744073709551616 : Nat) : Int) * 9223372036854775808 % 18446744073709551616 = ((q / 18446744073709551616 % 2 * 9223372036854775808 : Nat) : Int) by omega]
 rw [u64_or_nat _ _ (by omega) (by omega),Nat.or_comm,nat_join 63 _ _ (by omega) (by omega)]
 omega
theorem wd_top {X : Nat} (hX : X < top) : wd X 4 = 0:=by
 unfold wd dg
 unfold top at hX
 rw [Nat.div_eq_of_lt hX]; rfl
theorem row_down {X m : Nat} : ∀ i,i < 4 → (if i = m then Value.int .u64 (wd X m) else Value.int .u64 (if m + 1 ≤ i then wd X i else 0)) = Value.int .u64 (if m ≤ i then wd X i else 0):=by
 intro i _
 by_cases h : i = m
 ·
  subst h; simp
 ·
  rw [if_neg h]; by_cases h2 : m ≤ i
  ·
   rw [if_pos h2,if_pos (by omega)]
  ·
   rw [if_neg h2,if_neg (by omega)]
theorem half_calls (X : Nat) (hX : X < top) (w : World) :
  Calls Tryz.prog 130 #[.agg #[vI vU (wd X 0),vI vU (wd X 1),vI vU (wd X 2),vI vU (wd X 3)]] w fun e w' => e = .returned (.agg #[vI vU (wd (X / 2) 0),vI vU (wd (X / 2) 1),vI vU (wd (X / 2) 2),vI vU (wd (X / 2) 3)]) ∧ Below w.heap.size w w':=by
 go_enter Tryz.func130,Tryz.ntmps130
 go_wp2
 go_loopw [4,5] (fun c i wr => ∃ k : Nat,k ≤ 4 ∧ i = .int .i64 ((k : Int) - 1) ∧ c = .int .u64 (wd X k) ∧ wr.rowIs w.heap.size 26 4 (fun j => .int .u64 (wd X j))
   ∧ wr.rowIs (w.heap.size + 1) 26 4 (fun _ => .int .u64 0) ∧ wr.rowIs (w.heap.size + 1 + 1) 26 4 (fun j => .int .u64 (if k ≤ j then wd (X / 2) j else 0)) ∧ Below w.heap.size w wr)
  (fun _ i _ => (intOf i + 1).toNat)
 case atStart => exact ⟨4,by omega,rfl,by rw [wd_top hX],((zan (n:=4) (by simp) rfl (arr4 fun j => .int .u64 (wd X j))).alloc _).alloc _,(zan (n:=4) (by simp) rfl (arr4 fun _ => .int .u64 0)).alloc _,(zan (n:=4) (f:=fun _ => .int .u64 0) (by simp) rfl (arr4 fun _ => .int .u64 0)).congr (fun i hi => by rw [if_neg (by omega)]),(((Below.refl _ _).alloc (by simp) _).alloc (by simp) _).alloc (by simp; omega) _⟩
 case round =>
  obtain ⟨k,hk,hi,rfl,hRX,hRZ,hS,hbel⟩:=hrel
  cases k with
  | zero =>
   subst hi
   obtain ⟨c0,c1,c2,c3⟩:=zai hS
   obtain ⟨d0,d1,d2,d3⟩:=zai hRZ
   obtain ⟨f0,f1,f2,f3⟩:=zax hRZ
   simp only [Nat.zero_le,if_true] at c0 c1 c2 c3
   clear hS hRX
   go_wp2
   refine bodyPost_ret (results_cell_row rfl _ _ (w.heap.size + 1) 26 #[vI vU (wd (X / 2) 0),vI vU (wd (X / 2) 1),vI vU (wd (X / 2) 2),vI vU (wd (X / 2) 3)] (0,0) _ rfl (blk4 (put4 hRZ fun j => .int .u64 (wd (X / 2) j))) Tryz.underlying26 rfl (by kernel_rfl)) rfl ⟨rfl,zau hbel (by omega) _ _ _ _⟩
  | succ m =>
   obtain rfl : _ = Value.int .i64 (m : Int):=hi.trans (by congr 1; omega)
   have hm : m < 4:=by omega
   clear hi
   have c1:=hRX.cell hm
   have c2:=hS.cell hm
   have f2:=hS.frozen m
   have l1:=wd_lo X m
   have u1:=wd_le X m
   have l2:=wd_lo X (m + 1)
   have u2:=wd_le X (m + 1)
   go_wp2
   go_roundw
   case rel =>
    rw [half_word]
    exact ⟨m,by omega,rfl,rfl,zbp hRX (by omega) _,zbp hRZ (by omega) _,(hS.set m _).congr row_down,zav hbel (by omega) _⟩
   case measure => simp [intOf]
theorem khalf (X Z : Nat) (h : X / 2 = Z) (hX : X < top) (w : World) :
  Calls Tryz.prog 130 #[.agg #[vI vU (wd X 0),vI vU (wd X 1),vI vU (wd X 2),vI vU (wd X 3)]] w fun e w' => e = .returned (.agg #[vI vU (wd Z 0),vI vU (wd Z 1),vI vU (wd Z 2),vI vU (wd Z 3)]) ∧ Below w.heap.size w w':=by
 subst h; exact half_calls X hX w
theorem klen (X : Nat) (m : Int) (h : (bitLen X : Int) = m) (hX : X < top) (w : World) :
  Calls Tryz.prog 97 #[.agg #[vI vU (wd X 0),vI vU (wd X 1),vI vU (wd X 2),vI vU (wd X 3)]] w fun e w' => e = .returned (.int .i64 m) ∧ Below w.heap.size w w':=by
 subst h; exact len_calls X hX w
end Go.Proofs.YtedehdbajiaaiaaGreatDoor
