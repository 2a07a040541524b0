/-
  Of TI KN UA QCode LUp5 KO KV KP KQ NS1 NS2.
-/
import Derived.Deep.RegionHeld3
import Derived.Deep.Matrix
import Derived.Laws.CopyOwn
import Derived.Deep.CutBlock
import Derived.Test.YthlbemnbmbmjhaaGreatDoorZB8
import Derived.Test.YthlbemnbmbmjhaaGreatDoorZB7
import Derived.Test.YthlbemnbmbmjhaaGreatDoorZB13
import Derived.Test.YthlbemnbmbmjhaaGreatDoorZB9
import Derived.Test.YthlbemnbmbmjhaaGreatDoorZB6
set_option maxRecDepth 1000000
set_option maxHeartbeats 20000000
namespace Go.Proofs.YthlbemnbmbmjhaaGreatDoor
open Go.RowKit
open Go.Value renaming int → vI
open Go.IntKind renaming u64 → vU
open Go.Act renaming put → aP
open List renaming setIfInBounds_toArray → lA, set_cons_zero → lZ, set_cons_succ → lS
theorem or_u64 {V Y : Nat} (hV : V < 72057594037927936) (hY : Y < 256) : bits .or .u64 (IntKind.u64.wrap ((V : Int) * 256)) (Y : Int) = ((256 * V + Y : Nat) : Int):=by
 rw [IntKind.wrap_u64,show (V : Int) * 256 % 18446744073709551616 = ((V * 256 : Nat) : Int) by omega,u64_or_nat _ _ (by omega) (by omega),nat_join 8 _ _ (by omega) (by omega),Nat.mul_comm]
theorem valB_lt8 {bs : List Nat} (h : Byt bs) : ∀ i,i ≤ bs.length → valB (bs.take i) < 256 ^ i
 | 0,_ => by simp [valB]
 | i + 1,hi => by
  have h1:=valB_lt8 h i (by omega)
  have h2:=h.getD i
  rw [zbj (by omega),Nat.pow_succ]
  omega
theorem valB_ge {bs : List Nat} : ∀ i,i < bs.length → bs.getD 0 0 * 256 ^ i ≤ valB (bs.take (i + 1))
 | 0,hi => by
  rw [zbj hi]
  omega
 | i + 1,hi => by
  have h1:=valB_ge (bs:=bs) i (by omega)
  rw [zbj hi,Nat.pow_succ,← Nat.mul_assoc]
  omega
theorem ofB_big {bs : List Nat} (h : Byt bs) (hl : 8 = bs.length) (hv : (9223372036854775807 : Int) < (valB bs : Nat)) : ofB bs = -1:=by
 unfold ofB
 rw [if_neg]
 rintro ⟨_,h0⟩
 have h1:=valB_lt h h0 7 (by omega)
 rw [List.take_of_length_le (by omega)] at h1
 have : (128 : Nat) * 256 ^ 7 = 9223372036854775808:=by decide
 omega
theorem ofB_small {bs : List Nat} (hl : 8 = bs.length) (hv : ¬ (9223372036854775807 : Int) < (valB bs : Nat)) : ofB bs = (valB bs : Nat):=by
 unfold ofB
 rw [if_pos]
 refine ⟨hl.symm,?_⟩
 have h1:=valB_ge (bs:=bs) 7 (by omega)
 rw [List.take_of_length_le (by omega)] at h1
 have : (256 : Nat) ^ 7 = 72057594037927936:=by decide
 omega
def nbv (U j : Nat) : Value:=.int .u8 ((U / 256 ^ (7 - j) % 256 : Nat) : Int)
theorem num_step {U k j : Nat} (hk : k < 8) (hj : j = 7 - k) : ∀ i,i < 8 → (if i = j then nbv U j else if 8 ≤ i + k then nbv U i else .int .u8 0) = (if 8 ≤ i + (k + 1) then nbv U i else .int .u8 0):=by
 intro i hi
 by_cases h : i = j
 ·
  rw [if_pos h,if_pos (by omega),h]
 ·
  rw [if_neg h]
  by_cases h2 : 8 ≤ i + k
  ·
   rw [if_pos h2,if_pos (by omega)]
  ·
   rw [if_neg h2,if_neg (by omega)]
theorem num_bs {w : World} {g : Nat} {n : Int} {U : Nat} (hU : U = (n % 18446744073709551616).toNat) (h : w.rowIs g 5 8 (nbv U)) : Bs w (some ⟨g,0,none⟩) (numB n):=by
 refine ⟨zhf n,.inr ⟨g,0,rfl,h.lt,fun j hj => ?_⟩⟩
 rw [zbm] at hj
 rw [Nat.zero_add,h.cell hj,hU]
 unfold nbv
 rw [List.getD_eq_getElem?_getD]
 simp [numB,hj]
theorem row_fill {w : World} {z : Value} {n b t : Nat} (hb : b = w.heap.size) : (w.alloc (.cells (madeCells #[z] n) t)).rowIs b t n (fun _ => z):=by
 subst hb
 exact World.rowIs_made w z n t
theorem num8_calls (n : Int) (w : World) (_h0 : -9223372036854775808 ≤ n) (_h1 : n ≤ 9223372036854775807) :
  Calls Tryz.prog 50 #[.int .i64 n] w fun e w' => ∃ A c,e = .returned (.slice A 8 c) ∧ 8 ≤ c ∧ Bs w' A (numB n) ∧ Ext w w':=by
 obtain ⟨U,hU⟩ : ∃ U,U = (n % 18446744073709551616).toNat:=⟨_,rfl⟩
 have hw : IntKind.u64.wrap n = (U : Int):=by
  rw [hU]
  show n % 18446744073709551616 = _
  omega
 have HU:=veil hU
 clear hU _h0 _h1
 obtain ⟨i0,hi,hz0,hz1,hz2⟩:=info_parts infoTG
 have hmk : ∀ W : World,(Instr.makeSlice 33 (.int .i64 8) (.int .i64 8)).run Tryz.prog W = .ok (.slice (some ⟨W.heap.size,0,none⟩) 8 8) (W.alloc (.cells (madeCells #[.int .u8 0] 8) 5)) :=
  fun W => run_make_row 33 5 i0 (.int .u8 0) Tryz.underlying33 hi hz0 hz1 rfl .i64 .i64 8 (by rw [hz2]; omega) (by omega) W
 clear hi hz0 hz1 hz2
 go_enter Tryz.func50,Tryz.ntmps50
 go_wp2
 go_loopw [4,5] (fun v i wr => ∃ k : Nat,k ≤ 8 ∧ v = .int .u64 ((U / 256 ^ k : Nat) : Int) ∧ i = .int .i64 (7 - (k : Int)) ∧ wr.rowIs w.heap.size 5 8 (fun j => if 8 ≤ j + k then nbv U j else .int .u8 0) ∧ Ext w wr)
  (fun _ i _ => (intOf i + 1).toNat)
 case atStart => exact ⟨0,by omega,by simp,rfl,(row_fill (w:=w) (z:=.int .u8 0) rfl).congr (fun i hi => by rw [if_neg (by omega)]),Ext.alloc w _⟩
 case round =>
  obtain ⟨k,hk,rfl,rfl,hR,hE⟩:=hrel
  by_cases hlt : k < 8
  ·
   obtain ⟨j,hj⟩ : ∃ j,j = 7 - k:=⟨_,rfl⟩
   have hji : (7 : Int) - (k : Int) = (j : Int):=by omega
   have hjn : (j : Int) < (8 : Int):=by omega
   have c2:=hR.cell (i:=j) (by omega)
   have f2:=hR.frozen j
   have hs : U / 256 ^ (k + 1) = U / 256 ^ k / 256:=by rw [Nat.pow_succ,← Nat.div_div_eq_div_mul]
   have hb : nbv U j = .int .u8 (((U / 256 ^ k % 256 : Nat) : Nat) : Int):=by unfold nbv; rw [show 7 - j = k by omega]
   generalize U / 256 ^ k = q at *
   have HJ:=veil (And.intro hj (And.intro hs hb))
   clear hj hs hb
   rw [hji]
   go_wp2
   go_roundw
   case rel =>
    refine ⟨k + 1,by omega,by rw [HJ.out.2.1]; simp,by go_num,?_,?_⟩
    ·
     have h2:=HJ.out.2.2
     rw [show ((q % 256 : Nat) : Int) = (q : Int) % 256 by omega] at h2
     rw [← h2]
     exact (hR.set j (nbv U j)).congr (num_step hlt HJ.out.1)
    ·
     exact zai hE (Nat.le_refl _) _
   case measure => simp [intOf]
  ·
   obtain rfl : k = 8:=by omega
   go_wp2
   go_ret
   exact ⟨_,8,rfl,by omega,num_bs HU.out (hR.congr fun i hi => by rw [if_pos (by omega)]),hE⟩
theorem of8_calls (A : Option Addr) (m c : Nat) (bs : List Nat) (hm : m = bs.length) (hmc : m ≤ c) (w : World) (hS : Bs w A bs) :
  Calls Tryz.prog 56 #[.slice A m c] w fun e w' => ∃ x ev,e = .returned (.tuple #[x,ev]) ∧ Ext w w' ∧ OfA bs x ev:=by
 have HS:=veil (And.intro hS hm)
 by_cases h8 : m = 8
 ·
  subst h8
  clear hS hm
  go_enter Tryz.func56,Tryz.ntmps56
  go_wp2
  go_loopw [4,13] (fun v u wr => ∃ i : Nat,i ≤ 8 ∧ u = .int .i64 (i : Int) ∧ v = .int .u64 ((valB (bs.take i) : Nat) : Int) ∧ Ext w wr)
   (fun _ v _ => 8 - (intOf v).toNat)
  case atStart => exact ⟨0,by omega,rfl,rfl,Ext.refl _⟩
  case round =>
   obtain ⟨i,hi,rfl,rfl,hE⟩:=hrel
   by_cases hlt : i < 8
   ·
    have hii : (i : Int) < 8:=by omega
    obtain ⟨b2,o2,hA,_,c1⟩:=(HS.out.1.ext hE).cell (j:=i) (by have:=HS.out.2; omega)
    have l1:=HS.out.1.1.getD i
    obtain ⟨V,hV⟩ : ∃ V,V = valB (bs.take i):=⟨_,rfl⟩
    obtain ⟨Y,hY⟩ : ∃ Y,Y = bs.getD i 0:=⟨_,rfl⟩
    rw [← hY] at c1 l1
    rw [← hV]
    have k1 : (Y : Int) ≤ 255:=by omega
    have HVY:=veil (And.intro hV hY)
    have hv:=valB_lt8 HS.out.1.1 i (by have:=HS.out.2; omega)
    have h7 : 256 ^ i ≤ 256 ^ 7:=Nat.pow_le_pow_right (by decide) (by omega)
    have e7 : (256 : Nat) ^ 7 = 72057594037927936:=by decide
    have hor:=or_u64 (V:=V) (Y:=Y) (by omega) l1
    have HOR:=veil hor
    clear hV hY l1 hv h7 e7 hor
    subst hA
    go_wp2
    go_roundw
    case rel =>
     refine ⟨i + 1,by omega,by go_num,?_,hE⟩
     rw [zbj (by have:=HS.out.2; omega),← HVY.out.1,← HVY.out.2,HOR.out]
    case measure => simp [intOf]; omega
   ·
    obtain rfl : i = 8:=by omega
    have e : bs.take 8 = bs:=List.take_of_length_le (by have:=HS.out.2; omega)
    rw [e]
    obtain ⟨V,hV⟩ : ∃ V,V = valB bs:=⟨_,rfl⟩
    rw [← hV]
    have HV:=veil hV
    clear hV e
    by_cases g : (9223372036854775807 : Int) < (V : Int)
    ·
     have hd : decide ((9223372036854775807 : Int) < (V : Int)) = true:=decide_eq_true g
     have HR:=veil (ofB_big HS.out.1.1 HS.out.2 (by rw [← HV.out]; exact g))
     clear g
     go_wp2
     go_ret2
     exact ⟨_,_,rfl,hE,.inl ⟨by rw [HR.out]; decide,rfl,rfl⟩⟩
    ·
     have hd : decide ((9223372036854775807 : Int) < (V : Int)) = false:=decide_eq_false g
     have HR:=veil (ofB_small (bs:=bs) HS.out.2 (by rw [← HV.out]; exact g))
     have hle : (V : Int) ≤ 9223372036854775807:=by omega
     clear g
     go_wp2
     go_ret2
     exact ⟨_,_,rfl,hE,.inr ⟨by rw [HR.out]; omega,by rw [HR.out,← HV.out]; rfl,rfl⟩⟩
 ·
  have h8' : ¬ ((m : Int) = 8):=by omega
  have hr : ofB bs = -1:=by
   unfold ofB
   rw [if_neg]
   intro h
   omega
  have HR:=veil hr
  clear hS hm hr
  go_enter Tryz.func56,Tryz.ntmps56
  go_wp2
  go_ret2
  exact ⟨_,_,rfl,Ext.refl _,.inl ⟨by rw [HR.out]; decide,rfl,rfl⟩⟩
theorem code8 : Code8 where
 may:=zdm
 put v fs w hF hL:=by
  cases hM : mayFs fs with
  | false => exact (put_no v fs w hF hL hM).mono fun e w' ⟨he,hE⟩ => ⟨_,_,he,hE,.inl ⟨hM,⟨none,0,rfl⟩,rfl⟩⟩
  | true => exact (put_yes v fs w hF hM).mono fun e w' ⟨A,c,he,hc,hB,hE⟩ => ⟨_,_,he,hE,.inr ⟨hM,rfl,A,c,rfl,hc,hB⟩⟩
 get A m c bs w hm hmc hle hS:=get8_calls A m c bs hm hmc hle w hS
 number n w h0 h1:=num8_calls n w h0 h1
 of A m c bs w hm hmc hS:=of8_calls A m c bs hm hmc w hS
def Vs (w : World) (v : Value) (l : List (List Nat)) : Prop:=(∀ x ∈ l,Byt x) ∧ ∃ AL c,v = .slice AL l.length c ∧ l.length ≤ c ∧ (l.length = 0 ∨ ∃ b o,AL = some ⟨b,o,none⟩ ∧ b < w.heap.size ∧
 ∀ i,i < l.length → ∃ A c',w.cell? ⟨b,o + i,none⟩ = some (.slice A (l.getD i []).length c') ∧ (l.getD i []).length ≤ c' ∧ Bs w A (l.getD i []))
theorem Vs.ext {w w' : World} {v : Value} {l : List (List Nat)} (h : Vs w v l) (k : Ext w w') : Vs w' v l:=by
 obtain ⟨hB,AL,c,e,hc,h⟩:=h
 refine ⟨hB,AL,c,e,hc,h.imp id ?_⟩
 rintro ⟨b,o,e,hb,hx⟩
 refine ⟨b,o,e,Nat.lt_of_lt_of_le hb k.size,fun i hi => ?_⟩
 obtain ⟨A,c',h2,h3,h4⟩:=hx i hi
 exact ⟨A,c',(k.cell hb).trans h2,h3,h4.ext k⟩
theorem hmk_fd (n : Nat) (hn : n ≤ 1000000) (W : World) : (Instr.makeSlice 61 (.int .i64 (n : Int)) (.int .i64 (n : Int))).run Tryz.prog W = .ok (.slice (some ⟨W.heap.size,0,none⟩) n n) (W.alloc (.cells (madeCells #[.int .i64 0,.slice none 0 0] (n * 2)) 64)):=by
 obtain ⟨i,hi,hz,hsz,hby⟩:=zdt infoF16
 have h:=run_make (P:=Tryz.prog) W 61 64 i _ Tryz.underlying61 hi hz .i64 .i64 (n : Int) (n : Int) (by omega) (Int.le_refl _) (by rw [hby]; omega) (by omega)
 simp only [Int.toNat_natCast,hsz,Value.cells] at h
 exact h
theorem pre_new (w : World) (C : Array Value) (t m : Nat) (hm : m = C.size) : Pre (w.alloc (.cells C t)) w.heap.size t m (fun j => C.getD j undef) :=
 ⟨C,zag w _,fun i hi => by
  have : i < C.size:=by omega
  simp [Array.getD,this]⟩
theorem Pre.there {w : World} {g t n : Nat} {f : Nat → Value} (p : Pre w g t n f) {i : Nat} (hi : i + 2 ≤ n) : w.there g i 2:=fun j hj => ⟨by rw [p.cell (show i + j < n by omega)]; rfl,p.frozen _⟩
theorem Pre.two {w : World} {g t n : Nat} {f : Nat → Value} (p : Pre w g t n f) (i : Nat) (x y : Value) : Pre (w.setCells g i [x,y]) g t n (fun j => if j = i + 1 then y else if j = i then x else f j):=(p.set i x).set (i + 1) y
def lenTo (l : List (List Nat)) (i : Nat) : Nat:=(l.take i).flatten.length
theorem flat_step (l : List (List Nat)) {i : Nat} (hi : i < l.length) : (l.take (i + 1)).flatten = (l.take i).flatten ++ l.getD i []:=by
 rw [List.take_succ_eq_append_getElem hi,List.flatten_append]
 simp [List.getD_eq_getElem?_getD,hi]
theorem zgt (l : List (List Nat)) {i : Nat} (hi : i < l.length) : lenTo l (i + 1) = lenTo l i + (l.getD i []).length:=by
 unfold lenTo
 rw [flat_step l hi,List.length_append]
theorem lenTo_all (l : List (List Nat)) {i : Nat} (hi : i = l.length) : lenTo l i = l.flatten.length:=by
 subst hi
 unfold lenTo
 rw [List.take_length]
theorem lenTo_le (l : List (List Nat)) : ∀ d i,i + d = l.length → lenTo l i ≤ l.flatten.length
 | 0,i,h => by rw [lenTo_all l (by omega)]; exact Nat.le_refl _
 | d + 1,i,h => by
  have h1:=lenTo_le l d (i + 1) (by omega)
  rw [zgt l (by omega)] at h1
  omega
theorem OwnB.fresh {w w0 : World} {v : Value} {bs : List Nat} (o : OwnB w w0.heap.size v bs) : ∃ A c,v = .slice A bs.length c ∧ bs.length ≤ c ∧ Bs w A bs ∧ Fresh w0 A bs:=by
 by_cases h : bs.length = 0
 ·
  obtain ⟨A,c,e,h1,h2⟩:=o.bs
  exact ⟨A,c,e,h1,h2,.inl h⟩
 ·
  obtain ⟨hB,o⟩:=o
  obtain ⟨g,cap,rfl,hnc,hg,hp⟩:=o.pre (by omega)
  refine ⟨_,cap,rfl,hnc,⟨hB,.inr ⟨g,0,rfl,hp.lt,fun j hj => by rw [Nat.zero_add]; exact hp.cell hj⟩⟩,.inr fun b o e => ?_⟩
  injection e with e
  injection e with e
  omega
theorem concatB_calls (v : Value) (l : List (List Nat)) (hn : l.length ≤ 64) (h0 : 0 < l.flatten.length) (h1 : l.flatten.length ≤ 1048576) (w : World) (hV : Vs w v l) :
  Calls Tryz.prog 49 #[v] w fun e w' => ∃ A c,e = .returned (.slice A l.flatten.length c) ∧ l.flatten.length ≤ c ∧ Bs w' A l.flatten ∧ Fresh w A l.flatten ∧ Ext w w':=by
 obtain ⟨i8,hi8,hz0,hz1,hz2⟩:=info_parts infoByte
 have HI:=veil (And.intro hi8 (And.intro hz0 (And.intro hz1 hz2)))
 clear hi8 hz0 hz1 hz2
 obtain ⟨hB,AL,c,rfl,hc,hx⟩:=hV
 obtain ⟨n,hn'⟩ : ∃ n,n = l.length:=⟨_,rfl⟩
 obtain ⟨T,hT⟩ : ∃ T,T = l.flatten.length:=⟨_,rfl⟩
 rw [← hn'] at hx hc hn ⊢
 rw [← hT] at h0 h1 ⊢
 have HX:=veil (And.intro hx (And.intro hn' (And.intro hB hT)))
 clear hx hn' hB hT
 go_enter Tryz.func49,Tryz.ntmps49
 go_wp2
 go_loop [3,11] (fun v3 v11 => ∃ i : Nat,i ≤ n ∧ v11 = .int .i64 (i : Int) ∧ v3 = .int .i64 ((lenTo l i : Nat) : Int)) (fun _ v11 => n - (intOf v11).toNat)
 case atStart => exact ⟨0,by omega,rfl,rfl⟩
 case round =>
  obtain ⟨i,hi,rfl,rfl⟩:=hrel
  by_cases hlt : i < n
  ·
   have hd1 : decide ((i : Int) < (n : Int)) = true:=by simp; omega
   have hii : (i : Int) < (n : Int):=by omega
   have hil : i < l.length:=by have:=HX.out.2.1; omega
   obtain ⟨b,o,hA,hb,hcl⟩:=HX.out.1.resolve_left (by omega)
   obtain ⟨A,c',c0,_,_⟩:=hcl i hlt
   have hst:=zgt l hil
   have hle:=lenTo_le l (l.length - (i + 1)) (i + 1) (by omega)
   rw [← HX.out.2.2.2,hst] at hle
   have HS:=veil hst
   obtain ⟨S,hS⟩ : ∃ S,S = lenTo l i:=⟨_,rfl⟩
   obtain ⟨L,hL⟩ : ∃ L,L = (l.getD i []).length:=⟨_,rfl⟩
   rw [← hS,← hL] at hle HS
   rw [← hS]
   rw [← hL] at c0
   subst hA
   clear hcl hst hS hL hil
   go_wp2
   go_round
   case rel => exact ⟨i + 1,by omega,by go_num,by rw [HS.out]; go_num⟩
   case measure => simp [intOf]; omega
  ·
   obtain rfl : i = n:=by omega
   have hd1 : decide ((i : Int) < (i : Int)) = false:=by simp
   rw [lenTo_all l HX.out.2.1,← HX.out.2.2.2]
   have HGR:=veil (fun W => grow_calls T h0 h1 W)
   go_wp2_with fail
   refine (HGR.out _).mono ?_
   rintro e w1 ⟨⟨v,rfl,hown⟩,hE⟩
   have hO : OwnB w1 w.heap.size v []:=⟨(fun _ h => by cases h),hown _⟩
   clear hown HGR
   go_wp2
   go_loopw [6,27] (fun v6 v27 wr => ∃ k : Nat,k ≤ i ∧ v27 = .int .i64 (k : Int) ∧ OwnB wr w.heap.size v6 (l.take k).flatten ∧ Ext w wr) (fun _ v27 _ => i - (intOf v27).toNat)
   case atStart => exact ⟨0,by omega,rfl,hO,hE⟩
   case round =>
    clear hO hE
    obtain ⟨k,hk,rfl,hO,hE⟩:=hrel
    by_cases hlt : k < i
    ·
     have hd2 : decide ((k : Int) < (i : Int)) = true:=by simp; omega
     have hki : (k : Int) < (i : Int):=by omega
     have hil : k < l.length:=by have:=HX.out.2.1; omega
     obtain ⟨b,o,hA,hb,hcl⟩:=HX.out.1.resolve_left (by omega)
     obtain ⟨A,c',h2,h3,h4⟩:=hcl k hlt
     have c0:=(hE.cell hb).trans h2
     have hst:=zgt l hil
     have hle:=lenTo_le l (l.length - (k + 1)) (k + 1) (by omega)
     rw [← HX.out.2.2.2,hst] at hle
     unfold lenTo at hle
     have hfl:=flat_step l hil
     obtain ⟨D1,hD1⟩ : ∃ D,D = (l.take k).flatten:=⟨_,rfl⟩
     rw [← hD1] at hfl hle hO
     generalize l.getD k [] = D0 at *
     obtain ⟨L,hL⟩ : ∃ L,L = D0.length:=⟨_,rfl⟩
     rw [← hL] at c0 h3 hle
     have hfr:=(h4.ext hE).from
     rw [← hL] at hfr
     have HFR:=veil hfr
     have HS:=veil (And.intro hfl (And.intro hle (And.intro hO (And.intro h4 (And.intro hE hL)))))
     subst hA
     clear hcl hst hle hfl hO h2 h4 hE hL hfr hil hD1
     go_wp2_with (at_builtin; refine zaz _ rfl _ _ _ rfl w.heap.size 5 i8 (.int .u8 0) 1 Tryz.underlying33 HI.out.1 HI.out.2.1 HI.out.2.2.1 HI.out.2.2.2 rfl _ _ _ rfl HS.out.2.2.1.2 A L c' rfl _ HFR.out (fun _ => rfl) (by unfold maxLen; have:=HS.out.2.1; omega) (by have:=HS.out.2.1; omega) (Below.size HS.out.2.2.2.2.1) ?_)
     intro v' w' hO' hG' _
     have hE' : Ext w w':=HS.out.2.2.2.2.1.grown hG' (Below.size HS.out.2.2.2.2.1) fun k hk => (HS.out.2.2.1.2.lt hk).1
     have hO9 : OwnB w' w.heap.size v' (D1 ++ D0):=OwnB.append hO' HS.out.2.2.1.1 HS.out.2.2.2.1.1 rfl HS.out.2.2.2.2.2
     rw [← HS.out.1] at hO9
     clear hO' hG'
     go_wp2
     go_roundw
     case rel => exact ⟨k + 1,by omega,by go_num,hO9,hE'⟩
     case measure => simp [intOf]; omega
    ·
     obtain rfl : k = i:=by omega
     have hd2 : decide ((k : Int) < (k : Int)) = false:=by simp
     have e : (l.take k).flatten = l.flatten:=by rw [HX.out.2.1,List.take_length]
     rw [e] at hO
     obtain ⟨A,c2,rfl,hc2,hB2,hF2⟩:=hO.fresh
     rw [← HX.out.2.2.2] at hc2 ⊢
     clear hO
     go_wp2
     go_ret
     exact ⟨A,c2,rfl,hc2,hB2,hF2,hE⟩
structure Code (I : World → Prop) : Prop where
 keep : ∀ w w',I w → Below w.heap.size w w' → I w'
 on : ∀ X Y f,X < top → Y < top → ∀ w,I w → Calls Tryz.prog 47 #[.agg #[vI vU (wd X 0),vI vU (wd X 1),vI vU (wd X 2),vI vU (wd X 3),vI vU (wd Y 0),vI vU (wd Y 1),vI vU (wd Y 2),vI vU (wd Y 3),.bool (f)]] w fun e w' => e = .returned (.bool (onB X Y f)) ∧ Below w.heap.size w w'
 addNo : ∀ X Y f X' Y' f',X < top → Y < top → X' < top → Y' < top → (onB X Y f = false ∨ onB X' Y' f' = false) → ∀ w,I w → Calls Tryz.prog 126 #[.agg #[vI vU (wd X 0),vI vU (wd X 1),vI vU (wd X 2),vI vU (wd X 3),vI vU (wd Y 0),vI vU (wd Y 1),vI vU (wd Y 2),vI vU (wd Y 3),.bool (f)],.agg #[vI vU (wd (X') 0),vI vU (wd (X') 1),vI vU (wd (X') 2),vI vU (wd (X') 3),vI vU (wd (Y') 0),vI vU (wd (Y') 1),vI vU (wd (Y') 2),vI vU (wd (Y') 3),.bool (f')]] w fun e w' => e = .returned (.tuple #[.agg #[vI vU 0,vI vU 0,vI vU 0,vI vU 0,vI vU 0,vI vU 0,vI vU 0,vI vU 0,.bool false],.iface 39 (.int .i64 1)]) ∧ Below w.heap.size w w'
 add : ∀ q r : Pt.Q,∀ w,I w → Calls Tryz.prog 126 #[.agg #[vI vU (wd (Pt.pX q.1) 0),vI vU (wd (Pt.pX q.1) 1),vI vU (wd (Pt.pX q.1) 2),vI vU (wd (Pt.pX q.1) 3),vI vU (wd (Pt.pY q.1) 0),vI vU (wd (Pt.pY q.1) 1),vI vU (wd (Pt.pY q.1) 2),vI vU (wd (Pt.pY q.1) 3),.bool (Pt.pFar q.1)],.agg #[vI vU (wd (Pt.pX r.1) 0),vI vU (wd (Pt.pX r.1) 1),vI vU (wd (Pt.pX r.1) 2),vI vU (wd (Pt.pX r.1) 3),vI vU (wd (Pt.pY r.1) 0),vI vU (wd (Pt.pY r.1) 1),vI vU (wd (Pt.pY r.1) 2),vI vU (wd (Pt.pY r.1) 3),.bool (Pt.pFar r.1)]] w fun e w' => e = .returned (.tuple #[.agg #[vI vU (wd (Pt.pX (Pt.grp.op q r).1) 0),vI vU (wd (Pt.pX (Pt.grp.op q r).1) 1),vI vU (wd (Pt.pX (Pt.grp.op q r).1) 2),vI vU (wd (Pt.pX (Pt.grp.op q r).1) 3),vI vU (wd (Pt.pY (Pt.grp.op q r).1) 0),vI vU (wd (Pt.pY (Pt.grp.op q r).1) 1),vI vU (wd (Pt.pY (Pt.grp.op q r).1) 2),vI vU (wd (Pt.pY (Pt.grp.op q r).1) 3),.bool (Pt.pFar (Pt.grp.op q r).1)],.nilIface]) ∧ Below w.heap.size w w'
 mulNo : ∀ K X Y f,K < top → X < top → Y < top → onB X Y f = false → ∀ w,I w → Calls Tryz.prog 125 #[.agg #[vI vU (wd K 0),vI vU (wd K 1),vI vU (wd K 2),vI vU (wd K 3)],.agg #[vI vU (wd X 0),vI vU (wd X 1),vI vU (wd X 2),vI vU (wd X 3),vI vU (wd Y 0),vI vU (wd Y 1),vI vU (wd Y 2),vI vU (wd Y 3),.bool (f)]] w fun e w' => e = .returned (.tuple #[.agg #[vI vU 0,vI vU 0,vI vU 0,vI vU 0,vI vU 0,vI vU 0,vI vU 0,vI vU 0,.bool false],.iface 39 (.int .i64 1)]) ∧ Below w.heap.size w w'
 mul : ∀ K,K < top → ∀ q : Pt.Q,∀ w,I w → Calls Tryz.prog 125 #[.agg #[vI vU (wd K 0),vI vU (wd K 1),vI vU (wd K 2),vI vU (wd K 3)],.agg #[vI vU (wd (Pt.pX q.1) 0),vI vU (wd (Pt.pX q.1) 1),vI vU (wd (Pt.pX q.1) 2),vI vU (wd (Pt.pX q.1) 3),vI vU (wd (Pt.pY q.1) 0),vI vU (wd (Pt.pY q.1) 1),vI vU (wd (Pt.pY q.1) 2),vI vU (wd (Pt.pY q.1) 3),.bool (Pt.pFar q.1)]] w fun e w' => e = .returned (.tuple #[.agg #[vI vU (wd (Pt.pX (Pt.grp.mul K q).1) 0),vI vU (wd (Pt.pX (Pt.grp.mul K q).1) 1),vI vU (wd (Pt.pX (Pt.grp.mul K q).1) 2),vI vU (wd (Pt.pX (Pt.grp.mul K q).1) 3),vI vU (wd (Pt.pY (Pt.grp.mul K q).1) 0),vI vU (wd (Pt.pY (Pt.grp.mul K q).1) 1),vI vU (wd (Pt.pY (Pt.grp.mul K q).1) 2),vI vU (wd (Pt.pY (Pt.grp.mul K q).1) 3),.bool (Pt.pFar (Pt.grp.mul K q).1)],.nilIface]) ∧ Below w.heap.size w w'
 base : ∀ w,I w → Calls Tryz.prog 20 #[] w fun e w' => e = .returned (.agg #[vI vU (wd (Pt.gx) 0),vI vU (wd (Pt.gx) 1),vI vU (wd (Pt.gx) 2),vI vU (wd (Pt.gx) 3),vI vU (wd (Pt.gy) 0),vI vU (wd (Pt.gy) 1),vI vU (wd (Pt.gy) 2),vI vU (wd (Pt.gy) 3),.bool (false)]) ∧ Below w.heap.size w w'
 pp : ∀ w,I w → Calls Tryz.prog 109 #[] w fun e w' => e = .returned (.agg #[vI vU (wd (Pt.pp) 0),vI vU (wd (Pt.pp) 1),vI vU (wd (Pt.pp) 2),vI vU (wd (Pt.pp) 3)]) ∧ Below w.heap.size w w'
 nn : ∀ w,I w → Calls Tryz.prog 119 #[] w fun e w' => e = .returned (.agg #[vI vU (wd (Pt.nn) 0),vI vU (wd (Pt.nn) 1),vI vU (wd (Pt.nn) 2),vI vU (wd (Pt.nn) 3)]) ∧ Below w.heap.size w w'
theorem Code.drew {I : World → Prop} (C : Code I) {w : World} (h : I w) : I w.drew:=C.keep _ _ h (Below.refl _ _).drew
theorem Code.alloc {I : World → Prop} (C : Code I) {w : World} (h : I w) (o : Obj) : I (w.alloc o):=C.keep _ _ h ((Below.refl _ _).alloc (Nat.le_refl _) _)
theorem on_base : onB Pt.gx Pt.gy false = true:=by decide +kernel
theorem vs_row {w : World} {g t : Nat} {C : Array Value} {fr : Nat × Nat} {l : List (List Nat)} {c : Nat} (hg : w.heap[g]? = some (.cells C t fr)) (hc : l.length ≤ c)
  (h : ∀ i,i < l.length → ∃ A c',C[i]? = some (.slice A (l.getD i []).length c') ∧ (l.getD i []).length ≤ c' ∧ Bs w A (l.getD i [])) : Vs w (.slice (some ⟨g,0,none⟩) l.length c) l:=by
 refine ⟨fun x hx => ?_,_,c,rfl,hc,.inr ⟨g,0,rfl,(Array.getElem?_eq_some_iff.1 hg).1,fun i hi => ?_⟩⟩
 ·
  obtain ⟨i,hi,e⟩:=List.mem_iff_getElem.1 hx
  obtain ⟨A,c',_,_,hB⟩:=h i hi
  have : l.getD i [] = x:=by simp [List.getD_eq_getElem?_getD,hi,e]
  rw [← this]
  exact hB.1
 ·
  obtain ⟨A,c',h1,h2,h3⟩:=h i hi
  exact ⟨A,c',by rw [Nat.zero_add,cell_of_row w g i C t fr hg]; exact h1,h2,h3⟩
def NumV (n : Int) (v : Value) (W : World) : Prop:=∃ A c,v = .slice A 8 c ∧ 8 ≤ c ∧ Bs W A (numB n)
theorem numV (n : Int) (h : 0 ≤ n ∧ n ≤ 9223372036854775807) (W : World) : Calls Tryz.prog 50 #[.int .i64 n] W fun e w' => ∃ v,e = .returned v ∧ Ext W w' ∧ NumV n v w' :=
 (num8_calls n W (by omega) h.2).mono fun _ _ ⟨A,c,he,hc,hB,hE⟩ => ⟨_,he,hE,A,c,rfl,hc,hB⟩
theorem neNil2 (w : World) : (binOp .neq 35 (.iface 39 (.int .i64 2)) .nilIface).run Tryz.prog w = .ok (.bool true) w:=by kernel_rfl
theorem neNilN (w : World) : (binOp .neq 35 .nilIface .nilIface).run Tryz.prog w = .ok (.bool false) w:=by kernel_rfl
theorem get8_nil (w : World) : Calls Tryz.prog 31 #[.slice none 0 0] w fun e w' => e = .returned (.tuple #[.slice none 0 0,.nilIface]) ∧ Ext w w':=by
 have KM : Hid (∀ W : World,Calls Tryz.prog 51 #[.slice none 0 0] W fun e w' => e = .returned (.bool true) ∧ Ext W w'):=veil (fun W => zdm _ [] W (Fl.nil W) (by decide))
 go_enter Tryz.func31,Tryz.ntmps31
 go_wp2
 go_loopw [0,4] (fun s v wr => s = .slice none 0 0 ∧ v = .slice none 0 0 ∧ Ext w wr) (fun _ _ _ => 0)
 case atStart => exact ⟨rfl,rfl,Ext.refl _⟩
 case round =>
  obtain ⟨rfl,rfl,hE⟩:=hrel
  have HE:=veil hE
  clear hE
  go_wp2_with (go_at_call 51; refine (KM.out _).mono ?_; rintro e w1 ⟨rfl,hE1⟩)
  go_ret2
  exact ⟨rfl,HE.out.trans hE1⟩
theorem tget_nil (w : World) : Calls Tryz.prog 60 #[.slice none 0 0,.int .i64 2] w fun e w' => e = .returned (.tuple #[.slice none 0 0,.iface 39 (.int .i64 2)]) ∧ Ext w w':=by
 have KG:=veil (fun W => get8_nil W)
 have k3:=neNilN
 go_enter Tryz.func60,Tryz.ntmps60
 go_wp2_with (go_at_call 31; refine (KG.out _).mono ?_; rintro e w1 ⟨rfl,hE1⟩)
 go_ret2
 exact ⟨rfl,hE1⟩
theorem open_nil_calls (w : World) : Calls Tryz.prog 36 #[.slice none 0 0] w fun e w' => e = .returned (.tuple #[.agg (tkC ⟨0,0,0,0,0⟩),.agg (gc 0 0),.iface 39 (.int .i64 2)]) ∧ Ext w w':=by
 have KG:=veil (fun W => tget_nil W)
 have k2:=neNil2
 go_enter Tryz.func36,Tryz.ntmps36
 go_upto_region 1 with (fail)
 obtain ⟨g2,hg2⟩ : ∃ g,g = w.heap.size:=⟨_,rfl⟩
 obtain ⟨g3,hg3⟩ : ∃ g,g = w.heap.size + 1:=⟨_,rfl⟩
 obtain ⟨w0,hw0⟩ : ∃ W,W = (w.alloc (.cells TZ 47)).alloc (.cells Z8 78):=⟨_,rfl⟩
 have h2:=(zfr w (.cells TZ 47) (.cells Z8 78)).1
 have h3:=(zfr w (.cells TZ 47) (.cells Z8 78)).2
 have hE0:=two_ext w (.cells TZ 47) (.cells Z8 78)
 rw [← hw0,← hg2] at h2
 rw [← hw0,← hg3] at h3
 rw [← hw0] at hE0
 have H0:=veil (And.intro hE0 (And.intro h2 (And.intro h3 (And.intro (show w.heap.size ≤ g2 by omega) (show g2 < g3 by omega)))))
 unfold TZ Z8 at hw0
 rw [← hw0,← hg3,← hg2]
 clear hw0 hg3 hg2 hE0 h2 h3
 go_upto_region 2 with (go_at_call 60; refine (KG.out _).mono ?_; rintro e w1 ⟨rfl,hE1⟩)
 have H1:=veil (And.intro (H0.out.1.trans hE1) (And.intro (hE1.block H0.out.2.1) (And.intro (hE1.block H0.out.2.2.1) H0.out.2.2.2)))
 clear hE1 H0 KG
 go_wp2_with (first
  | ((with_reducible refine zay ?_); refine wpList_store_row rfl 47 _ _ rfl g2 TZ rfl rfl 47 _ H1.out.2.1 iTZ rfl tz_one ?_)
  | ((with_reducible refine zay ?_); refine wpList_store_row rfl 78 _ _ rfl g3 Z8 rfl rfl 78 _ (two_far TZ H1.out.2.2.1 H1.out.2.2.2.2) iZ8 rfl z8_one ?_))
 have hF:=two_rows (T:=TZ) (G:=Z8) H1.out.1 H1.out.2.1 H1.out.2.2.1 ⟨H1.out.2.2.2.1,H1.out.2.2.2.2⟩
 refine bodyPost_ret (results_two rfl _ _ g2 g3 47 78 TZ Z8 (0,0) (0,0) _ _ rfl hF.2.1 Tryz.underlying47 rfl iTZ rfl hF.2.2 Tryz.underlying78 rfl iZ8) rfl ⟨by rw [z8_gc]; rfl,hF.1⟩
def textsOk (fs : List Fd) (many : Nat) : Prop:=fs.length = many ∧ ∀ i,i < many → tgF fs i = (i : Int) + 1
instance (fs : List Fd) (many : Nat) : Decidable (textsOk fs many):=by unfold textsOk; exact inferInstance
theorem of_yes {A : Option Addr} {m c : Nat} {bs : List Nat} (hm : m = bs.length) (hmc : m ≤ c) {w : World} (hS : Bs w A bs) (h : 0 ≤ ofB bs) : Calls Tryz.prog 56 #[.slice A m c] w fun e w' => e = .returned (.tuple #[.int .i64 (ofB bs),.nilIface]) ∧ Ext w w' :=
 (of8_calls A m c bs hm hmc w hS).mono fun _ _ ⟨x,ev,he,hE,hA⟩ => by
  rcases hA with ⟨h1,_⟩ | ⟨_,rfl,rfl⟩
  ·
   omega
  ·
   exact ⟨he,hE⟩
theorem of_no {A : Option Addr} {m c : Nat} {bs : List Nat} (hm : m = bs.length) (hmc : m ≤ c) {w : World} (hS : Bs w A bs) (h : ofB bs < 0) : Calls Tryz.prog 56 #[.slice A m c] w fun e w' => e = .returned (.tuple #[.int .i64 0,.iface 39 (.int .i64 2)]) ∧ Ext w w' :=
 (of8_calls A m c bs hm hmc w hS).mono fun _ _ ⟨x,ev,he,hE,hA⟩ => by
  rcases hA with ⟨_,rfl,rfl⟩ | ⟨h1,_⟩
  ·
   exact ⟨he,hE⟩
  ·
   omega
def sb (s : KV) (j : Nat) : Value:=.int .u8 ((if j < 32 then s.k j else s.v (j - 32) : Nat) : Int)
section
variable {w w' : World} {g : Nat} {s : KV}
end
def pY (v : Nat → Nat) (b : Nat) (Y : Nat → Nat → Nat) (r : Nat) : Nat → Nat:=if r = 0 then v else if r = 1 then cat (fun _ => b) 1 none0 else Y (r - 2)
end Go.Proofs.YthlbemnbmbmjhaaGreatDoor
