/-
  Of UA QCode LUp5 KM KO KV KP KQ NS1 NS2.
-/
import Derived.Deep.RegionHeld3
import Derived.Deep.Matrix
import Derived.Laws.CopyOwn
import Derived.Deep.CutBlock
import Derived.Test.YthlbemnbmbmjhaaGreatDoorZM11
import Derived.Test.YthlbemnbmbmjhaaGreatDoorZM8
import Derived.Test.YthlbemnbmbmjhaaGreatDoorZM4
import Derived.Test.YthlbemnbmbmjhaaGreatDoorZM5
set_option maxRecDepth 1000000
set_option maxHeartbeats 20000000
namespace Go.Proofs.YthlbemnbmbmjhaaGreatDoor
open Go.RowKit
open Go.Value renaming int → vI
open Go.IntKind renaming u64 → vU
open Go.Act renaming put → aP
open List renaming setIfInBounds_toArray → lA, set_cons_zero → lZ, set_cons_succ → lS
def lenTo (l : List (List Nat)) (i : Nat) : Nat:=(l.take i).flatten.length
theorem flat_step (l : List (List Nat)) {i : Nat} (hi : i < l.length) : (l.take (i + 1)).flatten = (l.take i).flatten ++ l.getD i []:=by
 rw [List.take_succ_eq_append_getElem hi,List.flatten_append]
 simp [List.getD_eq_getElem?_getD,hi]
theorem zie (l : List (List Nat)) {i : Nat} (hi : i < l.length) : lenTo l (i + 1) = lenTo l i + (l.getD i []).length:=by
 unfold lenTo
 rw [flat_step l hi,List.length_append]
theorem lenTo_all (l : List (List Nat)) {i : Nat} (hi : i = l.length) : lenTo l i = l.flatten.length:=by
 subst hi
 unfold lenTo
 rw [List.take_length]
theorem lenTo_le (l : List (List Nat)) : ∀ d i,i + d = l.length → lenTo l i ≤ l.flatten.length
 | 0,i,h => by rw [lenTo_all l (by omega)]; exact Nat.le_refl _
 | d + 1,i,h => by
  have h1:=lenTo_le l d (i + 1) (by omega)
  rw [zie l (by omega)] at h1
  omega
theorem OwnB.fresh {w w0 : World} {v : Value} {bs : List Nat} (o : OwnB w w0.heap.size v bs) : ∃ A c,v = .slice A bs.length c ∧ bs.length ≤ c ∧ Bs w A bs ∧ Fresh w0 A bs:=by
 by_cases h : bs.length = 0
 ·
  obtain ⟨A,c,e,h1,h2⟩:=o.bs
  exact ⟨A,c,e,h1,h2,.inl h⟩
 ·
  obtain ⟨hB,o⟩:=o
  obtain ⟨g,cap,rfl,hnc,hg,hp⟩:=o.pre (by omega)
  refine ⟨_,cap,rfl,hnc,⟨hB,.inr ⟨g,0,rfl,hp.lt,fun j hj => by rw [Nat.zero_add]; exact hp.cell hj⟩⟩,.inr fun b o e => ?_⟩
  injection e with e
  injection e with e
  omega
theorem concatB_calls (v : Value) (l : List (List Nat)) (hn : l.length ≤ 64) (h0 : 0 < l.flatten.length) (h1 : l.flatten.length ≤ 1048576) (w : World) (hV : Vs w v l) :
  Calls Tryz.prog 49 #[v] w fun e w' => ∃ A c,e = .returned (.slice A l.flatten.length c) ∧ l.flatten.length ≤ c ∧ Bs w' A l.flatten ∧ Fresh w A l.flatten ∧ Ext w w':=by
 obtain ⟨i8,hi8,hz0,hz1,hz2⟩:=info_parts infoByte
 have HI:=veil (And.intro hi8 (And.intro hz0 (And.intro hz1 hz2)))
 clear hi8 hz0 hz1 hz2
 obtain ⟨hB,AL,c,rfl,hc,hx⟩:=hV
 obtain ⟨n,hn'⟩ : ∃ n,n = l.length:=⟨_,rfl⟩
 obtain ⟨T,hT⟩ : ∃ T,T = l.flatten.length:=⟨_,rfl⟩
 rw [← hn'] at hx hc hn ⊢
 rw [← hT] at h0 h1 ⊢
 have HX:=veil (And.intro hx (And.intro hn' (And.intro hB hT)))
 clear hx hn' hB hT
 go_enter Tryz.func49,Tryz.ntmps49
 go_wp2
 go_loop [3,11] (fun v3 v11 => ∃ i : Nat,i ≤ n ∧ v11 = .int .i64 (i : Int) ∧ v3 = .int .i64 ((lenTo l i : Nat) : Int)) (fun _ v11 => n - (intOf v11).toNat)
 case atStart => exact ⟨0,by omega,rfl,rfl⟩
 case round =>
  obtain ⟨i,hi,rfl,rfl⟩:=hrel
  by_cases hlt : i < n
  ·
   have hd1 : decide ((i : Int) < (n : Int)) = true:=by simp; omega
   have hii : (i : Int) < (n : Int):=by omega
   have hil : i < l.length:=by have:=HX.out.2.1; omega
   obtain ⟨b,o,hA,hb,hcl⟩:=HX.out.1.resolve_left (by omega)
   obtain ⟨A,c',c0,_,_⟩:=hcl i hlt
   have hst:=zie l hil
   have hle:=lenTo_le l (l.length - (i + 1)) (i + 1) (by omega)
   rw [← HX.out.2.2.2,hst] at hle
   have HS:=veil hst
   obtain ⟨S,hS⟩ : ∃ S,S = lenTo l i:=⟨_,rfl⟩
   obtain ⟨L,hL⟩ : ∃ L,L = (l.getD i []).length:=⟨_,rfl⟩
   rw [← hS,← hL] at hle HS
   rw [← hS]
   rw [← hL] at c0
   subst hA
   clear hcl hst hS hL hil
   go_wp2
   go_round
   case rel => exact ⟨i + 1,by omega,by go_num,by rw [HS.out]; go_num⟩
   case measure => simp [intOf]; omega
  ·
   obtain rfl : i = n:=by omega
   have hd1 : decide ((i : Int) < (i : Int)) = false:=by simp
   rw [lenTo_all l HX.out.2.1,← HX.out.2.2.2]
   have HGR:=veil (fun W => grow_calls T h0 h1 W)
   go_wp2_with fail
   refine (HGR.out _).mono ?_
   rintro e w1 ⟨⟨v,rfl,hown⟩,hE⟩
   have hO : OwnB w1 w.heap.size v []:=⟨(fun _ h => by cases h),hown _⟩
   clear hown HGR
   go_wp2
   go_loopw [6,27] (fun v6 v27 wr => ∃ k : Nat,k ≤ i ∧ v27 = .int .i64 (k : Int) ∧ OwnB wr w.heap.size v6 (l.take k).flatten ∧ Ext w wr) (fun _ v27 _ => i - (intOf v27).toNat)
   case atStart => exact ⟨0,by omega,rfl,hO,hE⟩
   case round =>
    clear hO hE
    obtain ⟨k,hk,rfl,hO,hE⟩:=hrel
    by_cases hlt : k < i
    ·
     have hd2 : decide ((k : Int) < (i : Int)) = true:=by simp; omega
     have hki : (k : Int) < (i : Int):=by omega
     have hil : k < l.length:=by have:=HX.out.2.1; omega
     obtain ⟨b,o,hA,hb,hcl⟩:=HX.out.1.resolve_left (by omega)
     obtain ⟨A,c',h2,h3,h4⟩:=hcl k hlt
     have c0:=(hE.cell hb).trans h2
     have hst:=zie l hil
     have hle:=lenTo_le l (l.length - (k + 1)) (k + 1) (by omega)
     rw [← HX.out.2.2.2,hst] at hle
     unfold lenTo at hle
     have hfl:=flat_step l hil
     obtain ⟨D1,hD1⟩ : ∃ D,D = (l.take k).flatten:=⟨_,rfl⟩
     rw [← hD1] at hfl hle hO
     generalize l.getD k [] = D0 at *
     obtain ⟨L,hL⟩ : ∃ L,L = D0.length:=⟨_,rfl⟩
     rw [← hL] at c0 h3 hle
     have hfr:=(h4.ext hE).from
     rw [← hL] at hfr
     have HFR:=veil hfr
     have HS:=veil (And.intro hfl (And.intro hle (And.intro hO (And.intro h4 (And.intro hE hL)))))
     subst hA
     clear hcl hst hle hfl hO h2 h4 hE hL hfr hil hD1
     go_wp2_with (at_builtin; refine zbt _ rfl _ _ _ rfl w.heap.size 5 i8 (.int .u8 0) 1 Tryz.underlying33 HI.out.1 HI.out.2.1 HI.out.2.2.1 HI.out.2.2.2 rfl _ _ _ rfl HS.out.2.2.1.2 A L c' rfl _ HFR.out (fun _ => rfl) (by unfold maxLen; have:=HS.out.2.1; omega) (by have:=HS.out.2.1; omega) (Below.size HS.out.2.2.2.2.1) ?_)
     intro v' w' hO' hG' _
     have hE' : Ext w w':=HS.out.2.2.2.2.1.grown hG' (Below.size HS.out.2.2.2.2.1) fun k hk => (HS.out.2.2.1.2.lt hk).1
     have hO9 : OwnB w' w.heap.size v' (D1 ++ D0):=OwnB.append hO' HS.out.2.2.1.1 HS.out.2.2.2.1.1 rfl HS.out.2.2.2.2.2
     rw [← HS.out.1] at hO9
     clear hO' hG'
     go_wp2
     go_roundw
     case rel => exact ⟨k + 1,by omega,by go_num,hO9,hE'⟩
     case measure => simp [intOf]; omega
    ·
     obtain rfl : k = i:=by omega
     have hd2 : decide ((k : Int) < (k : Int)) = false:=by simp
     have e : (l.take k).flatten = l.flatten:=by rw [HX.out.2.1,List.take_length]
     rw [e] at hO
     obtain ⟨A,c2,rfl,hc2,hB2,hF2⟩:=hO.fresh
     rw [← HX.out.2.2.2] at hc2 ⊢
     clear hO
     go_wp2
     go_ret
     exact ⟨A,c2,rfl,hc2,hB2,hF2,hE⟩
structure Code (I : World → Prop) : Prop where
 keep : ∀ w w',I w → Below w.heap.size w w' → I w'
 on : ∀ X Y f,X < top → Y < top → ∀ w,I w → Calls Tryz.prog 47 #[.agg #[vI vU (wd X 0),vI vU (wd X 1),vI vU (wd X 2),vI vU (wd X 3),vI vU (wd Y 0),vI vU (wd Y 1),vI vU (wd Y 2),vI vU (wd Y 3),.bool (f)]] w fun e w' => e = .returned (.bool (onB X Y f)) ∧ Below w.heap.size w w'
 addNo : ∀ X Y f X' Y' f',X < top → Y < top → X' < top → Y' < top → (onB X Y f = false ∨ onB X' Y' f' = false) → ∀ w,I w → Calls Tryz.prog 126 #[.agg #[vI vU (wd X 0),vI vU (wd X 1),vI vU (wd X 2),vI vU (wd X 3),vI vU (wd Y 0),vI vU (wd Y 1),vI vU (wd Y 2),vI vU (wd Y 3),.bool (f)],.agg #[vI vU (wd (X') 0),vI vU (wd (X') 1),vI vU (wd (X') 2),vI vU (wd (X') 3),vI vU (wd (Y') 0),vI vU (wd (Y') 1),vI vU (wd (Y') 2),vI vU (wd (Y') 3),.bool (f')]] w fun e w' => e = .returned (.tuple #[.agg #[vI vU 0,vI vU 0,vI vU 0,vI vU 0,vI vU 0,vI vU 0,vI vU 0,vI vU 0,.bool false],.iface 39 (.int .i64 1)]) ∧ Below w.heap.size w w'
 add : ∀ q r : Pt.Q,∀ w,I w → Calls Tryz.prog 126 #[.agg #[vI vU (wd (Pt.pX q.1) 0),vI vU (wd (Pt.pX q.1) 1),vI vU (wd (Pt.pX q.1) 2),vI vU (wd (Pt.pX q.1) 3),vI vU (wd (Pt.pY q.1) 0),vI vU (wd (Pt.pY q.1) 1),vI vU (wd (Pt.pY q.1) 2),vI vU (wd (Pt.pY q.1) 3),.bool (Pt.pFar q.1)],.agg #[vI vU (wd (Pt.pX r.1) 0),vI vU (wd (Pt.pX r.1) 1),vI vU (wd (Pt.pX r.1) 2),vI vU (wd (Pt.pX r.1) 3),vI vU (wd (Pt.pY r.1) 0),vI vU (wd (Pt.pY r.1) 1),vI vU (wd (Pt.pY r.1) 2),vI vU (wd (Pt.pY r.1) 3),.bool (Pt.pFar r.1)]] w fun e w' => e = .returned (.tuple #[.agg #[vI vU (wd (Pt.pX (Pt.grp.op q r).1) 0),vI vU (wd (Pt.pX (Pt.grp.op q r).1) 1),vI vU (wd (Pt.pX (Pt.grp.op q r).1) 2),vI vU (wd (Pt.pX (Pt.grp.op q r).1) 3),vI vU (wd (Pt.pY (Pt.grp.op q r).1) 0),vI vU (wd (Pt.pY (Pt.grp.op q r).1) 1),vI vU (wd (Pt.pY (Pt.grp.op q r).1) 2),vI vU (wd (Pt.pY (Pt.grp.op q r).1) 3),.bool (Pt.pFar (Pt.grp.op q r).1)],.nilIface]) ∧ Below w.heap.size w w'
 mulNo : ∀ K X Y f,K < top → X < top → Y < top → onB X Y f = false → ∀ w,I w → Calls Tryz.prog 125 #[.agg #[vI vU (wd K 0),vI vU (wd K 1),vI vU (wd K 2),vI vU (wd K 3)],.agg #[vI vU (wd X 0),vI vU (wd X 1),vI vU (wd X 2),vI vU (wd X 3),vI vU (wd Y 0),vI vU (wd Y 1),vI vU (wd Y 2),vI vU (wd Y 3),.bool (f)]] w fun e w' => e = .returned (.tuple #[.agg #[vI vU 0,vI vU 0,vI vU 0,vI vU 0,vI vU 0,vI vU 0,vI vU 0,vI vU 0,.bool false],.iface 39 (.int .i64 1)]) ∧ Below w.heap.size w w'
 mul : ∀ K,K < top → ∀ q : Pt.Q,∀ w,I w → Calls Tryz.prog 125 #[.agg #[vI vU (wd K 0),vI vU (wd K 1),vI vU (wd K 2),vI vU (wd K 3)],.agg #[vI vU (wd (Pt.pX q.1) 0),vI vU (wd (Pt.pX q.1) 1),vI vU (wd (Pt.pX q.1) 2),vI vU (wd (Pt.pX q.1) 3),vI vU (wd (Pt.pY q.1) 0),vI vU (wd (Pt.pY q.1) 1),vI vU (wd (Pt.pY q.1) 2),vI vU (wd (Pt.pY q.1) 3),.bool (Pt.pFar q.1)]] w fun e w' => e = .returned (.tuple #[.agg #[vI vU (wd (Pt.pX (Pt.grp.mul K q).1) 0),vI vU (wd (Pt.pX (Pt.grp.mul K q).1) 1),vI vU (wd (Pt.pX (Pt.grp.mul K q).1) 2),vI vU (wd (Pt.pX (Pt.grp.mul K q).1) 3),vI vU (wd (Pt.pY (Pt.grp.mul K q).1) 0),vI vU (wd (Pt.pY (Pt.grp.mul K q).1) 1),vI vU (wd (Pt.pY (Pt.grp.mul K q).1) 2),vI vU (wd (Pt.pY (Pt.grp.mul K q).1) 3),.bool (Pt.pFar (Pt.grp.mul K q).1)],.nilIface]) ∧ Below w.heap.size w w'
 base : ∀ w,I w → Calls Tryz.prog 20 #[] w fun e w' => e = .returned (.agg #[vI vU (wd (Pt.gx) 0),vI vU (wd (Pt.gx) 1),vI vU (wd (Pt.gx) 2),vI vU (wd (Pt.gx) 3),vI vU (wd (Pt.gy) 0),vI vU (wd (Pt.gy) 1),vI vU (wd (Pt.gy) 2),vI vU (wd (Pt.gy) 3),.bool (false)]) ∧ Below w.heap.size w w'
 pp : ∀ w,I w → Calls Tryz.prog 109 #[] w fun e w' => e = .returned (.agg #[vI vU (wd (Pt.pp) 0),vI vU (wd (Pt.pp) 1),vI vU (wd (Pt.pp) 2),vI vU (wd (Pt.pp) 3)]) ∧ Below w.heap.size w w'
 nn : ∀ w,I w → Calls Tryz.prog 119 #[] w fun e w' => e = .returned (.agg #[vI vU (wd (Pt.nn) 0),vI vU (wd (Pt.nn) 1),vI vU (wd (Pt.nn) 2),vI vU (wd (Pt.nn) 3)]) ∧ Below w.heap.size w w'
theorem Code.drew {I : World → Prop} (C : Code I) {w : World} (h : I w) : I w.drew:=C.keep _ _ h (Below.refl _ _).drew
theorem Code.alloc {I : World → Prop} (C : Code I) {w : World} (h : I w) (o : Obj) : I (w.alloc o):=C.keep _ _ h ((Below.refl _ _).alloc (Nat.le_refl _) _)
theorem on_base : onB Pt.gx Pt.gy false = true:=by decide +kernel
theorem zdg (n l m : Int) (w : World) : Calls Tryz.prog 117 #[.int .i64 n,.int .i64 l,.int .i64 m] w fun e w' => e = .returned (.bool (decide (l ≤ n) && decide (n ≤ m))) ∧ w' = w:=by
 by_cases g0 : l ≤ n
 ·
  have d0 : decide (l ≤ n) = true:=decide_eq_true g0
  by_cases g1 : n ≤ m
  ·
   have d1 : decide (n ≤ m) = true:=decide_eq_true g1
   rw [show (decide (l ≤ n) && decide (n ≤ m)) = true by rw [d0,d1]; rfl]
   go_enter Tryz.func117,Tryz.ntmps117
   go_wp2
   go_ret
   exact ⟨rfl,rfl⟩
  ·
   have d1 : decide (n ≤ m) = false:=decide_eq_false g1
   rw [show (decide (l ≤ n) && decide (n ≤ m)) = false by rw [d0,d1]; rfl]
   go_enter Tryz.func117,Tryz.ntmps117
   go_wp2
   go_ret
   exact ⟨rfl,rfl⟩
 ·
  have d0 : decide (l ≤ n) = false:=decide_eq_false g0
  rw [show (decide (l ≤ n) && decide (n ≤ m)) = false by rw [d0]; rfl]
  go_enter Tryz.func117,Tryz.ntmps117
  go_wp2
  go_ret
  exact ⟨rfl,rfl⟩
theorem mayT_and (t : Tk) : mayT t = (((((decide (1 ≤ t.s) && decide (t.s ≤ 2147483647)) && (decide (1 ≤ t.p) && decide (t.p ≤ 16))) && (decide (1 ≤ t.z) && decide (t.z ≤ 255))) && (decide (0 ≤ t.f) && decide (t.f ≤ 1073741824))) && (decide (1 ≤ t.k) && decide (t.k ≤ 2147483647))):=by
 unfold mayT
 simp only [Bool.decide_and,Bool.and_assoc]
theorem may9_calls (t : Tk) (w : World) : Calls Tryz.prog 83 #[tkV t] w fun e w' => e = .returned (.bool (mayT t)) ∧ Ext w w':=by
 rw [mayT_and]
 obtain ⟨s,p,z,f,k⟩:=t
 unfold tkV tkC
 have K1:=fun W => zdg s 1 2147483647 W
 have K2:=fun W => zdg p 1 16 W
 have K3:=fun W => zdg z 1 255 W
 have K4:=fun W => zdg f 0 1073741824 W
 have K5:=fun W => zdg k 1 2147483647 W
 simp only []
 generalize (decide (1 ≤ s) && decide (s ≤ 2147483647)) = b1 at *
 generalize (decide (1 ≤ p) && decide (p ≤ 16)) = b2 at *
 generalize (decide (1 ≤ z) && decide (z ≤ 255)) = b3 at *
 generalize (decide (0 ≤ f) && decide (f ≤ 1073741824)) = b4 at *
 generalize (decide (1 ≤ k) && decide (k ≤ 2147483647)) = b5 at *
 have H:=veil (And.intro K1 (And.intro K2 (And.intro K3 (And.intro K4 K5))))
 have HE:=veil (Ext.alloc w (.cells #[.int .i64 s,.int .i64 p,.int .i64 z,.int .i64 f,.int .i64 k] 47))
 clear K1 K2 K3 K4 K5
 cases b1 with
 | false =>
  simp only [Bool.false_and]
  go_enter Tryz.func83,Tryz.ntmps83
  go_wp2_with (go_at_call 117; refine (H.out.1 _).mono ?_; rintro e w1 ⟨rfl,rfl⟩)
  go_ret
  exact ⟨rfl,HE.out⟩
 | true =>
  cases b2 with
  | false =>
   simp only [Bool.and_false,Bool.false_and]
   go_enter Tryz.func83,Tryz.ntmps83
   go_wp2_with (go_at_call 117; first
    | (with_reducible refine (H.out.1 _).mono ?_; rintro e w1 ⟨rfl,rfl⟩)
    | (with_reducible refine (H.out.2.1 _).mono ?_; rintro e w1 ⟨rfl,rfl⟩))
   go_ret
   exact ⟨rfl,HE.out⟩
  | true =>
   cases b3 with
   | false =>
    simp only [Bool.and_false,Bool.false_and]
    go_enter Tryz.func83,Tryz.ntmps83
    go_wp2_with (go_at_call 117; first
     | (with_reducible refine (H.out.1 _).mono ?_; rintro e w1 ⟨rfl,rfl⟩)
     | (with_reducible refine (H.out.2.1 _).mono ?_; rintro e w1 ⟨rfl,rfl⟩)
     | (with_reducible refine (H.out.2.2.1 _).mono ?_; rintro e w1 ⟨rfl,rfl⟩))
    go_ret
    exact ⟨rfl,HE.out⟩
   | true =>
    cases b4 with
    | false =>
     simp only [Bool.and_false,Bool.false_and]
     go_enter Tryz.func83,Tryz.ntmps83
     go_wp2_with (go_at_call 117; first
      | (with_reducible refine (H.out.1 _).mono ?_; rintro e w1 ⟨rfl,rfl⟩)
      | (with_reducible refine (H.out.2.1 _).mono ?_; rintro e w1 ⟨rfl,rfl⟩)
      | (with_reducible refine (H.out.2.2.1 _).mono ?_; rintro e w1 ⟨rfl,rfl⟩)
      | (with_reducible refine (H.out.2.2.2.1 _).mono ?_; rintro e w1 ⟨rfl,rfl⟩))
     go_ret
     exact ⟨rfl,HE.out⟩
    | true =>
     simp only [Bool.true_and]
     go_enter Tryz.func83,Tryz.ntmps83
     go_wp2_with (go_at_call 117; first
      | (with_reducible refine (H.out.1 _).mono ?_; rintro e w1 ⟨rfl,rfl⟩)
      | (with_reducible refine (H.out.2.1 _).mono ?_; rintro e w1 ⟨rfl,rfl⟩)
      | (with_reducible refine (H.out.2.2.1 _).mono ?_; rintro e w1 ⟨rfl,rfl⟩)
      | (with_reducible refine (H.out.2.2.2.1 _).mono ?_; rintro e w1 ⟨rfl,rfl⟩)
      | (with_reducible refine (H.out.2.2.2.2 _).mono ?_; rintro e w1 ⟨rfl,rfl⟩))
     go_ret
     exact ⟨rfl,HE.out⟩
theorem vs_row {w : World} {g t : Nat} {C : Array Value} {fr : Nat × Nat} {l : List (List Nat)} {c : Nat} (hg : w.heap[g]? = some (.cells C t fr)) (hc : l.length ≤ c)
  (h : ∀ i,i < l.length → ∃ A c',C[i]? = some (.slice A (l.getD i []).length c') ∧ (l.getD i []).length ≤ c' ∧ Bs w A (l.getD i [])) : Vs w (.slice (some ⟨g,0,none⟩) l.length c) l:=by
 refine ⟨fun x hx => ?_,_,c,rfl,hc,.inr ⟨g,0,rfl,(Array.getElem?_eq_some_iff.1 hg).1,fun i hi => ?_⟩⟩
 ·
  obtain ⟨i,hi,e⟩:=List.mem_iff_getElem.1 hx
  obtain ⟨A,c',_,_,hB⟩:=h i hi
  have : l.getD i [] = x:=by simp [List.getD_eq_getElem?_getD,hi,e]
  rw [← this]
  exact hB.1
 ·
  obtain ⟨A,c',h1,h2,h3⟩:=h i hi
  exact ⟨A,c',by rw [Nat.zero_add,cell_of_row w g i C t fr hg]; exact h1,h2,h3⟩
theorem vs_five {w : World} {g t : Nat} {A0 A1 A2 A3 A4 : Option Addr} {c0 c1 c2 c3 c4 : Nat} {x0 x1 x2 x3 x4 : List Nat} {fr : Nat × Nat}
  (l0 : x0.length = 8) (l1 : x1.length = 8) (l2 : x2.length = 8) (l3 : x3.length = 8) (l4 : x4.length = 8)
  (hg : w.heap[g]? = some (.cells #[.slice A0 8 c0,.slice A1 8 c1,.slice A2 8 c2,.slice A3 8 c3,.slice A4 8 c4] t fr))
  (h0 : 8 ≤ c0 ∧ Bs w A0 x0) (h1 : 8 ≤ c1 ∧ Bs w A1 x1) (h2 : 8 ≤ c2 ∧ Bs w A2 x2) (h3 : 8 ≤ c3 ∧ Bs w A3 x3) (h4 : 8 ≤ c4 ∧ Bs w A4 x4) : Vs w (.slice (some ⟨g,0,none⟩) 5 5) [x0,x1,x2,x3,x4] :=
 vs_row (l:=[x0,x1,x2,x3,x4]) hg (Nat.le_refl _) fun i hi => by
  match i,hi with
  | 0,_ => exact ⟨A0,c0,by show some (Value.slice A0 8 c0) = some (.slice A0 x0.length c0); rw [l0],by show x0.length ≤ _; rw [l0]; exact h0.1,h0.2⟩
  | 1,_ => exact ⟨A1,c1,by show some (Value.slice A1 8 c1) = some (.slice A1 x1.length c1); rw [l1],by show x1.length ≤ _; rw [l1]; exact h1.1,h1.2⟩
  | 2,_ => exact ⟨A2,c2,by show some (Value.slice A2 8 c2) = some (.slice A2 x2.length c2); rw [l2],by show x2.length ≤ _; rw [l2]; exact h2.1,h2.2⟩
  | 3,_ => exact ⟨A3,c3,by show some (Value.slice A3 8 c3) = some (.slice A3 x3.length c3); rw [l3],by show x3.length ≤ _; rw [l3]; exact h3.1,h3.2⟩
  | 4,_ => exact ⟨A4,c4,by show some (Value.slice A4 8 c4) = some (.slice A4 x4.length c4); rw [l4],by show x4.length ≤ _; rw [l4]; exact h4.1,h4.2⟩
theorem cells_tk9 {w : World} {g : Nat} {t : Tk} {fr : Nat × Nat} (h : w.heap[g]? = some (.cells (tkC t) 47 fr)) :
  w.cell? ⟨g,0,none⟩ = some (.int .i64 t.s) ∧ w.cell? ⟨g,1,none⟩ = some (.int .i64 t.p) ∧ w.cell? ⟨g,2,none⟩ = some (.int .i64 t.z) ∧ w.cell? ⟨g,3,none⟩ = some (.int .i64 t.f) ∧ w.cell? ⟨g,4,none⟩ = some (.int .i64 t.k) :=
 ⟨by rw [cell_of_row w g _ _ _ _ h]; rfl,by rw [cell_of_row w g _ _ _ _ h]; rfl,by rw [cell_of_row w g _ _ _ _ h]; rfl,by rw [cell_of_row w g _ _ _ _ h]; rfl,by rw [cell_of_row w g _ _ _ _ h]; rfl⟩
def NumV (n : Int) (v : Value) (W : World) : Prop:=∃ A c,v = .slice A 8 c ∧ 8 ≤ c ∧ Bs W A (numB n)
theorem numV (n : Int) (h : 0 ≤ n ∧ n ≤ 9223372036854775807) (W : World) : Calls Tryz.prog 50 #[.int .i64 n] W fun e w' => ∃ v,e = .returned v ∧ Ext W w' ∧ NumV n v w' :=
 (num8_calls n W (by omega) h.2).mono fun _ _ ⟨A,c,he,hc,hB,hE⟩ => ⟨_,he,hE,A,c,rfl,hc,hB⟩
theorem body9_calls (t : Tk) (w : World) : Calls Tryz.prog 63 #[tkV t] w fun e w' => ∃ x ev,e = .returned (.tuple #[x,ev]) ∧ Ext w w' ∧ BodyA w' t x ev:=by
 obtain ⟨C,hC⟩ : ∃ C,C = tkC t:=⟨_,rfl⟩
 have KM:=veil (fun W => may9_calls t W)
 have HC:=veil (And.intro hC (And.intro (show (Tryz.prog.info? 47).map (·.size) = some C.size by rw [hC]; exact iTk t) (show C.all (·.oneCell') = true by rw [hC]; exact zbp t)))
 unfold tkV at KM ⊢
 rw [← hC] at KM ⊢
 clear hC
 go_enter Tryz.func63,Tryz.ntmps63
 go_upto_region 1 with (fail)
 obtain ⟨g,hg⟩ : ∃ g,g = w.heap.size:=⟨_,rfl⟩
 have h0:=zaj w (.cells C 47)
 have hE0:=Ext.alloc w (.cells C 47)
 generalize w.alloc (.cells C 47) = w0 at *
 rw [← hg] at h0 ⊢
 have H0:=veil (And.intro h0 hE0)
 clear h0 hE0 hg
 cases hm : mayT t with
 | false =>
  rw [hm] at KM
  have HM:=veil hm
  clear hm
  go_wp2_with (first
   | ((with_reducible refine zam 4 ?_); refine wpList_load_row rfl 47 _ rfl g rfl 47 C (0,0) _ H0.out.1 Tryz.underlying47 rfl HC.out.2.1 ?_)
   | (go_at_call 83; refine (KM.out _).mono ?_; rintro e w1 ⟨rfl,hE1⟩))
  go_ret2
  exact ⟨_,_,rfl,H0.out.2.trans hE1,.inl ⟨HM.out,⟨none,0,rfl⟩,rfl⟩⟩
 | true =>
  rw [hm] at KM
  have HM:=veil hm
  clear hm
  go_upto_region 3 with (first
   | ((with_reducible refine zam 4 ?_); refine wpList_load_row rfl 47 _ rfl g rfl 47 C (0,0) _ H0.out.1 Tryz.underlying47 rfl HC.out.2.1 ?_)
   | (go_at_call 83; refine (KM.out _).mono ?_; rintro e w1 ⟨rfl,hE1⟩))
  have h1:=hE1.block H0.out.1
  rw [HC.out.1] at h1
  obtain ⟨k0,k1,k2,k3,k4⟩:=cells_tk9 h1
  have HE1:=veil (H0.out.2.trans hE1)
  have hn:=mayT_each HM.out
  have HN:=veil (And.intro (hn t.s (by simp [Tk.list])) (And.intro (hn t.p (by simp [Tk.list])) (And.intro (hn t.z (by simp [Tk.list])) (And.intro (hn t.f (by simp [Tk.list])) (hn t.k (by simp [Tk.list]))))))
  have hlist : tagFs 1 [numB t.s,numB t.p,numB t.z,numB t.f,numB t.k] = numFs 1 t.list:=tagFs_num 1 t.list
  have HL:=veil hlist
  have HS:=veil (show Tk.list t = [t.s,t.p,t.z,t.f,t.k] from rfl)
  clear hE1 h1 hn hlist KM
  generalize t.s = s at *
  generalize t.p = p at *
  generalize t.z = z at *
  generalize t.f = f at *
  generalize t.k = k at *
  refine zdf 21 [(true,[0,1,3,4,6,7,9,10,12,13]),(false,[2]),(false,[5]),(false,[8]),(false,[11]),(false,[14]),(false,[15]),(false,[16]),(true,[17,18,19,20])] (by kernel_rfl) (by kernel_rfl) fun Q' hQ' => ?_
  refine' zbz (A:=_) _ rfl (by kernel_rfl) ?_ ?_
  rotate_left
  ·
   intro D hD hN'
   have e0:=hD.cell k0
   have e1:=hD.cell k1
   have e2:=hD.cell k2
   have e3:=hD.cell k3
   have e4:=hD.cell k4
   simp only [pickI,consO,List.getElem?_cons_zero,List.getElem?_cons_succ]
   repeat (go_big_quiet_step (fail))
   exact zcz
  refine zce (R:=NumV s) _ rfl rfl rfl rfl rfl (zbw Tryz.func50 rfl rfl _) (fun W _ => numV s HN.out.1 W) ?_
  rintro _ W2 hE2 ⟨A0,c0,rfl,hc0,hB0⟩
  simp only [aP,lA,lZ,lS]
  refine zce (R:=NumV p) _ rfl rfl rfl rfl rfl (zbw Tryz.func50 rfl rfl _) (fun W _ => numV p HN.out.2.1 W) ?_
  rintro _ W3 hE3 ⟨A1,c1,rfl,hc1,hB1⟩
  simp only [aP,lA,lZ,lS]
  refine zce (R:=NumV z) _ rfl rfl rfl rfl rfl (zbw Tryz.func50 rfl rfl _) (fun W _ => numV z HN.out.2.2.1 W) ?_
  rintro _ W4 hE4 ⟨A2,c2,rfl,hc2,hB2⟩
  simp only [aP,lA,lZ,lS]
  refine zce (R:=NumV f) _ rfl rfl rfl rfl rfl (zbw Tryz.func50 rfl rfl _) (fun W _ => numV f HN.out.2.2.2.1 W) ?_
  rintro _ W5 hE5 ⟨A3,c3,rfl,hc3,hB3⟩
  simp only [aP,lA,lZ,lS]
  refine zce (R:=NumV k) _ rfl rfl rfl rfl rfl (zbw Tryz.func50 rfl rfl _) (fun W _ => numV k HN.out.2.2.2.2 W) ?_
  rintro _ W6 hE6 ⟨A4,c4,rfl,hc4,hB4⟩
  simp only [aP,lA,lZ,lS]
  refine zgj (vs:=[(0,.slice A0 8 c0),(1,.slice A1 8 c1),(2,.slice A2 8 c2),(3,.slice A3 8 c3),(4,.slice A4 8 c4)]) (C:=#[.slice A0 8 c0,.slice A1 8 c1,.slice A2 8 c2,.slice A3 8 c3,.slice A4 8 c4]) (e:=33) _ rfl rfl rfl rfl rfl (fun W => by simp [Instr.buildSlice,go_sem]) ?_
  intro g7 W7 hg7 hgb7 hE7
  simp only [aP,lA,lZ,lS]
  have hV:=vs_five (zbb s) (zbb p) (zbb z) (zbb f) (zbb k) hgb7 ⟨hc0,hB0.ext (hE3.trans (hE4.trans (hE5.trans (hE6.trans hE7))))⟩ ⟨hc1,hB1.ext (hE4.trans (hE5.trans (hE6.trans hE7)))⟩ ⟨hc2,hB2.ext (hE5.trans (hE6.trans hE7))⟩ ⟨hc3,hB3.ext (hE6.trans hE7)⟩ ⟨hc4,hB4.ext hE7⟩
  have HV:=veil (And.intro hV (hE2.trans (hE3.trans (hE4.trans (hE5.trans (hE6.trans hE7))))))
  refine zce (R:=fun v W => ∃ x ev,v = .tuple #[x,ev] ∧ PutA W (numFs 1 t.list) x ev) _ rfl rfl rfl rfl rfl (zbw Tryz.func84 rfl rfl _) (fun W hW => (tput_calls _ [numB s,numB p,numB z,numB f,numB k] (show (5 : Nat) ≤ 64 by decide) W (HV.out.1.ext hW)).mono fun e W' ⟨x,ev,he,hE',hA⟩ => ⟨_,he,hE',x,ev,rfl,by rw [← HL.out]; exact hA⟩) ?_
  rintro _ W8 hE8 ⟨x,ev,rfl,hA⟩
  simp only [aP,lA,lZ,lS]
  refine' zbz (A:=_) _ rfl (by kernel_rfl) ?_ ?_
  rotate_left
  ·
   intro D hD hN'
   simp only [pickI,consO,List.getElem?_cons_zero,List.getElem?_cons_succ]
   repeat (go_big_quiet_step (fail))
   exact zcz
  refine zct hQ' fun W9 hE9 => ?_
  have hEnd:=HE1.out.trans ((HV.out.2.trans hE8).trans hE9)
  have hmay : mayFs (numFs 1 t.list) = true:=numFs_may (by decide : (5 : Nat) ≤ 64)
  rcases hA with ⟨h,_⟩ | ⟨_,rfl,A,c,rfl,hc,hB⟩
  ·
   rw [hmay] at h; cases h
  ·
   have hl : (encF (numFs 1 t.list)).length = 55:=tkB_length t
   rw [hl] at hc ⊢
   have hB9 : Bs W9 A (tkB t):=hB.ext hE9
   clear hB hmay hl hE2 hE3 hE4 hE5 hE6 hE7 hE8 hE9 hB0 hB1 hB2 hB3 hB4 hV hgb7 hg7
   go_wp2
   go_ret2
   exact ⟨_,_,rfl,hEnd,.inr ⟨HM.out,⟨A,c,rfl,hc,hB9⟩,rfl⟩⟩
theorem neNil2 (w : World) : (binOp .neq 35 (.iface 39 (.int .i64 2)) .nilIface).run Tryz.prog w = .ok (.bool true) w:=by kernel_rfl
theorem neNilN (w : World) : (binOp .neq 35 .nilIface .nilIface).run Tryz.prog w = .ok (.bool false) w:=by kernel_rfl
theorem get8_nil (w : World) : Calls Tryz.prog 31 #[.slice none 0 0] w fun e w' => e = .returned (.tuple #[.slice none 0 0,.nilIface]) ∧ Ext w w':=by
 have KM : Hid (∀ W : World,Calls Tryz.prog 51 #[.slice none 0 0] W fun e w' => e = .returned (.bool true) ∧ Ext W w'):=veil (fun W => zez _ [] W (Fl.nil W) (by decide))
 go_enter Tryz.func31,Tryz.ntmps31
 go_wp2
 go_loopw [0,4] (fun s v wr => s = .slice none 0 0 ∧ v = .slice none 0 0 ∧ Ext w wr) (fun _ _ _ => 0)
 case atStart => exact ⟨rfl,rfl,Ext.refl _⟩
 case round =>
  obtain ⟨rfl,rfl,hE⟩:=hrel
  have HE:=veil hE
  clear hE
  go_wp2_with (go_at_call 51; refine (KM.out _).mono ?_; rintro e w1 ⟨rfl,hE1⟩)
  go_ret2
  exact ⟨rfl,HE.out.trans hE1⟩
theorem tget_nil (w : World) : Calls Tryz.prog 60 #[.slice none 0 0,.int .i64 2] w fun e w' => e = .returned (.tuple #[.slice none 0 0,.iface 39 (.int .i64 2)]) ∧ Ext w w':=by
 have KG:=veil (fun W => get8_nil W)
 have k3:=neNilN
 go_enter Tryz.func60,Tryz.ntmps60
 go_wp2_with (go_at_call 31; refine (KG.out _).mono ?_; rintro e w1 ⟨rfl,hE1⟩)
 go_ret2
 exact ⟨rfl,hE1⟩
theorem open_nil_calls (w : World) : Calls Tryz.prog 36 #[.slice none 0 0] w fun e w' => e = .returned (.tuple #[.agg (tkC ⟨0,0,0,0,0⟩),.agg (gc 0 0),.iface 39 (.int .i64 2)]) ∧ Ext w w':=by
 have KG:=veil (fun W => tget_nil W)
 have k2:=neNil2
 go_enter Tryz.func36,Tryz.ntmps36
 go_upto_region 1 with (fail)
 obtain ⟨g2,hg2⟩ : ∃ g,g = w.heap.size:=⟨_,rfl⟩
 obtain ⟨g3,hg3⟩ : ∃ g,g = w.heap.size + 1:=⟨_,rfl⟩
 obtain ⟨w0,hw0⟩ : ∃ W,W = (w.alloc (.cells TZ 47)).alloc (.cells Z8 78):=⟨_,rfl⟩
 have h2:=(zbx w (.cells TZ 47) (.cells Z8 78)).1
 have h3:=(zbx w (.cells TZ 47) (.cells Z8 78)).2
 have hE0:=zhe w (.cells TZ 47) (.cells Z8 78)
 rw [← hw0,← hg2] at h2
 rw [← hw0,← hg3] at h3
 rw [← hw0] at hE0
 have H0:=veil (And.intro hE0 (And.intro h2 (And.intro h3 (And.intro (show w.heap.size ≤ g2 by omega) (show g2 < g3 by omega)))))
 unfold TZ Z8 at hw0
 rw [← hw0,← hg3,← hg2]
 clear hw0 hg3 hg2 hE0 h2 h3
 go_upto_region 2 with (go_at_call 60; refine (KG.out _).mono ?_; rintro e w1 ⟨rfl,hE1⟩)
 have H1:=veil (And.intro (H0.out.1.trans hE1) (And.intro (hE1.block H0.out.2.1) (And.intro (hE1.block H0.out.2.2.1) H0.out.2.2.2)))
 clear hE1 H0 KG
 go_wp2_with (first
  | ((with_reducible refine zan ?_); refine wpList_store_row rfl 47 _ _ rfl g2 TZ rfl rfl 47 _ H1.out.2.1 iTZ rfl zdn ?_)
  | ((with_reducible refine zan ?_); refine wpList_store_row rfl 78 _ _ rfl g3 Z8 rfl rfl 78 _ (zfe TZ H1.out.2.2.1 H1.out.2.2.2.2) iZ8 rfl z8_one ?_))
 have hF:=zes (T:=TZ) (G:=Z8) H1.out.1 H1.out.2.1 H1.out.2.2.1 ⟨H1.out.2.2.2.1,H1.out.2.2.2.2⟩
 refine bodyPost_ret (zcq rfl _ _ g2 g3 47 78 TZ Z8 (0,0) (0,0) _ _ rfl hF.2.1 Tryz.underlying47 rfl iTZ rfl hF.2.2 Tryz.underlying78 rfl iZ8) rfl ⟨by rw [z8_gc]; rfl,hF.1⟩
def textsOk (fs : List Fd) (many : Nat) : Prop:=fs.length = many ∧ ∀ i,i < many → tgF fs i = (i : Int) + 1
instance (fs : List Fd) (many : Nat) : Decidable (textsOk fs many):=by unfold textsOk; exact inferInstance
def textsOf (fs : List Fd) : List (List Nat):=fs.map fun f => f.2
def textsB (bs : List Nat) (many : Nat) : Option (List (List Nat)):=match getFs bs with
 | some fs => if textsOk fs many then some (textsOf fs) else none
 | none => none
theorem zdy (fs : List Fd) (i : Nat) : (textsOf fs).getD i [] = bsF fs i:=by
 unfold textsOf bsF
 simp only [List.getD_eq_getElem?_getD,List.getElem?_map]
 cases fs[i]? <;> rfl
theorem zcm (fs : List Fd) : (textsOf fs).length = fs.length:=by simp [textsOf]
theorem textsB_get {bs : List Nat} {fs : List Fd} (many : Nat) (h : getFs bs = some fs) : textsB bs many = if textsOk fs many then some (textsOf fs) else none:=by
 unfold textsB
 rw [h]
theorem hmk_tx (n : Nat) (hn : n ≤ 1000000) (W : World) : (Instr.makeSlice 103 (.int .i64 (n : Int)) (.int .i64 (n : Int))).run Tryz.prog W = .ok (.slice (some ⟨W.heap.size,0,none⟩) n n) (W.alloc (.cells (madeCells #[.slice none 0 0] n) 33)) :=
 run_make_row' 103 33 (.slice none 0 0) 24 Tryz.underlying103 (by kernel_rfl) rfl .i64 .i64 n (by omega) (by omega) W
def LaidV (w : World) (fs : List Fd) (f : Nat → Value) (i : Nat) : Prop:=∀ j,j < i → ∃ A c,f j = .slice A (bsF fs j).length c ∧ (bsF fs j).length ≤ c ∧ Bs w A (bsF fs j)
theorem LaidV.step {w : World} {fs : List Fd} {f : Nat → Value} {i c : Nat} {A : Option Addr} (h : LaidV w fs f i) (hc : (bsF fs i).length ≤ c) (hB : Bs w A (bsF fs i)) :
  LaidV w fs (fun j => if j = i then .slice A (bsF fs i).length c else f j) (i + 1):=fun j hj => by
 by_cases e : j = i
 ·
  subst e
  exact ⟨A,c,by simp only; rw [if_pos trivial],hc,hB⟩
 ·
  obtain ⟨A,c,h2⟩:=h j (by omega)
  refine ⟨A,c,?_,h2.2⟩
  simp only
  rw [if_neg e]
  exact h2.1
theorem LaidV.vs {w w' : World} {fs : List Fd} {f : Nat → Value} {g n : Nat} (h : LaidV w fs f n) (hn : n = fs.length) (hE : Ext w w') (hl : BytF fs) (hp : Pre w' g 33 n f) : Vs w' (.slice (some ⟨g,0,none⟩) n n) (textsOf fs):=by
 subst hn
 refine ⟨fun x hx => ?_,some ⟨g,0,none⟩,fs.length,by rw [zcm],by rw [zcm]; exact Nat.le_refl _,.inr ⟨g,0,rfl,hp.lt,fun i hi => ?_⟩⟩
 ·
  unfold textsOf at hx
  obtain ⟨y,hy,rfl⟩:=List.mem_map.1 hx
  exact hl y hy
 ·
  rw [zcm] at hi
  obtain ⟨A,c,h2,h3,h4⟩:=h i hi
  rw [zdy]
  exact ⟨A,c,by rw [Nat.zero_add,hp.cell hi,h2],h3,h4.ext hE⟩
def TGetA (w' : World) (bs : List Nat) (many : Nat) (x ev : Value) : Prop :=
 (textsB bs many = none ∧ (∃ A c,x = .slice A 0 c) ∧ ev = .iface 39 (.int .i64 2)) ∨ (∃ l,textsB bs many = some l ∧ l.length = many ∧ Vs w' x l ∧ ev = .nilIface)
theorem tget_calls (A : Option Addr) (m c : Nat) (bs : List Nat) (many : Nat) (hm : m = bs.length) (hmc : m ≤ c) (hle : m ≤ 100000000) (hmany : many ≤ 64) (w : World) (hS : Bs w A bs) :
  Calls Tryz.prog 60 #[.slice A m c,.int .i64 (many : Int)] w fun e w' => ∃ x ev,e = .returned (.tuple #[x,ev]) ∧ Ext w w' ∧ TGetA w' bs many x ev:=by
 have KG:=veil (code8.get A m c bs w hm hmc hle hS)
 have k2:=neNil2
 have k3:=neNilN
 clear hm hmc hS hle
 go_enter Tryz.func60,Tryz.ntmps60
 go_upto_region 2 with (go_at_call 31; refine KG.out.mono ?_; rintro e w1 ⟨x,y,rfl,hE1,hA⟩)
 rcases hA with ⟨hn,⟨A2,c2,rfl⟩,rfl⟩ | ⟨fs,hs,rfl,hF⟩
 ·
  have hr : textsB bs many = none:=by
   unfold textsB
   rw [hn]
  clear KG
  go_wp2
  go_ret2
  exact ⟨_,_,rfl,hE1,.inl ⟨hr,⟨none,0,rfl⟩,rfl⟩⟩
 ·
  have hnum:=textsB_get many hs
  have hE0:=hE1
  obtain ⟨hB,AL,cl,rfl,hcl,hx⟩:=hF
  obtain ⟨q,hq⟩ : ∃ q,q = fs.length:=⟨_,rfl⟩
  rw [← hq] at hx hcl ⊢
  by_cases hqm : q = many
  ·
   subst hqm
   have hmk:=hmk_tx q (by omega)
   have hp0:=pre_new w1 (madeCells #[.slice none 0 0] q) 33 q (size_madeCells _ _).symm
   have hE2:=Ext.alloc w1 (.cells (madeCells #[.slice none 0 0] q) 33)
   have HX:=veil (And.intro hx (And.intro hq (And.intro hnum (And.intro hE1 hB))))
   have H0:=veil (And.intro hp0 hE2)
   clear KG hx hq hnum hE1 hs hB hcl hE0 hp0 hE2
   go_upto_region 7 with (fail)
   obtain ⟨g,hg⟩ : ∃ g,g = w1.heap.size:=⟨_,rfl⟩
   generalize w1.alloc (.cells (madeCells #[.slice none 0 0] q) 33) = w2 at *
   rw [← hg] at H0 ⊢
   have HG:=veil (show w1.heap.size ≤ g by omega)
   clear hg hmk
   go_wp2
   go_loopw [9,10,28] (fun _ _ v wr => ∃ i : Nat,i ≤ q ∧ v = .int .i64 (i : Int) ∧ (∃ f,Pre wr g 33 q f ∧ LaidV w1 fs f i) ∧ (∀ j,j < i → tgF fs j = (j : Int) + 1) ∧ Ext w1 wr)
    (fun _ _ v _ => q - (intOf v).toNat)
   case atStart => exact ⟨0,by omega,rfl,⟨_,H0.out.1,fun j hj => by omega⟩,fun j hj => by omega,H0.out.2⟩
   case round =>
    obtain ⟨i,hi,rfl,⟨f,hp,hl⟩,hall,hE⟩:=hrel
    by_cases hlt : i < q
    ·
     have hd1 : decide ((i : Int) < (q : Int)) = true:=by simp; omega
     have hii : (i : Int) < (q : Int):=by omega
     obtain ⟨b,o,hAL,hb,hcl⟩:=HX.out.1.resolve_left (by omega)
     obtain ⟨h1,A',k',h2,h3,h4⟩:=hcl i (by have:=HX.out.2.1; omega)
     have c0:=(hE.cell hb).trans h1
     have c1:=(hE.cell hb).trans h2
     have hst:=LaidV.step hl h3 h4
     obtain ⟨T,hT⟩ : ∃ T,T = tgF fs i:=⟨_,rfl⟩
     obtain ⟨L,hL⟩ : ∃ L,L = (bsF fs i).length:=⟨_,rfl⟩
     rw [← hT] at c0
     rw [← hL] at c1 hst
     have hno : ¬ (T = (i : Int) + 1) → textsB bs q = none:=fun h => by
      rw [HX.out.2.2.1,if_neg]
      intro hk
      rw [hT] at h
      exact h (hk.2 i hlt)
     have HNO:=veil hno
     have HRG:=veil (rng_fd c0 c1)
     have HS:=veil (And.intro hst (And.intro hp (And.intro hE (And.intro hall hT))))
     clear c0 c1 h1 h2 h3 h4 hst hl hp hcl hE hall hno hT hL
     subst hAL
     go_upto_region 10 with (first
      | ((with_reducible refine zam 32 ?_); refine wpList_load_mid rfl 64 _ rfl b _ rfl _ _ HRG.out Tryz.underlying64 rfl infoF2 ?_)
      | ((with_reducible refine zan ?_); refine wpList_store_row rfl 64 _ _ rfl wr.heap.size #[.int .i64 T,.slice A' L k'] rfl rfl 64 _ (zaj wr _) infoF2 rfl zia ?_; rw [World.setRow_alloc_new]))
     obtain ⟨d0,d1⟩:=zfw (zaj wr (.cells #[.int .i64 T,.slice A' L k'] 64))
     have hEW:=Ext.alloc wr (.cells #[.int .i64 T,.slice A' L k'] 64)
     have hpW:=HS.out.2.1.alloc (.cells #[.int .i64 T,.slice A' L k'] 64)
     have c2:=hpW.cell hlt
     have f2:=hpW.frozen i
     have HW:=veil (And.intro hpW (HS.out.2.2.1.trans hEW))
     generalize wr.alloc (.cells #[.int .i64 T,.slice A' L k'] 64) = W at *
     generalize wr.heap.size = gf at *
     clear hEW hpW
     by_cases g2 : T = (i : Int) + 1
     ·
      have f1 : (T == (i : Int) + 1) = true:=by simp [g2]
      have HT:=veil g2
      subst g2
      go_wp2
      go_roundw
      case rel =>
       refine ⟨i + 1,by omega,by go_num,⟨_,HW.out.1.set i _,HS.out.1⟩,fun j hj => ?_,zap HW.out.2 HG.out _⟩
       by_cases e : j = i
       ·
        subst e
        rw [← HS.out.2.2.2.2]
       ·
        exact HS.out.2.2.2.1 j (by omega)
      case measure => simp [intOf]; omega
     ·
      have f1 : (T == (i : Int) + 1) = false:=by simp [g2]
      have hr:=HNO.out g2
      go_wp2
      go_ret2
      exact ⟨_,_,rfl,HX.out.2.2.2.1.trans HW.out.2,.inl ⟨hr,⟨none,0,rfl⟩,rfl⟩⟩
    ·
     obtain rfl : i = q:=by omega
     have hd1 : decide ((i : Int) < (i : Int)) = false:=by simp
     have hr : textsB bs i = some (textsOf fs):=by
      rw [HX.out.2.2.1,if_pos]
      exact ⟨HX.out.2.1.symm,hall⟩
     have hV:=LaidV.vs hl HX.out.2.1 hE HX.out.2.2.2.2 hp
     clear hl hp hall
     go_wp2
     go_ret2
     exact ⟨_,_,rfl,HX.out.2.2.2.1.trans hE,.inr ⟨_,hr,by rw [zcm]; exact HX.out.2.1.symm,hV,rfl⟩⟩
  ·
   have hr : textsB bs many = none:=by
    rw [hnum,if_neg]
    intro h
    exact hqm (hq.trans h.1)
   have f1 : ((q : Int) == (many : Int)) = false:=by simp; omega
   have f2 : ¬ ((q : Int) = (many : Int)):=by omega
   clear KG hx hq hnum hs hB hcl
   go_wp2
   go_ret2
   exact ⟨_,_,rfl,hE0,.inl ⟨hr,⟨none,0,rfl⟩,rfl⟩⟩
theorem texts_none {bs : List Nat} {many : Nat} (h : textsB bs many = none) : numbersB bs many = none:=by
 unfold textsB at h
 unfold numbersB
 cases hg : getFs bs with
 | none => rfl
 | some fs =>
  rw [hg] at h
  simp only at h ⊢
  split at h
  ·
   cases h
  ·
   rename_i hn
   rw [if_neg]
   exact fun hk => hn ⟨hk.1,fun i hi => (hk.2 i hi).1⟩
theorem texts_some {bs : List Nat} {many : Nat} {l : List (List Nat)} (h : textsB bs many = some l) : numbersB bs many = if ∀ i,i < many → 0 ≤ ofB (l.getD i []) then some (l.map ofB) else none:=by
 unfold textsB at h
 unfold numbersB
 cases hg : getFs bs with
 | none => rw [hg] at h; cases h
 | some fs =>
  rw [hg] at h
  simp only at h ⊢
  split at h
  ·
   rename_i hk
   injection h with h
   subst h
   have e : numsOf fs = (textsOf fs).map ofB:=by
    unfold numsOf textsOf
    rw [List.map_map]
    rfl
   rw [e]
   by_cases hq : ∀ i,i < many → 0 ≤ ofB ((textsOf fs).getD i [])
   ·
    rw [if_pos hq,if_pos]
    exact ⟨hk.1,fun i hi => ⟨hk.2 i hi,by have:=hq i hi; rwa [zdy] at this⟩⟩
   ·
    rw [if_neg hq,if_neg]
    intro hn
    refine hq fun i hi => ?_
    rw [zdy]
    exact (hn.2 i hi).2
  ·
   cases h
def obB (bs : List Nat) : Option Tk:=match numbersB bs 5 with
 | some l => if mayT (tkOf l) = true then some (tkOf l) else none
 | none => none
theorem obB_none {bs : List Nat} (h : numbersB bs 5 = none) : obB bs = none:=by
 unfold obB
 rw [h]
theorem obB_some {bs : List Nat} {l : List Int} (h : numbersB bs 5 = some l) : obB bs = if mayT (tkOf l) = true then some (tkOf l) else none:=by
 unfold obB
 rw [h]
theorem openB_ob {bs body : List Nat} {r s : Nat} (h : partsB bs = some (body,r,s)) : openB bs = (obB body).map fun t => (t,r,s):=by
 unfold openB obB
 rw [h]
 simp only
 cases numbersB body 5 with
 | none => rfl
 | some l =>
  simp only
  split
  ·
   rfl
  ·
   rfl
theorem tkOf_map {l : List (List Nat)} (h : l.length = 5) : tkOf (l.map ofB) = ⟨ofB (l.getD 0 []),ofB (l.getD 1 []),ofB (l.getD 2 []),ofB (l.getD 3 []),ofB (l.getD 4 [])⟩:=by
 match l,h with
 | [_,_,_,_,_],_ => rfl
def OBodyA (bs : List Nat) (T : Array Value) (ev : Value) : Prop :=
 (obB bs = none ∧ T = tkC ⟨0,0,0,0,0⟩ ∧ ev = .iface 39 (.int .i64 2)) ∨ (∃ t,obB bs = some t ∧ T = tkC t ∧ ev = .nilIface)
theorem of_yes {A : Option Addr} {m c : Nat} {bs : List Nat} (hm : m = bs.length) (hmc : m ≤ c) {w : World} (hS : Bs w A bs) (h : 0 ≤ ofB bs) : Calls Tryz.prog 56 #[.slice A m c] w fun e w' => e = .returned (.tuple #[.int .i64 (ofB bs),.nilIface]) ∧ Ext w w' :=
 (of8_calls A m c bs hm hmc w hS).mono fun _ _ ⟨x,ev,he,hE,hA⟩ => by
  rcases hA with ⟨h1,_⟩ | ⟨_,rfl,rfl⟩
  ·
   omega
  ·
   exact ⟨he,hE⟩
theorem of_no {A : Option Addr} {m c : Nat} {bs : List Nat} (hm : m = bs.length) (hmc : m ≤ c) {w : World} (hS : Bs w A bs) (h : ofB bs < 0) : Calls Tryz.prog 56 #[.slice A m c] w fun e w' => e = .returned (.tuple #[.int .i64 0,.iface 39 (.int .i64 2)]) ∧ Ext w w' :=
 (of8_calls A m c bs hm hmc w hS).mono fun _ _ ⟨x,ev,he,hE,hA⟩ => by
  rcases hA with ⟨_,rfl,rfl⟩ | ⟨h1,_⟩
  ·
   exact ⟨he,hE⟩
  ·
   omega
theorem row_five {w : World} {g t : Nat} {f : Nat → Value} (h : w.rowIs g t 5 f) : w.cell? ⟨g,0,none⟩ = some (f 0) ∧ w.cell? ⟨g,1,none⟩ = some (f 1) ∧ w.cell? ⟨g,2,none⟩ = some (f 2) ∧ w.cell? ⟨g,3,none⟩ = some (f 3) ∧ w.cell? ⟨g,4,none⟩ = some (f 4) :=
 ⟨h.cell (by omega),h.cell (by omega),h.cell (by omega),h.cell (by omega),h.cell (by omega)⟩
theorem zgn (A : Option Addr) (m c : Nat) (bs : List Nat) (hm : m = bs.length) (hmc : m ≤ c) (hle : m ≤ 100000000) (w : World) (hS : Bs w A bs) :
  Calls Tryz.prog 61 #[.slice A m c] w fun e w' => ∃ T ev,e = .returned (.tuple #[.agg T,ev]) ∧ Ext w w' ∧ OBodyA bs T ev:=by
 have KG:=veil (fun W (hW : Bs W A bs) => tget_calls A m c bs 5 hm hmc hle (by decide) W hW)
 have k2:=neNil2
 have k3:=neNilN
 have HB:=veil hS
 clear hm hmc hS hle
 go_enter Tryz.func61,Tryz.ntmps61
 go_upto_region 1 with (fail)
 obtain ⟨g2,hg2⟩ : ∃ g,g = w.heap.size:=⟨_,rfl⟩
 obtain ⟨w0,hw0⟩ : ∃ W,W = w.alloc (.cells TZ 47):=⟨_,rfl⟩
 have h2:=zaj w (.cells TZ 47)
 have hE0:=Ext.alloc w (.cells TZ 47)
 rw [← hw0] at hE0
 rw [← hw0,← hg2] at h2
 have H0:=veil (And.intro hE0 (And.intro h2 (show w.heap.size ≤ g2 by omega)))
 unfold TZ at hw0
 rw [← hw0,← hg2]
 clear hw0 hg2 h2 hE0
 go_upto_region 2 with (go_at_call 60; refine (KG.out w0 (HB.out.ext H0.out.1)).mono ?_; rintro e w1 ⟨x,ev,rfl,hE1,hA⟩)
 have H1:=veil (And.intro (H0.out.1.trans hE1) (And.intro (hE1.block H0.out.2.1) H0.out.2.2))
 clear hE1 H0 KG
 rcases hA with ⟨hn,⟨A2,c2,rfl⟩,rfl⟩ | ⟨l,hs,hl5,hV,rfl⟩
 ·
  have hr:=obB_none (texts_none hn)
  clear hn
  go_wp2_with ((with_reducible refine zan ?_); refine wpList_store_row rfl 47 _ _ rfl g2 TZ rfl rfl 47 _ H1.out.2.1 iTZ rfl zdn ?_)
  refine bodyPost_ret (zax rfl _ _ g2 47 TZ (0,0) _ rfl (setRow_heap w1 g2 _ TZ 47 (0,0) H1.out.2.1) Tryz.underlying47 rfl iTZ) rfl ⟨_,_,rfl,zas H1.out.1 H1.out.2.2 _,.inl ⟨hr,rfl,rfl⟩⟩
 ·
  have hnum:=texts_some hs
  obtain ⟨_,AL,cl,rfl,hcl,hx⟩:=hV
  obtain ⟨n,hn⟩ : ∃ n,n = l.length:=⟨_,rfl⟩
  rw [← hn] at hx hcl hl5 ⊢
  subst hl5
  have HX:=veil (And.intro (hx.resolve_left (by decide)) (And.intro hn hnum))
  have hr6 : (w1.alloc (.cells #[.int .i64 0,.int .i64 0,.int .i64 0,.int .i64 0,.int .i64 0] 132)).rowIs w1.heap.size 132 5 (fun _ => .int .i64 0):=World.rowIs_alloc w1 _ _ _ (fun i hi => by
   have hi : i < 5:=hi
   match i,hi with
   | 0,_ => rfl
   | 1,_ => rfl
   | 2,_ => rfl
   | 3,_ => rfl
   | 4,_ => rfl)
  have hE2:=Ext.alloc w1 (.cells #[.int .i64 0,.int .i64 0,.int .i64 0,.int .i64 0,.int .i64 0] 132)
  have H2:=veil (And.intro hr6 hE2)
  clear hs hnum hx hn hcl hr6 hE2
  go_upto_region 5 with (fail)
  obtain ⟨g,hg⟩ : ∃ g,g = w1.heap.size:=⟨_,rfl⟩
  generalize w1.alloc (.cells #[.int .i64 0,.int .i64 0,.int .i64 0,.int .i64 0,.int .i64 0] 132) = w2 at *
  rw [← hg] at H2 ⊢
  have HG:=veil (show w1.heap.size ≤ g by omega)
  clear hg
  go_wp2
  go_loopw [5,7,8,21] (fun s _ _ v wr => ∃ i : Nat,i ≤ 5 ∧ s = .nilIface ∧ v = .int .i64 (i : Int) ∧ wr.rowIs g 132 5 (fun j => if j < i then .int .i64 (ofB (l.getD j [])) else .int .i64 0) ∧ (∀ j,j < i → 0 ≤ ofB (l.getD j [])) ∧ Ext w1 wr)
   (fun _ _ _ v _ => 5 - (intOf v).toNat)
  case atStart => exact ⟨0,by omega,rfl,rfl,H2.out.1.congr (fun j hj => by rw [if_neg (by omega)]),fun j hj => by omega,H2.out.2⟩
  case round =>
   obtain ⟨i,hi,rfl,rfl,hp,hall,hE⟩:=hrel
   by_cases hlt : i < 5
   ·
    have hii : (i : Int) < 5:=by omega
    obtain ⟨b,o,hAL,hb,hcl⟩:=HX.out.1
    obtain ⟨A',k',h1,h3,h4⟩:=hcl i (by have:=HX.out.2.1; omega)
    have c0:=(hE.cell hb).trans h1
    have hB:=h4.ext hE
    obtain ⟨L,hL⟩ : ∃ L,L = (l.getD i []).length:=⟨_,rfl⟩
    obtain ⟨N,hN⟩ : ∃ N,N = ofB (l.getD i []):=⟨_,rfl⟩
    rw [← hL] at c0 h3
    subst hAL
    by_cases gN : 0 ≤ N
    ·
     have KO:=veil (of_yes hL h3 hB (by rw [← hN]; exact gN))
     rw [← hN] at KO
     have HS:=veil (And.intro hp (And.intro hall (And.intro hE (And.intro hN gN))))
     clear h1 h3 h4 hB hp hall hE hcl hL hN gN
     go_upto_region 9 with (go_at_call 56; refine KO.out.mono ?_; rintro e w3 ⟨rfl,hE3⟩; have hp3:=veil (zad HS.out.1 hE3 HS.out.1.lt); have c2:=hp3.out.cell hlt; have f2:=hp3.out.frozen i)
     clear c0 c2 f2
     go_wp2
     go_roundw
     case rel =>
      refine ⟨i + 1,by omega,rfl,by go_num,(hp3.out.set i _).congr (fun j hj => ?_),fun j hj => ?_,zap (HS.out.2.2.1.trans hE3) HG.out _⟩
      ·
       by_cases e : j = i
       ·
        subst e
        rw [if_pos rfl,if_pos (by omega),HS.out.2.2.2.1]
       ·
        rw [if_neg e]
        by_cases e2 : j < i
        ·
         rw [if_pos e2,if_pos (by omega)]
        ·
         rw [if_neg e2,if_neg (by omega)]
      ·
       by_cases e : j = i
       ·
        subst e
        rw [← HS.out.2.2.2.1]
        exact HS.out.2.2.2.2
       ·
        exact HS.out.2.1 j (by omega)
     case measure => simp [intOf]; omega
    ·
     have KO:=veil (of_no hL h3 hB (by rw [← hN]; omega))
     have hr:=obB_none (bs:=bs) (by
      rw [HX.out.2.2,if_neg]
      intro h
      have:=h i hlt
      omega)
     have HS:=veil (And.intro hp (And.intro hr hE))
     clear h1 h3 h4 hB hp hall hE hcl hL hN gN hr
     go_upto_region 9 with (go_at_call 56; refine KO.out.mono ?_; rintro e w3 ⟨rfl,hE3⟩; have hp3:=veil (zad HS.out.1 hE3 HS.out.1.lt); have c2:=hp3.out.cell hlt; have f2:=hp3.out.frozen i)
     have hE4 : Ext w1 (w3.setCell ⟨g,i,none⟩ (.int .i64 0)):=zap (HS.out.2.2.trans hE3) HG.out _
     clear c0 c2 f2
     generalize w3.setCell ⟨g,i,none⟩ (.int .i64 0) = w4 at *
     have H4:=veil (And.intro (H1.out.1.trans hE4) (hE4.block H1.out.2.1))
     clear hE4
     go_wp2_with ((with_reducible refine zan ?_); refine wpList_store_row rfl 47 _ _ rfl g2 TZ rfl rfl 47 _ H4.out.2 iTZ rfl zdn ?_)
     refine bodyPost_ret (zax rfl _ _ g2 47 TZ (0,0) _ rfl (setRow_heap w4 g2 _ TZ 47 (0,0) H4.out.2) Tryz.underlying47 rfl iTZ) rfl ⟨_,_,rfl,zas H4.out.1 H1.out.2.2 _,.inl ⟨HS.out.2.1,rfl,rfl⟩⟩
   ·
    obtain rfl : i = 5:=by omega
    have hr:=HX.out.2.2
    rw [if_pos hall] at hr
    have hob:=obB_some hr
    rw [tkOf_map HX.out.2.1.symm] at hob
    obtain ⟨c0,c1,c2,c3,c4⟩:=row_five hp
    rw [if_pos (by decide)] at c0 c1 c2 c3 c4
    have HO:=veil hob
    clear hob hr hall hp
    obtain ⟨N0,hN0⟩ : ∃ N,N = ofB (l.getD 0 []):=⟨_,rfl⟩
    obtain ⟨N1,hN1⟩ : ∃ N,N = ofB (l.getD 1 []):=⟨_,rfl⟩
    obtain ⟨N2,hN2⟩ : ∃ N,N = ofB (l.getD 2 []):=⟨_,rfl⟩
    obtain ⟨N3,hN3⟩ : ∃ N,N = ofB (l.getD 3 []):=⟨_,rfl⟩
    obtain ⟨N4,hN4⟩ : ∃ N,N = ofB (l.getD 4 []):=⟨_,rfl⟩
    rw [← hN0,← hN1,← hN2,← hN3,← hN4] at HO
    rw [← hN0] at c0
    rw [← hN1] at c1
    rw [← hN2] at c2
    rw [← hN3] at c3
    rw [← hN4] at c4
    have HE:=veil hE
    clear hN0 hN1 hN2 hN3 hN4 hE
    go_upto_region 13 with ((with_reducible refine zan ?_); refine wpList_store_row rfl 47 _ _ rfl wr.heap.size (tkC ⟨N0,N1,N2,N3,N4⟩) rfl rfl 47 _ (zaj wr _) (iTk _) rfl (zbp _) ?_; rw [World.setRow_alloc_new])
    have h9:=zaj wr (.cells (tkC ⟨N0,N1,N2,N3,N4⟩) 47)
    have hE9:=Ext.alloc wr (.cells (tkC ⟨N0,N1,N2,N3,N4⟩) 47)
    generalize (⟨N0,N1,N2,N3,N4⟩ : Tk) = t at *
    generalize wr.alloc (.cells (tkC t) 47) = w3 at *
    generalize wr.heap.size = g9 at *
    have KM:=veil (fun W => may9_calls t W)
    have H3:=veil (And.intro h9 (And.intro (H1.out.1.trans (HE.out.trans hE9)) ((HE.out.trans hE9).block H1.out.2.1)))
    clear h9 hE9 c0 c1 c2 c3 c4
    unfold tkV at KM
    cases hmay : mayT t with
    | false =>
     rw [hmay] at KM HO
     clear hmay
     have hr : obB bs = none:=by rw [HO.out]; rfl
     go_upto_region 14 with (first
      | ((with_reducible refine zam 49 ?_); refine wpList_load_row rfl 47 _ rfl g9 rfl 47 (tkC t) (0,0) _ H3.out.1 Tryz.underlying47 rfl (iTk t) ?_)
      | (go_at_call 83; refine (KM.out _).mono ?_; rintro e w4 ⟨rfl,hE4⟩))
     have h24:=hE4.block H3.out.2.2
     go_wp2_with ((with_reducible refine zan ?_); refine wpList_store_row rfl 47 _ _ rfl g2 TZ rfl rfl 47 _ h24 iTZ rfl zdn ?_)
     refine bodyPost_ret (zax rfl _ _ g2 47 TZ (0,0) _ rfl (setRow_heap w4 g2 _ TZ 47 (0,0) h24) Tryz.underlying47 rfl iTZ) rfl ⟨_,_,rfl,zas (H3.out.2.1.trans hE4) H1.out.2.2 _,.inl ⟨hr,rfl,rfl⟩⟩
    | true =>
     rw [hmay] at KM HO
     clear hmay
     have hr : obB bs = some t:=by rw [HO.out]; rfl
     go_upto_region 15 with (first
      | ((with_reducible refine zam 49 ?_); refine wpList_load_row rfl 47 _ rfl g9 rfl 47 (tkC t) (0,0) _ H3.out.1 Tryz.underlying47 rfl (iTk t) ?_)
      | (go_at_call 83; refine (KM.out _).mono ?_; rintro e w4 ⟨rfl,hE4⟩))
     have h24:=hE4.block H3.out.2.2
     have h94:=hE4.block H3.out.1
     go_wp2_with (first
      | ((with_reducible refine zam 54 ?_); refine wpList_load_row rfl 47 _ rfl g9 rfl 47 (tkC t) (0,0) _ h94 Tryz.underlying47 rfl (iTk t) ?_)
      | ((with_reducible refine zan ?_); refine wpList_store_row rfl 47 _ _ rfl g2 (tkC t) rfl rfl 47 _ h24 (iTk t) rfl (zbp t) ?_))
     refine bodyPost_ret (zax rfl _ _ g2 47 (tkC t) (0,0) _ rfl (setRow_heap w4 g2 _ (tkC t) 47 (0,0) h24) Tryz.underlying47 rfl (iTk t)) rfl ⟨_,_,rfl,zas (H3.out.2.1.trans hE4) H1.out.2.2 _,.inr ⟨_,hr,rfl,rfl⟩⟩
def sb (s : KV) (j : Nat) : Value:=.int .u8 ((if j < 32 then s.k j else s.v (j - 32) : Nat) : Int)
section
variable {w w' : World} {g : Nat} {s : KV}
end
def pY (v : Nat → Nat) (b : Nat) (Y : Nat → Nat → Nat) (r : Nat) : Nat → Nat:=if r = 0 then v else if r = 1 then cat (fun _ => b) 1 none0 else Y (r - 2)
end Go.Proofs.YthlbemnbmbmjhaaGreatDoor
