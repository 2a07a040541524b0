/-
  Of HMix.
-/
import Derived.WalkKit
import Derived.WalkSpells
import Derived.WalkLawsBesides
import Derived.Deep.LoopGhost
import Derived.Deep.Cut
import Derived.Deep.CutRange
import Derived.Deep.QuietTactic
import Derived.BigQuiet
import Derived.StillTailTactics
import Derived.IntWalk
import Derived.Test.YtmfjigcdhijkjaaDoorZB5
set_option maxRecDepth 1000000
set_option maxHeartbeats 20000000
namespace Go.Proofs.YtmfjigcdhijkjaaDoor
open Go.RowKit
open Go.Act renaming put → aP
open List renaming setIfInBounds_toArray → lA, set_cons_zero → lZ, set_cons_succ → lS
theorem infoS : (Tryd.prog.info? 111).map (·.size) = some 8:=by kernel_rfl
theorem ad_mod (x y : Nat) : ((x : Int) + (y : Int)) % 4294967296 = ((ad x y : Nat) : Int):=by unfold ad; rw [Int.natCast_emod,Int.natCast_add]; rfl
theorem ad_wrap (x y : Nat) : IntKind.u32.wrap ((x : Int) + (y : Int)) = ((ad x y : Nat) : Int):=by rw [wrap32]; exact ad_mod x y
def stArr (s : St) : Array Value:=arrOf 8 fun j => .int .u32 (s.at j : Nat)
theorem stList (s : St) : ((List.range 8).map fun j => Value.int .u32 (s.at j : Nat)).toArray = stArr s:=rfl
theorem addSt_at (s r : St) (j : Nat) : (addSt s r).at j = ad (s.at j) (r.at j):=by
 unfold St.at addSt
 split <;> rfl
theorem mix_calls (g : Nat) (s : St) (blk : Nat → Nat) (len : Nat) (hs : s.Ok) (hblk : ∀ j,blk j < 256) (w : World) (hK : KT w) (hH : HRow w g s blk len) :
  Calls Tryd.prog 73 #[.pointer (some ⟨g,0,none⟩)] w fun e w' => e = .returned (.tuple #[]) ∧ HRow w' g (blockN (fun t => word blk (4 * t)) s) blk len ∧ But g w w':=by
 go_enter Tryd.func73,Tryd.ntmps73
 go_wp2_with fail
 refine (words_calls g s blk len hblk w hH).mono ?_
 rintro e w1 ⟨rfl,hb1⟩
 have hm : ∀ t,t < 16 → word blk (4 * t) < 2 ^ 32:=fun t _ => by
  unfold word
  have h0:=hblk (4 * t); have h1:=hblk (4 * t + 1); have h2:=hblk (4 * t + 2); have h3:=hblk (4 * t + 3)
  omega
 obtain ⟨m,hm0⟩ : ∃ m,m = fun t => word blk (4 * t):=⟨_,rfl⟩
 have hW:=fun t => wt_lt (m:=fun t => word blk (4 * t)) hm t
 rw [← hm0] at hW ⊢
 obtain ⟨A,hA⟩ : ∃ A,A = arrOf 64 (fun j => .int .u32 (wt m j : Nat)):=⟨_,rfl⟩
 rw [← hA]
 have hAs : A.size = 64:=by rw [hA,zbb]
 have hA1 : A.all (·.oneCell') = true:=by rw [hA]; exact zca fun _ _ => rfl
 have HZ:=veil (And.intro hAs (And.intro hA1 (show (Tryd.prog.info? 126).map (·.size) = some A.size by rw [hAs]; exact info32)))
 have HA:=veil (show ∀ j,j < 64 → A[j]? = some (.int .u32 (wt m j : Nat)) from fun j hj => by rw [hA,zcw _ hj])
 have HM:=veil (show (fun t => word blk (4 * t)) = m from hm0.symm)
 have HS:=veil hs
 have HW:=veil hW
 have hK1:=hK.call hb1
 have hH1:=hH.call hb1
 clear hm hm0 hW hA hAs hA1 hs hblk hK hH
 go_upto_region 1 with (first
  | ((with_reducible refine zck ?_); refine wpList_store_row rfl 126 _ _ rfl w1.heap.size A rfl rfl 126 _ (heap_alloc_last w1 _) HZ.out.2.2 (by rw [HZ.out.1]; rfl) HZ.out.2.1 ?_; rw [World.setRow_alloc_new]))
 have hA2 : (w1.alloc (.cells A 126)).heap[w1.heap.size]? = some (.cells A 126 (0,0)):=heap_alloc_last w1 _
 have hK2:=hK1.alloc (.cells A 126)
 have hH2:=hH1.alloc (.cells A 126)
 have hb2:=hb1.alloc hb1.size (.cells A 126)
 generalize w1.alloc (.cells A 126) = w2 at *
 generalize w1.heap.size = bA at *
 have HA2:=veil hA2
 clear hA2
 have HB:=veil hH2.words
 have HS1:=veil (show (stArr s).all (·.oneCell') = true from zca fun _ _ => rfl)
 have HSL:=veil (stList s)
 clear hK1 hH1 hb1
 go_upto_region 2 with (first
  | ((with_reducible refine zbw 23 ?_); refine wpList_load_mid rfl 111 _ rfl g 0 rfl _ _ HB.out Tryd.underlying111 rfl (by simpa using infoS) ?_; rw [HSL.out]; generalize hSA : stArr s = SA; have HSA:=veil hSA; clear hSA)
  | ((with_reducible refine zck ?_); refine wpList_store_row rfl 111 _ _ rfl w2.heap.size (stArr s) rfl (congrArg Value.agg HSA.out.symm) 111 _ (heap_alloc_last w2 _) infoS rfl HS1.out ?_; rw [World.setRow_alloc_new]))
 have hR3 : (w2.alloc (.cells (stArr s) 111)).rowIs w2.heap.size 111 8 (fun j => .int .u32 (s.at j : Nat)):=zcd w2 8 _ _ rfl
 have hK3:=hK2.alloc (.cells (stArr s) 111)
 have hH3:=hH2.alloc (.cells (stArr s) 111)
 have hb3:=hb2.alloc hb2.size (.cells (stArr s) 111)
 have hA3 : (w2.alloc (.cells (stArr s) 111)).heap[bA]? = some (.cells A 126 (0,0)):=(Below.heap_alloc _ _ _ (Array.getElem?_eq_some_iff.1 HA2.out).1).trans HA2.out
 generalize w2.alloc (.cells (stArr s) 111) = w3 at *
 generalize w2.heap.size = bS at *
 have HA3:=veil hA3
 have d0 : w3.cell? ⟨bS,0,none⟩ = some (.int .u32 (s.a : Nat)):=hR3.cell (by decide)
 have d1 : w3.cell? ⟨bS,1,none⟩ = some (.int .u32 (s.b : Nat)):=hR3.cell (by decide)
 have d2 : w3.cell? ⟨bS,2,none⟩ = some (.int .u32 (s.c : Nat)):=hR3.cell (by decide)
 have d3 : w3.cell? ⟨bS,3,none⟩ = some (.int .u32 (s.d : Nat)):=hR3.cell (by decide)
 have d4 : w3.cell? ⟨bS,4,none⟩ = some (.int .u32 (s.e : Nat)):=hR3.cell (by decide)
 have d5 : w3.cell? ⟨bS,5,none⟩ = some (.int .u32 (s.f : Nat)):=hR3.cell (by decide)
 have d6 : w3.cell? ⟨bS,6,none⟩ = some (.int .u32 (s.g : Nat)):=hR3.cell (by decide)
 have d7 : w3.cell? ⟨bS,7,none⟩ = some (.int .u32 (s.h : Nat)):=hR3.cell (by decide)
 clear hK2 hH2 hb2 HA2 hA3 hR3 HB HS1 HSL HSA
 go_quiet (fail)
 have hK4:=hK3.drewN nq
 have hH4:=hH3.drewN nq
 have hb4:=zbt hb3 nq
 have hA4 : (w3.drewN nq).heap[bA]? = some (.cells A 126 (0,0)):=HA3.out
 generalize w3.drewN nq = w4 at *
 have HA4:=veil hA4
 clear hK3 hH3 hb3 HA3 hA4 d0 d1 d2 d3 d4 d5 d6 d7
 have sI:=ad_mod
 have sW:=ad_wrap
 go_wp2_with ((with_reducible refine zbw 40 ?_); refine wpList_load_row rfl 126 _ rfl bA rfl 126 A (0,0) _ HA4.out Tryd.underlying126 rfl HZ.out.2.2 ?_)
 clear HA4
 go_loopw [4,5,6,7,8,9,10,11,41] (fun v4 v5 v6 v7 v8 v9 v10 v11 v41 wr => ∃ t a b c d e f q h : Nat,t ≤ 64 ∧ Hid (roundsN m s t = ⟨a,b,c,d,e,f,q,h⟩) ∧
   v41 = .int .i64 (t : Int) ∧ v4 = .int .u32 (a : Int) ∧ v5 = .int .u32 (b : Int) ∧ v6 = .int .u32 (c : Int) ∧ v7 = .int .u32 (d : Int) ∧ v8 = .int .u32 (e : Int) ∧ v9 = .int .u32 (f : Int) ∧ v10 = .int .u32 (q : Int) ∧ v11 = .int .u32 (h : Int) ∧
   KT wr ∧ HRow wr g s blk len ∧ Below w.heap.size w wr)
  (fun _ _ _ _ _ _ _ _ v41 _ => 64 - (intOf v41).toNat)
 case atStart => exact ⟨0,s.a,s.b,s.c,s.d,s.e,s.f,s.g,s.h,by omega,rfl,rfl,rfl,rfl,rfl,rfl,rfl,rfl,rfl,rfl,hK4,hH4,hb4⟩
 case round =>
  obtain ⟨t,a,b,c,d,e,f,q,h,ht,hr,rfl,rfl,rfl,rfl,rfl,rfl,rfl,rfl,rfl,hK,hH,hb⟩:=hrel
  have hok : (⟨a,b,c,d,e,f,q,h⟩ : St).Ok:=hr.out ▸ roundsN_ok HS.out t
  by_cases hlt : t < 64
  ·
   have ck:=hK.cell t hlt
   have kx:=fun W => zdx (P:=Tryd.prog) (t:=126) (cs:=A) (v:=.int .u32 (wt m t : Nat)) Tryd.underlying126 (by kernel_rfl) (fun W => run_part_plain (P:=Tryd.prog) W (e:=110) (by kernel_rfl) (xs:=A) (off:=t) (HA.out t hlt)) hlt .i64 W
   obtain ⟨x,hx⟩ : ∃ x,x = wt m t:=⟨_,rfl⟩
   obtain ⟨k,hk⟩ : ∃ k,k = kc t:=⟨_,rfl⟩
   rw [← hk] at ck
   rw [← hx] at kx
   have K1:=veil (fun W => bigOne_calls e hok.e W)
   have K2:=veil (fun W => choice_calls e f q hok.e hok.f hok.g W)
   have K3:=veil (fun W => bigZero_calls a hok.a W)
   have K4:=veil (fun W => majority_calls a b c hok.a hok.b hok.c W)
   have jt : (t : Int) < 64:=by omega
   have wt64 : IntKind.i64.wrap (t : Int) = (t : Int):=IntWalk.i64_in _ (by omega)
   have HX:=veil (And.intro hx hk)
   clear hx hk hok
   go_wp2
   refine wp_region_still_lit (by kernel_rfl) (by kernel_rfl) ?_
   repeat still_step
   still_call (by first | ((with_reducible refine (K1.out _).mono ?_); rintro e w' ⟨rfl,rfl⟩; exact ⟨rfl,rfl⟩))
   repeat still_step
   still_call (by first | ((with_reducible refine (K2.out _).mono ?_); rintro e w' ⟨rfl,rfl⟩; exact ⟨rfl,rfl⟩))
   repeat still_step
   refine wpStill_nil ?_
   change Exit.then _ _ _ _ wr.drew
   have hK':=hK.drew
   have hH':=hH.drew
   have hb':=hb.drew
   generalize wr.drew = w5 at *
   clear hK hH hb ck kx
   obtain ⟨y1,hy1⟩ : ∃ y,y = ad (ad (ad (ad h (bs1 e)) (chN e f q)) k) x:=⟨_,rfl⟩
   rw [← hy1]
   have HY1:=veil hy1
   clear hy1
   go_wp2_with (first
    | (go_at_call 92; ((with_reducible refine (K3.out _).mono ?_); rintro e w' ⟨rfl,rfl⟩))
    | (go_at_call 93; ((with_reducible refine (K4.out _).mono ?_); rintro e w' ⟨rfl,rfl⟩)))
   go_roundw
   case rel =>
    refine ⟨t + 1,_,_,_,_,_,_,_,_,by omega,?_,by go_num,rfl,rfl,rfl,rfl,rfl,rfl,rfl,rfl,hK',hH',hb'⟩
    show roundsN m s (t + 1) = _
    show stepN (roundsN m s t) (kc t) (wt m t) = _
    rw [hr.out,← HX.out.1,← HX.out.2,HY1.out]
    rfl
   case measure => simp [intOf]; omega
  ·
   have e64 : t = 64:=by omega
   have htf : decide ((t : Int) < 64) = false:=by simp; omega
   have hr:=e64 ▸ hr
   obtain ⟨r,hrr⟩ : ∃ r : St,r = ⟨a,b,c,d,e,f,q,h⟩:=⟨_,rfl⟩
   have hB : blockN m s = addSt s r:=by unfold blockN; rw [hr.out,hrr]
   have kx : ∀ j : Nat,j < 8 → ∀ W,(Instr.index 111 (.agg #[.int .u32 (a : Int),.int .u32 (b : Int),.int .u32 (c : Int),.int .u32 (d : Int),.int .u32 (e : Int),.int .u32 (f : Int),.int .u32 (q : Int),.int .u32 (h : Int)]) (.int .i64 (j : Int))).run Tryd.prog W = .ok (.int .u32 (r.at j : Nat)) W:=fun j hj W =>
    zdx (P:=Tryd.prog) (t:=111) (v:=.int .u32 (r.at j : Nat)) Tryd.underlying111 (by kernel_rfl) (fun W => run_part_plain (P:=Tryd.prog) W (e:=110) (by kernel_rfl) (off:=j) (by rw [hrr]; exact zcw (n:=8) (fun i => .int .u32 (St.at ⟨a,b,c,d,e,f,q,h⟩ i : Nat)) hj)) hj .i64 W
   have KX:=veil kx
   have HB:=veil hB
   have HR:=veil hrr
   have hH8 : wr.rowIs g 114 73 (fun i => hcells s blk len i):=hH
   have hbt : But g w wr:=But.of_below hb
   clear kx hB hrr e64 hlt ht hr hok hH hb
   go_wp2
   go_loopw [89] (fun v89 wr => ∃ j : Nat,j ≤ 8 ∧ v89 = .int .i64 (j : Int) ∧ wr.rowIs g 114 73 (fun i => if i < j then .int .u32 ((addSt s r).at i : Nat) else hcells s blk len i) ∧ But g w wr)
    (fun v89 _ => 8 - (intOf v89).toNat)
   case atStart => exact ⟨0,by omega,rfl,hH8.congr fun i _ => by rw [if_neg (by omega)],hbt⟩
   case round =>
    obtain ⟨j,hj,rfl,hH,hb⟩:=hrel
    by_cases hlt : j < 8
    ·
     have kj:=KX.out j hlt
     have cj : wr.cell? ⟨g,j,none⟩ = some (.int .u32 (s.at j : Nat)):=by
      rw [hH.cell (show j < 73 by omega),if_neg (by omega),hcells,if_pos hlt]
     have fj:=hH.frozen j
     have jj : (j : Int) < 8:=by omega
     have wj : IntKind.i64.wrap (j : Int) = (j : Int):=IntWalk.i64_in _ (by omega)
     obtain ⟨x,hx⟩ : ∃ x,x = s.at j:=⟨_,rfl⟩
     obtain ⟨y,hy⟩ : ∃ y,y = r.at j:=⟨_,rfl⟩
     rw [← hx] at cj
     rw [← hy] at kj
     have HX:=veil (And.intro hx hy)
     clear hx hy
     go_wp2
     go_still_tail 11,(by kernel_rfl)
     have hH':=hH.drew
     have hb':=But.drew hb
     have cj' : wr.drew.cell? ⟨g,j,none⟩ = some (.int .u32 (x : Nat)):=cj
     have fj' : wr.drew.frozen? ⟨g,j,none⟩ = false:=fj
     change wpList _ _ _ _ _ wr.drew
     generalize wr.drew = w5 at *
     clear cj fj hH hb
     go_wp2
     go_roundw
     case rel =>
      refine ⟨j + 1,by omega,by go_num,(hH'.set j _).congr fun i hi => ?_,But.set hb' _ _⟩
      by_cases h : i = j
      ·
       subst h
       rw [if_pos rfl,if_pos (by omega),addSt_at,← HX.out.1,← HX.out.2]
      ·
       rw [if_neg h]
       by_cases h2 : i < j
       ·
        rw [if_pos h2,if_pos (by omega)]
       ·
        rw [if_neg h2,if_neg (by omega)]
     case measure => simp [intOf]; omega
    ·
     have e8 : j = 8:=by omega
     have hjf : decide ((j : Int) < 8) = false:=by simp; omega
     have hH : HRow wr g (blockN m s) blk len:=hH.congr fun i hi => by
      rw [e8,HB.out]
      unfold hcells
      by_cases h : i < 8
      ·
       rw [if_pos h,if_pos h]
      ·
       rw [if_neg h,if_neg h,if_neg h]
     clear e8 hlt hj
     go_wp2
     go_end0
     exact ⟨rfl,by rw [HM.out]; exact hH,hb⟩
end Go.Proofs.YtmfjigcdhijkjaaDoor
