/-
  Of NR S4 V0 FMath FBase.
-/
import Derived.Deep.Cut
import Derived.Deep.CutRange
import Derived.Deep.LoopGhost
import Derived.Test.YtedehdbajiaaiaaGreatDoorRows
import Derived.WalkKit
import Derived.WalkSpells
import Derived.WalkLawsBesides
import Derived.Deep.RegionWith
import Derived.Deep.RegionHeld3
import Derived.Deep.QuietTactic
import Derived.BigQuiet
import Derived.Test.YtedehdbajiaaiaaGreatDoorZB14
import Derived.Test.YtedehdbajiaaiaaGreatDoorZB10
import Derived.Test.YtedehdbajiaaiaaGreatDoorZB1
set_option maxRecDepth 1000000
set_option maxHeartbeats 20000000
namespace Go.Proofs.YtedehdbajiaaiaaGreatDoor
open Go.RowKit
open Go.Value renaming int → vI
open Go.IntKind renaming u64 → vU
open Go.Act renaming put → aP
open List renaming setIfInBounds_toArray → lA, set_cons_zero → lZ, set_cons_succ → lS
theorem row_block {w : World} {g t : Nat} {X : Nat} (h : w.heap[g]? = some (.cells (nc X) t (0,0))) : w.cell? ⟨g,0,none⟩ = some (vI vU (wd X 0)) ∧ w.cell? ⟨g,1,none⟩ = some (vI vU (wd X 1)) ∧ w.cell? ⟨g,2,none⟩ = some (vI vU (wd X 2)) ∧ w.cell? ⟨g,3,none⟩ = some (vI vU (wd X 3)) :=
 ⟨cell_of_row w g 0 (nc X) t (0,0) h,cell_of_row w g 1 (nc X) t (0,0) h,cell_of_row w g 2 (nc X) t (0,0) h,cell_of_row w g 3 (nc X) t (0,0) h⟩
theorem two_cells {w : World} {base D M : Nat} {v : Value} (h : Own w base 5 v 64 (fun j => if j < 32 then bsv D j else bsv M (j - 32))) : Own w base 5 v 64 (fun j => .int .u8 (two D M j : Nat)):=h.congr fun j _ => by
 unfold two cat
 split <;> rfl
theorem from_own' {w : World} {base e n g c : Nat} {f : Nat → Value} (o : Own w base e (.slice (some ⟨g,0,none⟩) n c) n f) : From w (some ⟨g,0,none⟩) n f:=by
 by_cases h : n = 0
 ·
  exact .inl h
 ·
  obtain ⟨g',c',e,_,_,hp⟩:=o.pre (by omega)
  injection e with e1 _ _
  injection e1 with e2
  injection e2 with e3
  subst e3
  exact .inr ⟨_,rfl,fun j hj => by rw [Addr.add_mid,Nat.zero_add]; exact hp.cell hj⟩
theorem pre_more {D M many i : Nat} (h : ∀ j,j < i → (outN D M j).length < many) (hi : (outN D M i).length < many) : ∀ j,j < i + 1 → (outN D M j).length < many:=fun j hj => by
 rcases Nat.lt_or_ge j i with e | e
 ·
  exact h j e
 ·
  have : j = i:=by omega
  subst this
  exact hi
theorem rlist_calls (RS : RSum) (D : Nat) (y : Nat → Nat) (hy : ∀ j,y j < 256) (many : Nat) (hm : many ≤ 16) (w : World) :
  Calls Tryz.prog 32 #[nv D,.agg (arrOf 32 fun i => .int .u8 (y i : Nat)),.int .i64 (many : Int)] w fun e w' => ∃ s v,Ends D (num32 y % Pt.nn) many s ∧ e = .returned v ∧ OwnN w' w.heap.size v (outN D (num32 y % Pt.nn) s) ∧ Ext w w':=by
 obtain ⟨X,hX⟩ : ∃ X,X = num32 y:=⟨_,rfl⟩
 obtain ⟨M,hM⟩ : ∃ M,M = X % Pt.nn:=⟨_,rfl⟩
 rw [← hX,← hM]
 have hXt : X < top:=by rw [hX]; exact zhu hy
 have hMt : M < top:=by rw [hM]; exact Nat.lt_trans (Nat.mod_lt _ (by decide +kernel)) zcf
 obtain ⟨F,hF⟩ : ∃ F,F = arrOf 32 fun i => Value.int .u8 (y i : Nat):=⟨_,rfl⟩
 rw [← hF]
 obtain ⟨i8,hi8,hz0,hz1,hz2⟩:=info_parts infoByte
 have HI:=veil (And.intro hi8 (And.intro hz0 (And.intro hz1 hz2)))
 have HX:=veil (And.intro hX (And.intro hM (And.intro hXt (And.intro hMt (And.intro hy (And.intro hF hm))))))
 have HRS:=veil RS
 clear hi8 hz0 hz1 hz2 hX hM hXt hMt hy hF hm RS
 show Calls _ _ #[.agg (nc D),.agg F,_] w _
 obtain ⟨C,hC⟩ : ∃ C,C = nc D:=⟨_,rfl⟩
 rw [← hC]
 have HC:=veil hC
 clear hC
 go_enter Tryz.func32,Tryz.ntmps32
 go_upto_region 1 with (fail)
 have hc1 : (w.alloc (.cells C 26)).heap[w.heap.size]? = some (.cells C 26 (0,0)):=heap_alloc_last w _
 have hz1 : (w.alloc (.cells C 26)).heap.size = w.heap.size + 1:=by simp
 have hE1:=Ext.alloc w (.cells C 26)
 generalize w.alloc (.cells C 26) = w1 at *
 have hf2 : (w1.alloc (.cells F 43)).rowIs (w.heap.size + 1) 43 32 (fun i => .int .u8 (y i : Nat)):=by rw [HX.out.2.2.2.2.2.1]; exact zbj w1 32 43 _ hz1.symm
 have hc2:=(Ext.alloc w1 (.cells F 43)).block hc1
 have hE2:=hE1.trans (Ext.alloc w1 (.cells F 43))
 generalize w1.alloc (.cells F 43) = w2 at *
 have KOf:=veil (show Calls Tryz.prog 68 #[.slice (some ⟨w.heap.size + 1,0,none⟩) 32 32] w2 fun e w' => e = .returned (nv X) ∧ Ext w2 w' from by
  rw [HX.out.1]; exact rof_some (w.heap.size + 1) 0 32 32 y HX.out.2.2.2.2.1 (by decide) w2 hf2.lt (fun j hj => by rw [Nat.zero_add]; exact hf2.cell hj))
 have KIn:=veil (fun W => show Calls Tryz.prog 35 #[nv X,nv Pt.nn] W fun e w' => e = .returned (nv M) ∧ Ext W w' from by
  rw [HX.out.2.1]; exact gin_calls X Pt.nn HX.out.2.2.1 (by decide +kernel) zcf W)
 have H2:=veil (And.intro hc2 hE2)
 clear hc1 hz1 hE1 hf2 hc2 hE2
 go_upto_region 2 with (first
  | (go_at_call 68; refine KOf.out.mono ?_; rintro e w3 ⟨rfl,hE3⟩)
  | (go_at_call 31; refine (nn_is _).mono ?_; rintro e w4 ⟨rfl,hE4⟩)
  | (go_at_call 35; refine (KIn.out _).mono ?_; rintro e w5 ⟨rfl,hE5⟩)
  | ((with_reducible refine zbb ?_); refine wpList_store_row rfl 26 _ _ rfl w5.heap.size (nc M) rfl rfl 26 _ (heap_alloc_last w5 _) (iN M) (by rfl) (zbd M) ?_; rw [World.setRow_alloc_new]))
 have hm6 : (w5.alloc (.cells (nc M) 26)).heap[w5.heap.size]? = some (.cells (nc M) 26 (0,0)):=heap_alloc_last w5 _
 have hE6:=((hE3.trans hE4).trans hE5).trans (Ext.alloc w5 (.cells (nc M) 26))
 have hc6:=hE6.block H2.out.1
 replace hE6:=H2.out.2.trans hE6
 generalize w5.alloc (.cells (nc M) 26) = wz at *
 generalize w5.heap.size = gm at *
 rw [HC.out] at hc6
 clear hE3 hE4 hE5 KOf KIn H2
 obtain ⟨x0,x1,x2,x3⟩:=row_block hc6
 obtain ⟨m0,m1,m2,m3⟩:=row_block hm6
 have lz : w.heap.size < wz.heap.size:=(Array.getElem?_eq_some_iff.1 hc6).1
 have lm : gm < wz.heap.size:=(Array.getElem?_eq_some_iff.1 hm6).1
 have H1:=veil (fun W => zhh D W)
 have H2:=veil (fun W => zhh M W)
 have hzz : wz.heap.size = wz.heap.size:=rfl
 clear hc6 hm6
 simp only [Act.put]
 go_cut [8] from 20 to 24 (fun v8 wx => ∃ g cap,v8 = .slice (some ⟨g,0,none⟩) 64 cap ∧ Own wx wz.heap.size 5 (.slice (some ⟨g,0,none⟩) 64 cap) 64 (fun j => .int .u8 (two D M j : Nat)) ∧ Ext wz wx)
 case first =>
  go_region_held3 (fun w' => (∀ b o,b < wz.heap.size → w'.cell? ⟨b,o,none⟩ = wz.cell? ⟨b,o,none⟩) ∧ Below wz.heap.size wz w')
   (first
    | with_reducible assumption
    | with_reducible exact zde _
    | exact hS3
    | with_reducible exact zdc (by assumption) (by assumption)
    | fail)
   (first
    | (go_at_call 69; first
      | ((with_reducible refine (H1.out _).mono ?_); rintro e w1 ⟨g1,c1,rfl,hc1,hg1,ho1,hb1⟩)
      | ((with_reducible refine (H2.out _).mono ?_); rintro e w2 ⟨g2,c2,rfl,hc2,hg2,ho2,hb2⟩))
    | ((with_reducible refine at_slotR 24 ?_); refine zcu _ rfl _ _ 29 rfl wz.heap.size 5 i8 (.int .u8 0) 1 Tryz.underlying29 HI.out.1 HI.out.2.1 HI.out.2.2.1 HI.out.2.2.2 rfl (.slice (some ⟨g1,0,none⟩) 32 c1) 32 _ rfl (ho1.below hb2 (Nat.le_refl _)) (some ⟨g2,0,none⟩) 32 c2 rfl _ (from_own' ho2) (fun _ => rfl) (by unfold maxLen; omega) (by omega) (Nat.le_trans hb1.size hb2.size) ?_; intro v3 w3 hO3 hg3 _ _; have hX:=zdc hb2 (zdc hb1 (zde wz)); have hb3 : Below wz.heap.size wz w3:=hX.2.grown hg3 hX.2.size (fun k e => (ho1.lt e).1); have hS3:=And.intro (fun b o (h : b < wz.heap.size) => hb3.cell (p:=⟨b,o,none⟩) h) hb3; obtain ⟨g3,c3,rfl,-,hg3',-⟩:=hO3.pre (by omega)))
  rename (_ ∧ Below wz.heap.size wz _) => hH
  clear x0 x1 x2 x3 m0 m1 m2 m3
  go_wp2_with fail
  go_meet
  case rel => exact ⟨g3,c3,rfl,two_cells hO3,hH.2⟩
 case rest =>
  obtain ⟨g8,c8,rfl,hO8,hE8⟩:=hcut
  clear x0 x1 x2 x3 m0 m1 m2 m3 lm lz H1 H2 hzz
  go_upto_region 6 with (fail)
  obtain ⟨bs,hbs⟩ : ∃ bs,bs = wc.heap.size:=⟨_,rfl⟩
  have HZ:=veil (And.intro (hE6.trans hE8) (And.intro hO8 (show wc.heap.size ≤ bs by omega)))
  have hbw : wc.heap.size ≤ bs:=by omega
  clear hE6 hE8 hO8
  go_loopw [9,10,11] (fun v9 v10 v11 wr => ∃ i : Nat,i ≤ 32 ∧ v11 = .int .i64 (i : Int) ∧ Own wr bs 5 v9 i (fun _ => .int .u8 0) ∧ Own wr bs 5 v10 i (fun _ => .int .u8 1) ∧ (∀ b,v9.ownBlock = some b → v10.ownBlock ≠ some b) ∧ Below bs wc wr ∧ bs ≤ wr.heap.size)
   (fun _ _ v11 _ => 32 - (intOf v11).toNat)
  case atStart => exact ⟨0,by omega,rfl,Own.nil _ _ _ _,Own.nil _ _ _ _,(fun b e => by cases e),hbs ▸ Below.refl _ _,by omega⟩
  case round =>
   obtain ⟨i,hi,rfl,hK,hV,hne,hB,hzr⟩:=hrel
   by_cases hlt : i < 32
   ·
    have HA:=veil (And.intro (hK.alloc (.cells #[.int .u8 0] 5)) (zdp wr (.int .u8 0) 5))
    have HBr:=veil (And.intro hB (And.intro hK (And.intro hV hne)))
    clear hK hV hne hB
    go_upto_region 9 with ((with_reducible refine zar 31 ?_); refine zas _ rfl _ _ 29 rfl bs 5 i8 (.int .u8 0) 1 Tryz.underlying29 HI.out.1 HI.out.2.1 HI.out.2.2.1 HI.out.2.2.2 rfl _ i _ rfl HA.out.1 (some ⟨wr.heap.size,0,none⟩) 1 1 rfl _ HA.out.2 (fun _ => rfl) (by unfold maxLen; omega) (by omega) (by simp; omega) ?_; intro k3 w3 hK3 hg3 hat3)
    replace hK3 : Own w3 bs 5 k3 (i + 1) (fun _ => .int .u8 0):=hK3.congr fun j _ => by split <;> rfl
    have hB3 : Below bs wc w3:=(HBr.out.1.alloc (by omega) _).grown hg3 (by simp; omega) (fun k e => (HBr.out.2.1.lt e).1)
    have hz3 : bs ≤ w3.heap.size:=by have:=hg3.size; simp at this; omega
    have hV3:=(HBr.out.2.2.1.alloc (.cells #[.int .u8 0] 5)).kept hg3 (by
     cases e : Value.ownBlock _ with
     | none => exact .inl rfl
     | some b => exact .inr fun e2 => HBr.out.2.2.2 b e2.symm e)
    replace hat3 : k3.ownBlock = u9.ownBlock ∨ k3.ownBlock = some _:=hat3
    have hne3 : ∀ b,k3.ownBlock = some b → u10.ownBlock ≠ some b:=fun b e e2 => by
     rcases hat3 with h | h
     ·
      exact HBr.out.2.2.2 b (h.symm.trans e) e2
     ·
      have:=(HBr.out.2.2.1.lt e2).2
      rw [e] at h
      injection h with h
      simp at h
      omega
    have HA3:=veil (And.intro (hV3.alloc (.cells #[.int .u8 1] 5)) (zdp w3 (.int .u8 1) 5))
    have HB3:=veil (And.intro hB3 (And.intro hV3 (And.intro hK3 hne3)))
    clear hg3 hat3 hV3 hK3 hne3 hB3 HA HBr
    go_wp2_with ((with_reducible refine zar 34 ?_); refine zas _ rfl _ _ 29 rfl bs 5 i8 (.int .u8 0) 1 Tryz.underlying29 HI.out.1 HI.out.2.1 HI.out.2.2.1 HI.out.2.2.2 rfl _ i _ rfl HA3.out.1 (some ⟨w3.heap.size,0,none⟩) 1 1 rfl _ HA3.out.2 (fun _ => rfl) (by unfold maxLen; omega) (by omega) (by simp; omega) ?_; intro v4 w4' hV4 hg4 hat4)
    replace hV4 : Own w4' bs 5 v4 (i + 1) (fun _ => .int .u8 1):=hV4.congr fun j _ => by split <;> rfl
    have hB4 : Below bs wc w4':=(HB3.out.1.alloc (by omega) _).grown hg4 (by simp; omega) (fun k e => (HB3.out.2.1.lt e).1)
    have hz4 : bs ≤ w4'.heap.size:=by have:=hg4.size; simp at this; omega
    have hK4:=(HB3.out.2.2.1.alloc (.cells #[.int .u8 1] 5)).kept hg4 (by
     cases e : k3.ownBlock with
     | none => exact .inl rfl
     | some b => exact .inr fun e2 => HB3.out.2.2.2 b e e2.symm)
    replace hat4 : v4.ownBlock = u10.ownBlock ∨ v4.ownBlock = some _:=hat4
    have hne4 : ∀ b,k3.ownBlock = some b → v4.ownBlock ≠ some b:=fun b e e2 => by
     rcases hat4 with h | h
     ·
      exact HB3.out.2.2.2 b e (h.symm.trans e2)
     ·
      have:=(HB3.out.2.2.1.lt e).2
      rw [e2] at h
      injection h with h
      simp at h
      omega
    clear hg4 hat4 HA3 HB3
    go_roundw
    case rel => exact ⟨i + 1,by omega,by go_num,hK4,hV4,hne4,hB4,hz4⟩
    case measure => simp [intOf]; omega
   ·
    obtain rfl : i = 32:=by omega
    obtain ⟨ga,ca,rfl,_,_,hpa⟩:=hK.pre (by decide)
    obtain ⟨gb,cb,rfl,_,_,hpb⟩:=hV.pre (by decide)
    have hk0 : RSrc wr (.slice (some ⟨ga,0,none⟩) 32 ca) kv0.k none:=⟨ga,0,ca,rfl,hpa.lt,(fun e => by cases e),fun j hj => by rw [Nat.zero_add]; exact hpa.cell hj⟩
    have hv0 : RSrc wr (.slice (some ⟨gb,0,none⟩) 32 cb) kv0.v none:=⟨gb,0,cb,rfl,hpb.lt,(fun e => by cases e),fun j hj => by rw [Nat.zero_add]; exact hpb.cell hj⟩
    have HR:=veil (And.intro hk0 (And.intro hv0 (And.intro (HZ.out.2.1.below (hbs ▸ hB) (Nat.le_refl _)) (Below.trans HZ.out.1 ((hbs ▸ hB).mono (Below.size HZ.out.1))))))
    clear hK hV hne hB hzr hpa hpb hk0 hv0 hlt hi HZ hbw
    have hO:=Own.made (base:=wr.heap.size) (e:=5) (f:=fun _ => .int .u8 0) wr (cs:=#[.int .u8 0]) (Nat.le_refl _) (by show 1 ≤ maxLen; decide) (fun i hi => by
     have : i < 1:=hi
     obtain rfl : i = 0:=by omega
     rfl)
    have HO10:=veil (And.intro hO (And.intro (from_own' (HR.out.2.2.1.alloc (.cells #[.int .u8 0] 5))) (show Below wr.heap.size wr (wr.alloc (.cells #[.int .u8 0] 5)) from (Below.refl _ _).alloc (Nat.le_refl _) _)))
    clear hO
    go_wp2_with ((with_reducible refine zar 39 ?_); refine zas _ rfl _ _ 29 rfl wr.heap.size 5 i8 (.int .u8 0) 1 Tryz.underlying29 HI.out.1 HI.out.2.1 HI.out.2.2.1 HI.out.2.2.2 rfl _ 1 _ rfl HO10.out.1 (some ⟨g8,0,none⟩) 64 c8 rfl _ HO10.out.2.1 (fun _ => rfl) (by unfold maxLen; omega) (by omega) (by simp) ?_; intro t10 wt10 hO10 hg10 ha10)
    have hE10 : Ext wr wt10:=zci HO10.out.2.2 hg10 (by simp) (fun k e => (HO10.out.1.lt e).1)
    obtain ⟨C10,cc10,rfl,_,hS10⟩:=src_own (g:=wt10.heap.size) (y:=cat (fun _ => 0) 1 (two D M)) (tx_own (b:=0) (m:=64) (t:=two D M) hO10) (fun b e => by have:=(hO10.lt e).2; omega)
    clear hO10 hg10 ha10 HO10
    refine (code_tx HRS.out kv0 kv0_ok _ _ none 0 (by decide) (two D M) (two_lt D M) 64 (by decide) C10 cc10 wt10 (HR.out.1.ext hE10) (HR.out.2.1.ext hE10) hS10 (fun b e => by cases e)).mono ?_
    rintro e wa ⟨ra,rfl,hra,hEa⟩
    have HA:=veil (And.intro hra (And.intro ((HR.out.2.1.ext hE10).ext hEa) (And.intro (HR.out.2.2.1.below (Ext.trans hE10 hEa) (Nat.le_refl _)) (Below.trans HR.out.2.2.2 ((Ext.trans hE10 hEa).mono HR.out.2.2.2.size)))))
    clear hra hEa hE10 hS10 HR
    go_wp2_with fail
    refine (zgw HRS.out (⟨nb kv0.k 32 (tx kv0.v 0 (two D M)) (33 + 64),kv0.v⟩ : KV) ⟨fun j => nb_lt _ _ _ _ j,kv0_ok.v⟩ _ _ none wa HA.out.1 HA.out.2.1 (fun b e => by cases e)).mono ?_
    rintro e wb ⟨rb,rfl,hrb,hEb⟩
    obtain ⟨s1,hs1⟩ : ∃ s1,s1 = kv0.mix 0 (two D M) 64:=⟨_,rfl⟩
    have HS1:=veil (And.intro hs1 (show s1.Ok from by rw [hs1]; exact kv0_ok.mix 0 (two D M) 64))
    have HB:=veil (show RSrc wb ra s1.k none ∧ RSrc wb rb s1.v none ∧ (Own wb wz.heap.size 5 (.slice (some ⟨g8,0,none⟩) 64 c8) 64 fun j => .int .u8 (two D M j : Nat)) ∧ Below w.heap.size w wb from
     by rw [hs1]; exact ⟨HA.out.1.ext hEb,hrb,HA.out.2.2.1.below hEb (Nat.le_refl _),Below.trans HA.out.2.2.2 (hEb.mono HA.out.2.2.2.size)⟩)
    clear hrb hEb HA hs1
    have hO:=Own.made (base:=wb.heap.size) (e:=5) (f:=fun _ => .int .u8 1) wb (cs:=#[.int .u8 1]) (Nat.le_refl _) (by show 1 ≤ maxLen; decide) (fun i hi => by
     have : i < 1:=hi
     obtain rfl : i = 0:=by omega
     rfl)
    have HO12:=veil (And.intro hO (And.intro (from_own' (HB.out.2.2.1.alloc (.cells #[.int .u8 1] 5))) (show Below wb.heap.size wb (wb.alloc (.cells #[.int .u8 1] 5)) from (Below.refl _ _).alloc (Nat.le_refl _) _)))
    clear hO
    go_wp2_with ((with_reducible refine zar 48 ?_); refine zas _ rfl _ _ 29 rfl wb.heap.size 5 i8 (.int .u8 0) 1 Tryz.underlying29 HI.out.1 HI.out.2.1 HI.out.2.2.1 HI.out.2.2.2 rfl _ 1 _ rfl HO12.out.1 (some ⟨g8,0,none⟩) 64 c8 rfl _ HO12.out.2.1 (fun _ => rfl) (by unfold maxLen; omega) (by omega) (by simp) ?_; intro t12 wt12 hO12 hg12 ha12)
    have hE12 : Ext wb wt12:=zci HO12.out.2.2 hg12 (by simp) (fun k e => (HO12.out.1.lt e).1)
    obtain ⟨C12,cc12,rfl,_,hS12⟩:=src_own (g:=wt12.heap.size) (y:=cat (fun _ => 1) 1 (two D M)) (tx_own (b:=1) (m:=64) (t:=two D M) hO12) (fun b e => by have:=(hO12.lt e).2; omega)
    clear hO12 hg12 ha12 HO12
    refine (code_tx HRS.out s1 HS1.out.2 _ _ none 1 (by decide) (two D M) (two_lt D M) 64 (by decide) C12 cc12 wt12 (HB.out.1.ext hE12) (HB.out.2.1.ext hE12) hS12 (fun b e => by cases e)).mono ?_
    rintro e wd' ⟨rd,rfl,hrd,hEd⟩
    have HD:=veil (And.intro hrd (And.intro ((HB.out.2.1.ext hE12).ext hEd) (Below.trans HB.out.2.2.2 ((Ext.trans hE12 hEd).mono HB.out.2.2.2.size))))
    clear hrd hEd hE12 hS12 HB
    go_wp2_with fail
    refine (zgw HRS.out (⟨nb s1.k 32 (tx s1.v 1 (two D M)) (33 + 64),s1.v⟩ : KV) ⟨fun j => nb_lt _ _ _ _ j,HS1.out.2.v⟩ _ _ none wd' HD.out.1 HD.out.2.1 (fun b e => by cases e)).mono ?_
    rintro e wb2 ⟨re,rfl,hre,hEe⟩
    have HE:=veil (show RSrc wb2 rd (kvN D M 0).k none ∧ RSrc wb2 re (kvN D M 0).v none ∧ Below w.heap.size w wb2 from by
     have hkv : kvN D M 0 = s1.mix 1 (two D M) 64:=by rw [HS1.out.1]; rfl
     rw [hkv]
     exact ⟨HD.out.1.ext hEe,hre,Below.trans HD.out.2.2 (hEe.mono HD.out.2.2.size)⟩)
    clear hre hEe HD hbs
    go_upto_region 16 with (fail)
    obtain ⟨bl,hbl⟩ : ∃ bl,bl = wb2.heap.size:=⟨_,rfl⟩
    have hm16 : many ≤ 16:=HX.out.2.2.2.2.2.2
    go_loopw [9,10,12,13] (fun v9 v10 v12 v13 wl => ∃ i : Nat,i ≤ 100 ∧ v13 = .int .i64 (i : Int) ∧ (∀ j,j < i → (outN D M j).length < many) ∧ RSrc wl v9 (kvN D M i).k v12.ownBlock ∧ RSrc wl v10 (kvN D M i).v v12.ownBlock ∧ OwnN wl bl v12 (outN D M i) ∧ Ext wb2 wl)
     (fun _ _ _ v13 _ => 100 - (intOf v13).toNat)
    case atStart => exact ⟨0,by omega,rfl,(fun j hj => by omega),HE.out.1,HE.out.2.1,OwnN.nil _ _,Ext.refl _⟩
    case round =>
     obtain ⟨i,hi,rfl,hpre,hk,hv,hO,hE⟩:=hrel
     have ho : ∀ b,u12.ownBlock = some b → b < wr.heap.size:=fun b e => (hO.lt e).2
     obtain ⟨A,c,rfl,hnc⟩:=hO.form
     obtain ⟨n,hn⟩ : ∃ n,n = (outN D M i).length:=⟨_,rfl⟩
     rw [← hn] at hO hk hv ho ⊢
     by_cases h100 : i < 100
     ·
      have hd1 : decide ((i : Int) < 100) = true:=by simp; omega
      by_cases hlt : n < many
      ·
       have hd2 : decide ((n : Int) < (many : Int)) = true:=by simp; omega
       have hd3 : decide (n < many) = true:=decide_eq_true hlt
       have HOK:=veil (kvN_ok D M i)
       have HP:=veil hpre
       have HL:=veil (show (outN D M i).length < many from by rw [← hn]; exact hlt)
       have hl1000 : (outN D M i).length ≤ 1000:=by omega
       have HO:=veil (And.intro hO ho)
       have HK:=veil (And.intro hk (And.intro hv hE))
       clear hpre hnc hO ho hk hv hE hn hi
       go_wp2_with fail
       refine (zgw HRS.out (kvN D M i) HOK.out u9 u10 _ wr HK.out.1 HK.out.2.1 HO.out.2).mono ?_
       rintro e wa2 ⟨rv,rfl,hrv,hEa⟩
       have hrv0:=hrv
       obtain ⟨bv,ov,cv,rfl,hbv,_,hcv⟩:=hrv
       obtain ⟨Z,hZ⟩ : ∃ Z,Z = numN D M i:=⟨_,rfl⟩
       obtain ⟨m,hmZ⟩ : ∃ m,m = mayB Z:=⟨_,rfl⟩
       have HZZ:=veil (And.intro hZ (And.intro hmZ (show Z < top from by rw [hZ]; exact numN_lt D M i)))
       have KOf:=veil (show Calls Tryz.prog 68 #[.slice (some ⟨bv,ov,none⟩) 32 cv] wa2 fun e w' => e = .returned (nv Z) ∧ Ext wa2 w' from by
        rw [hZ]; exact rof_some bv ov 32 cv (nb (kvN D M i).k 32 (kvN D M i).v 32) (fun j => nb_lt _ _ _ _ j) (by decide) wa2 hbv hcv)
       have HV:=veil (And.intro hrv0 hEa)
       clear hrv0 hbv hcv hZ hmZ hEa
       go_upto_region 20 with (first
        | (go_at_call 68; refine KOf.out.mono ?_; rintro e wo ⟨rfl,hEo⟩)
        | ((with_reducible refine zbb ?_); refine wpList_store_row rfl 26 _ _ rfl wo.heap.size (nc Z) rfl rfl 26 _ (heap_alloc_last wo _) (iN Z) (by rfl) (zbd Z) ?_; rw [World.setRow_alloc_new]))
       have hz3 : (wo.alloc (.cells (nc Z) 26)).heap[wo.heap.size]? = some (.cells (nc Z) 26 (0,0)):=heap_alloc_last wo _
       have hE3 : Ext wa2 (wo.alloc (.cells (nc Z) 26)):=hEo.trans (Ext.alloc wo (.cells (nc Z) 26))
       generalize wo.alloc (.cells (nc Z) 26) = wp at *
       generalize wo.heap.size = gx at *
       have H3:=veil (And.intro hz3 (And.intro (HV.out.1.ext hE3) (HV.out.2.trans hE3)))
       have KM:=veil (may_calls Z HZZ.out.2.2 wp)
       rw [← HZZ.out.2.1] at KM
       clear hz3 hE3 hEo HV KOf hd1 hd2 hd3
       cases m with
       | false =>
        have hout : outN D M (i + 1) = outN D M i:=by
         show (if mayB (numN D M i) = true then _ else _) = _
         rw [← HZZ.out.1,← HZZ.out.2.1]; rfl
        go_wp2_with (first
         | ((with_reducible refine zar 68 ?_); refine wpList_load_row rfl 26 _ rfl gx rfl 26 (nc Z) (0,0) _ H3.out.1 Tryz.underlying26 rfl (iN Z) ?_)
         | (go_at_call 12; refine KM.out.mono ?_; rintro e wq ⟨rfl,hEq⟩))
        have hEp:=H3.out.2.2.trans hEq
        have HT:=veil (And.intro (HK.out.1.ext hEp) (And.intro (H3.out.2.1.ext hEq) (And.intro (HO.out.1.ext hEp) (HK.out.2.2.trans hEp))))
        clear hEp hEq H3 KM HK HO
        have KC1:=veil (show Calls Tryz.prog 70 #[u9,.slice (some ⟨bv,ov,none⟩) 32 cv,.slice (some ⟨wq.heap.size,0,none⟩) 1 1] (wq.alloc (.cells #[.int .u8 0] 5)) _ from
         code_tx HRS.out (⟨(kvN D M i).k,nb (kvN D M i).k 32 (kvN D M i).v 32⟩ : KV) ⟨HOK.out.k,fun j => nb_lt _ _ _ _ j⟩ u9 (.slice (some ⟨bv,ov,none⟩) 32 cv) _ 0 (by decide) none0 (fun _ => by show (0 : Nat) < 256; decide) 0 (by decide) (some ⟨wq.heap.size,0,none⟩) 1 (wq.alloc (.cells #[.int .u8 0] 5)) (HT.out.1.ext (Ext.alloc _ _)) (HT.out.2.1.ext (Ext.alloc _ _)) (src_one wq 0) (fun b e => Nat.lt_of_lt_of_le ((HT.out.2.2.1.lt e).2) (by simp)))
        refine KC1.out.mono ?_
        rintro e wu ⟨rk,rfl,hrk,hEu⟩
        have hru:=(HT.out.2.1.ext (Ext.alloc wq (.cells #[.int .u8 0] 5))).ext hEu
        have KC2:=veil (zgw HRS.out (⟨nb (kvN D M i).k 32 (tx (nb (kvN D M i).k 32 (kvN D M i).v 32) 0 none0) (33 + 0),nb (kvN D M i).k 32 (kvN D M i).v 32⟩ : KV) ⟨fun j => nb_lt _ _ _ _ j,fun j => nb_lt _ _ _ _ j⟩ rk (.slice (some ⟨bv,ov,none⟩) 32 cv) _ wu hrk hru (fun b e => Nat.lt_of_lt_of_le ((HT.out.2.2.1.lt e).2) (Nat.le_trans (by simp) hEu.size)))
        have HU:=veil (And.intro hrk hEu)
        clear hrk hEu hru KC1
        go_wp2_with fail
        refine KC2.out.mono ?_
        rintro e wx ⟨rx,rfl,hrx,hEx⟩
        have hEt : Ext wq wx:=((Ext.alloc wq (.cells #[.int .u8 0] 5)).trans HU.out.2).trans hEx
        have hOx:=HT.out.2.2.1.ext hEt
        have hEl:=Below.trans HT.out.2.2.2 (hEt.mono HT.out.2.2.2.size)
        have hrk:=HU.out.1.ext hEx
        rw [← hout] at hOx
        have HF2:=veil (show RSrc wx rk (kvN D M (i + 1)).k _ ∧ RSrc wx rx (kvN D M (i + 1)).v _ ∧ OwnN wx bl _ (outN D M (i + 1)) ∧ Ext wb2 wx from ⟨hrk,hrx,hOx,hEl⟩)
        clear KC2 HU HT hEx hEt hrx hOx hEl hrk
        go_wp2
        go_roundw
        case rel => exact ⟨i + 1,by omega,by go_num,pre_more HP.out HL.out,HF2.out.1,HF2.out.2.1,HF2.out.2.2.1,HF2.out.2.2.2⟩
        case measure => simp [intOf]; omega
       | true =>
        have hout : outN D M (i + 1) = outN D M i ++ [Z]:=by
         show (if mayB (numN D M i) = true then _ ++ _ else _) = _
         rw [← HZZ.out.1,← HZZ.out.2.1]; rfl
        have hnc4 : (nc Z).size = 4:=rfl
        go_wp2_with (first
         | ((with_reducible refine zar 68 ?_); refine wpList_load_row rfl 26 _ rfl gx rfl 26 (nc Z) (0,0) _ H3.out.1 Tryz.underlying26 rfl (iN Z) ?_)
         | (go_at_call 12; refine KM.out.mono ?_; rintro e wq ⟨rfl,hEq⟩)
         | ((with_reducible refine zar 72 ?_); refine wpList_load_row rfl 26 _ rfl gx rfl 26 (nc Z) (0,0) _ (hEq.block H3.out.1) Tryz.underlying26 rfl (iN Z) ?_)
         | ((with_reducible refine zar 74 ?_); refine wpl_append_num' rfl _ _ rfl bl (.slice A n c) (outN D M i) rfl ((HO.out.1.ext (H3.out.2.2.trans hEq)).ext (Ext.alloc _ (.cells (nc Z) 26))) wq.heap.size Z rfl (heap_alloc_last wq _) hl1000 (hbl ▸ Nat.le_trans HK.out.2.2.size (Nat.le_trans (Below.size (H3.out.2.2.trans hEq)) (by simp))) ?_; intro v12 w12 hO12 hg12 ha12))
        have hEp:=(H3.out.2.2.trans hEq).trans (Ext.alloc wq (.cells (nc Z) 26))
        have hB12 : Ext wb2 w12:=zci (HK.out.2.2.trans hEp) hg12 (Nat.le_trans HK.out.2.2.size (Below.size hEp)) (fun k e => by have:=(HO.out.1.lt e).1; omega)
        have HT:=veil (And.intro ((HK.out.1.ext hEp).grown hg12 ha12) (And.intro ((H3.out.2.1.ext (hEq.trans (Ext.alloc wq (.cells (nc Z) 26)))).grown hg12 ha12) (And.intro hO12 hB12)))
        clear hEp hEq H3 KM HK HO hO12 hg12 ha12 hB12 hnc4
        have KC1:=veil (show Calls Tryz.prog 70 #[u9,.slice (some ⟨bv,ov,none⟩) 32 cv,.slice (some ⟨w12.heap.size,0,none⟩) 1 1] (w12.alloc (.cells #[.int .u8 0] 5)) _ from
         code_tx HRS.out (⟨(kvN D M i).k,nb (kvN D M i).k 32 (kvN D M i).v 32⟩ : KV) ⟨HOK.out.k,fun j => nb_lt _ _ _ _ j⟩ u9 (.slice (some ⟨bv,ov,none⟩) 32 cv) _ 0 (by decide) none0 (fun _ => by show (0 : Nat) < 256; decide) 0 (by decide) (some ⟨w12.heap.size,0,none⟩) 1 (w12.alloc (.cells #[.int .u8 0] 5)) (HT.out.1.ext (Ext.alloc _ _)) (HT.out.2.1.ext (Ext.alloc _ _)) (src_one w12 0) (fun b e => Nat.lt_of_lt_of_le ((HT.out.2.2.1.lt e).2) (by simp)))
        refine KC1.out.mono ?_
        rintro e wu ⟨rk,rfl,hrk,hEu⟩
        have hru:=(HT.out.2.1.ext (Ext.alloc w12 (.cells #[.int .u8 0] 5))).ext hEu
        have KC2:=veil (zgw HRS.out (⟨nb (kvN D M i).k 32 (tx (nb (kvN D M i).k 32 (kvN D M i).v 32) 0 none0) (33 + 0),nb (kvN D M i).k 32 (kvN D M i).v 32⟩ : KV) ⟨fun j => nb_lt _ _ _ _ j,fun j => nb_lt _ _ _ _ j⟩ rk (.slice (some ⟨bv,ov,none⟩) 32 cv) _ wu hrk hru (fun b e => Nat.lt_of_lt_of_le ((HT.out.2.2.1.lt e).2) (Nat.le_trans (by simp) hEu.size)))
        have HU:=veil (And.intro hrk hEu)
        clear hrk hEu hru KC1
        go_wp2_with fail
        refine KC2.out.mono ?_
        rintro e wx ⟨rx,rfl,hrx,hEx⟩
        have hEt : Ext w12 wx:=((Ext.alloc w12 (.cells #[.int .u8 0] 5)).trans HU.out.2).trans hEx
        have hOx:=HT.out.2.2.1.ext hEt
        have hEl:=Below.trans HT.out.2.2.2 (hEt.mono HT.out.2.2.2.size)
        have hrk:=HU.out.1.ext hEx
        rw [← hout] at hOx
        have HF2:=veil (show RSrc wx rk (kvN D M (i + 1)).k _ ∧ RSrc wx rx (kvN D M (i + 1)).v _ ∧ OwnN wx bl _ (outN D M (i + 1)) ∧ Ext wb2 wx from ⟨hrk,hrx,hOx,hEl⟩)
        clear KC2 HU HT hEx hEt hrx hOx hEl hrk
        go_wp2
        go_roundw
        case rel => exact ⟨i + 1,by omega,by go_num,pre_more HP.out HL.out,HF2.out.1,HF2.out.2.1,HF2.out.2.2.1,HF2.out.2.2.2⟩
        case measure => simp [intOf]; omega
      ·
       have hd2 : decide ((n : Int) < (many : Int)) = false:=by simp; omega
       have hd3 : decide (n < many) = false:=decide_eq_false hlt
       have hEnd:=veil (show Ends D M many i from ⟨hi,hpre,.inr (by rw [← hn]; exact hlt)⟩)
       have HO:=veil (And.intro hO hE)
       clear hpre hnc hO ho hk hv hE hn
       go_wp2
       go_ret
       exact ⟨i,_,hEnd.out,rfl,HO.out.1.base_le (hbl ▸ HE.out.2.2.size),Below.trans HE.out.2.2 (HO.out.2.mono HE.out.2.2.size)⟩
     ·
      have hd1 : decide ((i : Int) < 100) = false:=by simp; omega
      obtain rfl : i = 100:=by omega
      have hEnd:=veil (show Ends D M many 100 from ⟨Nat.le_refl _,hpre,.inl rfl⟩)
      have HO:=veil (And.intro hO hE)
      clear hpre hnc hO ho hk hv hE hn
      go_wp2
      go_ret
      exact ⟨100,_,hEnd.out,rfl,HO.out.1.base_le (hbl ▸ HE.out.2.2.size),Below.trans HE.out.2.2 (HO.out.2.mono HE.out.2.2.size)⟩
def pick (D E : Nat) : List Nat → Option (Nat × Nat)
 | [] => none
 | k :: l => if (mayB (Pt.rOf k) && mayB (Pt.sOf D E k)) = true then some (Pt.rOf k,Pt.sOf D E k) else pick D E l
def sigOf (D E : Nat) (xs : List Nat) : Option (Nat × Nat):=if xs.length < 16 then none else pick D E xs
theorem pick_yes {D E k : Nat} {l : List Nat} (h1 : mayB (Pt.rOf k) = true) (h2 : mayB (Pt.sOf D E k) = true) : pick D E (k :: l) = some (Pt.rOf k,Pt.sOf D E k):=by
 show (if _ then _ else _) = _
 rw [h1,h2]; rfl
theorem pick_no {D E k : Nat} {l : List Nat} (h : (mayB (Pt.rOf k) && mayB (Pt.sOf D E k)) = false) : pick D E (k :: l) = pick D E l:=by
 show (if _ then _ else _) = _
 rw [h]; rfl
def sgv : Option (Nat × Nat) → Value
 | none => gv 0 0
 | some (r,s) => gv r s
theorem OwnN.blk {w : World} {base : Nat} {v : Value} {xs : List Nat} (o : OwnN w base v xs) (hn : 0 < xs.length) : ∃ g cap cur,v = .slice (some ⟨g,0,none⟩) xs.length cap ∧ w.heap[g]? = some (.cells cur 26 (0,0)) ∧ ∀ i k,xs[i]? = some k → (cur.toList.drop (i * 4)).take 4 = (nc k).toList:=by
 rcases o.2 with ⟨_,h0⟩ | ⟨g,cap,cur,rfl,hbg,hh,hn,hm,hs,ht⟩
 ·
  omega
 ·
  refine ⟨g,cap,cur,rfl,hh,fun i k hk => ?_⟩
  have hi : i < xs.length:=(List.getElem?_eq_some_iff.1 hk).1
  have h1:=cellsN_at xs i k hk
  rw [← h1,← ht,List.drop_take,List.take_take,show min 4 (xs.length * 4 - i * 4) = 4 by omega]
theorem gc_zero : #[Value.int .u64 0,vI vU 0,vI vU 0,vI vU 0,vI vU 0,vI vU 0,vI vU 0,vI vU 0] = gc 0 0:=by
 unfold gc
 rw [zfa,zfa,zfa,zfa]
theorem drop_at {xs : List Nat} {i k : Nat} (h : xs[i]? = some k) : xs.drop i = k :: xs.drop (i + 1):=by
 obtain ⟨hi,rfl⟩:=List.getElem?_eq_some_iff.1 h
 exact List.drop_eq_getElem_cons hi
theorem rsign_calls (RS : RSum) (D : Nat) (hD : mayB D = true) (y : Nat → Nat) (hy : ∀ j,y j < 256) (w : World) :
  Calls Tryz.prog 13 #[nv D,dgv y] w fun e w' => ∃ s o,Ends D (num32 y % Pt.nn) 16 s ∧ sigOf D (num32 y) (outN D (num32 y % Pt.nn) s) = o ∧ e = .returned (.tuple #[sgv o,.bool o.isSome]) ∧ Ext w w':=by
 obtain ⟨E,hE⟩ : ∃ E,E = num32 y:=⟨_,rfl⟩
 obtain ⟨M,hM⟩ : ∃ M,M = num32 y % Pt.nn:=⟨_,rfl⟩
 have KL:=veil (fun W => rlist_calls RS D y hy 16 (by decide) W)
 have kM:=veil hM
 have kEE:=veil hE
 rw [← hM] at KL ⊢
 rw [← hE]
 have kD:=veil (Nat.lt_trans (zhw hD) zcf)
 have ky:=veil hy
 clear hD hy hM hE RS
 show Calls _ _ #[.agg (nc D),.agg (dgc y)] w _
 obtain ⟨C,hC⟩ : ∃ C,C = nc D:=⟨_,rfl⟩
 obtain ⟨F,hF⟩ : ∃ F,F = dgc y:=⟨_,rfl⟩
 rw [← hC,← hF]
 have HC:=veil hC
 have HF:=veil hF
 rw [show nv D = .agg C from by rw [hC]; rfl,show (Value.agg (arrOf 32 fun i => .int .u8 (y i : Nat))) = .agg F from by rw [hF]; rfl] at KL
 have KL2:=veil (fun W => show Calls Tryz.prog 32 #[.agg C,.agg F,.int .i64 16] W (fun e w' => ∃ s v,Ends D M 16 s ∧ e = .returned v ∧ OwnN w' W.heap.size v (outN D M s) ∧ Ext W w') from KL.out W)
 clear hC hF KL
 go_enter Tryz.func13,Tryz.ntmps13
 go_upto_region 1 with (fail)
 have hx:=Ext.alloc w (.cells C 26)
 have b0 : (w.alloc (.cells C 26)).heap[w.heap.size]? = some (.cells C 26 (0,0)):=heap_alloc_last w _
 have z1 : (w.alloc (.cells C 26)).heap.size = w.heap.size + 1:=by simp
 generalize w.alloc (.cells C 26) = w1 at *
 have hx2:=Ext.alloc w1 (.cells F 43)
 have b1 : (w1.alloc (.cells F 43)).heap[w.heap.size + 1]? = some (.cells F 43 (0,0)):=by rw [← z1]; exact heap_alloc_last w1 _
 have z2 : (w1.alloc (.cells F 43)).heap.size = w.heap.size + 1 + 1:=by simp [z1]
 replace b0:=hx2.block b0
 replace hx:=hx.trans hx2
 clear z1 hx2
 generalize w1.alloc (.cells F 43) = w2 at *
 rw [gc_zero]
 have hx3:=Ext.alloc w2 (.cells (gc 0 0) 39)
 have b2 : (w2.alloc (.cells (gc 0 0) 39)).heap[w.heap.size + 1 + 1]? = some (.cells (gc 0 0) 39 (0,0)):=by rw [← z2]; exact heap_alloc_last w2 _
 replace b0:=hx3.block b0
 replace b1:=hx3.block b1
 replace hx:=hx.trans hx3
 clear z2 hx3
 generalize w2.alloc (.cells (gc 0 0) 39) = w3 at *
 have H3:=veil (And.intro b0 (And.intro b1 (And.intro b2 hx)))
 clear b0 b1 b2 hx
 go_upto_region 2 with (first
  | (go_at_call 31; refine (nn_is _).mono ?_; rintro e w4 ⟨rfl,hE4⟩)
  | ((with_reducible refine zbb ?_); refine wpList_store_row rfl 26 _ _ rfl w4.heap.size (nc Pt.nn) rfl rfl 26 _ (heap_alloc_last w4 _) (iN _) (by rfl) (zbd _) ?_; rw [World.setRow_alloc_new]))
 have bN : (w4.alloc (.cells (nc Pt.nn) 26)).heap[w4.heap.size]? = some (.cells (nc Pt.nn) 26 (0,0)):=heap_alloc_last w4 _
 have hE5:=hE4.trans (Ext.alloc w4 (.cells (nc Pt.nn) 26))
 generalize w4.alloc (.cells (nc Pt.nn) 26) = w5 at *
 generalize w4.heap.size = gN at *
 have H5:=veil (And.intro (hE5.block H3.out.1) (And.intro (hE5.block H3.out.2.1) (And.intro (hE5.block H3.out.2.2.1) (And.intro bN (H3.out.2.2.2.trans hE5)))))
 clear bN hE4 hE5 H3
 go_upto_region 3 with (first
  | ((with_reducible refine zar 17 ?_); refine wpList_load_row rfl 26 _ rfl w.heap.size rfl 26 C (0,0) _ H5.out.1 Tryz.underlying26 rfl (by rw [HC.out]; exact iN D) ?_)
  | ((with_reducible refine zar 18 ?_); refine wpList_load_row rfl 43 _ rfl (w.heap.size + 1) rfl 43 F (0,0) _ H5.out.2.1 Tryz.underlying43 rfl (by rw [HF.out]; exact iDg y) ?_)
  | (go_at_call 32; refine (KL2.out _).mono ?_; rintro e w6 ⟨s',v,hEn,rfl,hO,hE6⟩))
 obtain ⟨b0,b1,b2,bN,hx⟩:=H5.out
 replace b0:=hE6.block b0
 replace b1:=hE6.block b1
 replace b2:=hE6.block b2
 replace bN:=hE6.block bN
 replace hx:=hx.trans hE6
 rw [HC.out] at b0
 rw [HF.out] at b1
 clear hE6 H5 KL2
 obtain ⟨xs,hxs⟩ : ∃ xs,xs = outN D M s':=⟨_,rfl⟩
 have hmx : ∀ k ∈ xs,mayB k = true:=fun k hk => by rw [hxs] at hk; exact (zju D M s' k hk).1
 have kxs:=veil hxs
 have kE:=veil hEn
 rw [← hxs] at hO
 clear hxs hEn
 obtain ⟨n,hn⟩ : ∃ n,n = xs.length:=⟨_,rfl⟩
 by_cases h16 : n < 16
 ·
  obtain ⟨A,c,rfl,_⟩:=hO.form
  rw [← hn]
  have hd : decide ((n : Int) < 16) = true:=by simp; omega
  have hd2 : decide (n < 16) = true:=decide_eq_true h16
  have ks:=veil (show sigOf D E xs = none from if_pos (by rw [← hn]; exact h16))
  clear hO hmx hn
  go_wp2_with ((with_reducible refine zbb ?_); rw [gc_zero]; refine wpList_store_row rfl 39 _ _ rfl (w.heap.size + 1 + 1) (gc 0 0) rfl rfl 39 _ b2 (iSg _ _) rfl (zcp _ _) ?_)
  exact bodyPost_ret (zbf rfl _ _ (w.heap.size + 1 + 1) 39 (gc 0 0) (0,0) _ rfl (setRow_heap w6 _ _ (gc 0 0) 39 (0,0) b2) Tryz.underlying39 rfl (iSg _ _)) rfl ⟨s',none,kE.out,by rw [← kxs.out]; exact ks.out,rfl,zca hx (by omega) _⟩
 ·
  obtain ⟨gL,cap,cur,rfl,bL,hcs⟩:=hO.blk (by omega)
  rw [← hn]
  have hd : decide ((n : Int) < 16) = false:=by simp; omega
  have hd2 : decide (n < 16) = false:=decide_eq_false h16
  have kCS:=veil (And.intro hcs (And.intro hmx (And.intro hn (show sigOf D E xs = pick D E xs from if_neg (by rw [← hn]; exact h16)))))
  have kX:=veil hx
  clear hO hmx hcs hn hx
  go_upto_region 6 with (fail)
  clear hd hd2
  go_loopw [8] (fun v wr => ∃ i : Nat,i ≤ n ∧ v = .int .i64 (i : Int) ∧ pick D E xs = pick D E (xs.drop i) ∧ Ext w6 wr)
   (fun v _ => n - (intOf v).toNat)
  case atStart => exact ⟨0,by omega,rfl,rfl,Ext.refl _⟩
  case round =>
   obtain ⟨i,hi,rfl,hpk,hx⟩:=hrel
   replace b0:=hx.block b0
   replace b1:=hx.block b1
   replace b2:=hx.block b2
   replace bN:=hx.block bN
   replace bL:=hx.block bL
   by_cases hlt : i < n
   ·
    have hn100 : n ≤ 100:=by have:=kE.out.most; have h1:=kCS.out.2.2.1; rw [kxs.out] at h1; omega
    obtain ⟨K,hK⟩ : ∃ K,xs[i]? = some K:=⟨_,List.getElem?_eq_getElem (by rw [← kCS.out.2.2.1]; exact hlt)⟩
    have hmK:=kCS.out.2.1 K (List.mem_of_getElem? hK)
    have kK:=veil (And.intro (may_ne hmK) (zhw hmK))
    have kil:=veil hlt
    have kcs:=veil (kCS.out.1 i K hK)
    have kdrop:=veil (drop_at hK)
    have kpick:=veil hpk
    obtain ⟨P,hP⟩ : ∃ P,P = Pt.grp.mul K Pt.base:=⟨_,rfl⟩
    obtain ⟨r,hr⟩ : ∃ r,r = Pt.pX P.1 % Pt.nn:=⟨_,rfl⟩
    obtain ⟨t,ht⟩ : ∃ t,t = Pt.iG Pt.nn K:=⟨_,rfl⟩
    obtain ⟨u,hu⟩ : ∃ u,u = r * D % Pt.nn:=⟨_,rfl⟩
    obtain ⟨v,hv⟩ : ∃ v,v = (M + u) % Pt.nn:=⟨_,rfl⟩
    obtain ⟨s,hs⟩ : ∃ s,s = t * v % Pt.nn:=⟨_,rfl⟩
    have kr1:=veil (show r = Pt.rOf K from by rw [hr,hP]; rfl)
    have ks1:=veil (show s = Pt.sOf D E K from by
     unfold Pt.sOf
     rw [hs,hv,hu,ht,← kr1.out,kM.out,kEE.out])
    have kP:=veil hP
    have kr:=veil hr
    have kt:=veil ht
    have ku:=veil hu
    have kv:=veil hv
    have ks:=veil hs
    have hI : (i : Int) < (n : Int):=by omega
    clear hs hv hu ht hr hP hpk hmK hK
    go_upto_region 8 with (fail)
    refine' zbx (m:=6) (A:=_) 7 (by kernel_rfl) (by kernel_rfl) (by kernel_rfl) ?h1 ?h2
    case h1 =>
     refine zaa (.slice (some ⟨gL,0,none⟩) n cap) rfl (zap (.inl rfl) rfl) ?_
     refine zaa (.int .i64 (i : Int)) rfl (zap (.inl rfl) rfl) ?_;simp only [aP,lA,lZ,lS]
     refine zaa (.pointer (some ⟨gL,i * 4,none⟩)) rfl (zjd (sz:=4) rfl rfl rfl kil.out Tryz.underlying73 infoN4) ?_
     refine zaa (nv K) rfl (zad (cs:=(nc K).toList) rfl rfl bL kcs.out uN rfl (iN K)) ?_;simp only [aP,lA,lZ,lS]
     refine zaa (qv Pt.gx Pt.gy false) rfl (zam (args:=[]) rfl rfl (fun W => zae Tryz.func34 rfl rfl _ W) (fun W hW => rbase_is W)) ?_
     refine zaa (qv (Pt.pX P.1) (Pt.pY P.1) (Pt.pFar P.1)) rfl (zam (args:=[nv K,qv Pt.gx Pt.gy false]) rfl rfl (fun W => zae Tryz.func33 rfl rfl _ W) (fun W hW => rmulb_is (Nat.lt_trans kK.out.2 zcf) kP.out W)) ?_;simp only [aP,lA,lZ,lS]
     exact zan
    refine zcm _ _ rfl rfl rfl rfl rfl rfl rfl rfl rfl (by kernel_rfl) (by kernel_rfl) (by kernel_rfl) rfl rfl (hzT ·) (fun _ => rfl) (fun _ => rfl) (iT _ _ _) rfl (qc_one _ _ _) ?_
    intro gp w2 hgp bp hE
    refine NoPanic.normal ?_
    replace b0:=hE.block b0
    replace b1:=hE.block b1
    replace b2:=hE.block b2
    replace bN:=hE.block bN
    replace bL:=hE.block bL
    replace hx:=hx.trans hE
    clear hE
    simp only [aP,lA,lZ,lS]
    clear hgp
    go_upto_region 9 with (fail)
    refine' zaq (m:=4) (A:=_) (by kernel_rfl) ?h2a ?h2b
    case h2a =>
     refine zaa (ptrTo gp) rfl (zaf rfl rfl (fldT0 _ ·)) ?_
     refine zaa (nv (Pt.pX P.1)) rfl (zad rfl rfl bp rfl uN rfl (iN _)) ?_;simp only [aP,lA,lZ,lS]
     refine zaa (nv Pt.nn) rfl (zad rfl rfl bN rfl uN rfl (iN _)) ?_
     refine zaa (nv r) rfl (zam (args:=[nv (Pt.pX P.1),nv Pt.nn]) rfl rfl (fun W => zae Tryz.func35 rfl rfl _ W) (fun W hW => rinn_is kr.out (p_top _).1 W)) ?_;simp only [aP,lA,lZ,lS]
     exact zan
    refine zck _ _ rfl rfl rfl rfl rfl rfl rfl (hzN ·) (fun _ => rfl) (fun _ => rfl) (iN _) rfl (zbd _) ?_
    intro gr w3 hgr br hE
    replace b0:=hE.block b0
    replace b1:=hE.block b1
    replace b2:=hE.block b2
    replace bN:=hE.block bN
    replace bL:=hE.block bL
    replace hx:=hx.trans hE
    clear hE
    simp only [aP,lA,lZ,lS]
    clear hgr
    go_upto_region 10 with (fail)
    refine' zbx (m:=8) (A:=_) 10 (by kernel_rfl) (by kernel_rfl) (by kernel_rfl) ?h3a ?h3b
    case h3a =>
     refine zaa (.slice (some ⟨gL,0,none⟩) n cap) rfl (zap (.inl rfl) rfl) ?_
     refine zaa (.int .i64 (i : Int)) rfl (zap (.inl rfl) rfl) ?_;simp only [aP,lA,lZ,lS]
     refine zaa (.pointer (some ⟨gL,i * 4,none⟩)) rfl (zjd (sz:=4) rfl rfl rfl kil.out Tryz.underlying73 infoN4) ?_
     refine zaa (nv K) rfl (zad (cs:=(nc K).toList) rfl rfl bL kcs.out uN rfl (iN K)) ?_;simp only [aP,lA,lZ,lS]
     refine zaa (nv Pt.nn) rfl (zad rfl rfl bN rfl uN rfl (iN _)) ?_
     refine zaa (.tuple #[nv t,.bool true]) rfl (zam (args:=[nv K,nv Pt.nn]) rfl rfl (fun W => zae Tryz.func36 rfl rfl _ W) (fun W hW => rinvn_is kK.out.1 kK.out.2 kt.out W)) ?_;simp only [aP,lA,lZ,lS]
     refine zaa (.tuple #[nv t,.bool true]) rfl (zap (.inl rfl) rfl) ?_
     refine zaa (nv t) rfl (zcs rfl rfl rfl) ?_;simp only [aP,lA,lZ,lS]
     exact zan
    refine rest_var2 (v:=.bool true) (vx:=.bool true) _ _ _ _ rfl rfl rfl rfl rfl rfl rfl rfl rfl rfl rfl rfl rfl rfl rfl rfl (by decide) (by kernel_rfl) (by kernel_rfl) (by kernel_rfl) (by kernel_rfl) (by kernel_rfl) (by kernel_rfl) (by kernel_rfl) rfl rfl rfl rfl rfl rfl (hzN ·) (run_ext rfl rfl rfl) (fun _ => run_ext rfl rfl rfl) (fun _ => rfl) (fun _ => rfl) (fun _ => rfl) (fun _ => rfl) (fun _ => rfl) (iN _) rfl (zbd _) ?_
    intro gt w4 hgt bt hE
    refine NoPanic.normal ?_
    replace b0:=hE.block b0
    replace b1:=hE.block b1
    replace b2:=hE.block b2
    replace bN:=hE.block bN
    replace br:=hE.block br
    replace hx:=hx.trans hE
    clear hE
    simp only [aP,lA,lZ,lS]
    clear hgt
    go_upto_region 11 with (fail)
    refine' zbx (m:=9) (A:=_) 10 (by kernel_rfl) (by kernel_rfl) (by kernel_rfl) ?h4a ?h4b
    case h4a =>
     refine zaa (nv t) rfl (zad rfl rfl bt rfl uN rfl (iN _)) ?_
     refine zaa (dgv y) rfl (zad rfl rfl b1 rfl Tryz.underlying43 rfl (iDg _)) ?_;simp only [aP,lA,lZ,lS]
     refine zaa (nv M) rfl (zam (args:=[dgv y]) rfl rfl (fun W => zae Tryz.func39 rfl rfl _ W) (fun W hW => vnum_calls y ky.out rfl kM.out W)) ?_
     refine zaa (nv r) rfl (zad rfl rfl br rfl uN rfl (iN _)) ?_;simp only [aP,lA,lZ,lS]
     refine zaa (nv D) rfl (zad rfl rfl b0 rfl uN rfl (iN _)) ?_
     refine zaa (nv u) rfl (zam (args:=[nv r,nv D]) rfl rfl (fun W => zae Tryz.func37 rfl rfl _ W) (fun W hW => vmul_calls ku.out (mod_nn kr.out) kD.out W)) ?_;simp only [aP,lA,lZ,lS]
     refine zaa (nv Pt.nn) rfl (zad rfl rfl bN rfl uN rfl (iN _)) ?_
     refine zaa (nv v) rfl (zam (args:=[nv M,nv u,nv Pt.nn]) rfl rfl (fun W => zae Tryz.func38 rfl rfl _ W) (fun W hW => raddn_is kv.out (mod_nn kM.out) (mod_nn ku.out) W)) ?_;simp only [aP,lA,lZ,lS]
     refine zaa (nv s) rfl (zam (args:=[nv t,nv v]) rfl rfl (fun W => zae Tryz.func37 rfl rfl _ W) (fun W hW => vmul_calls ks.out (inv_nn kt.out) (zcn kv.out) W)) ?_;simp only [aP,lA,lZ,lS]
     exact zan
    refine zcm _ _ rfl rfl rfl rfl rfl rfl rfl rfl rfl (by kernel_rfl) (by kernel_rfl) (by kernel_rfl) rfl rfl (hzN ·) (fun _ => rfl) (fun _ => rfl) (iN _) rfl (zbd _) ?_
    intro gs w5 hgs bs hE
    refine NoPanic.normal ?_
    replace b2:=hE.block b2
    replace br:=hE.block br
    replace hx:=hx.trans hE
    clear hE
    simp only [aP,lA,lZ,lS]
    clear hgs
    go_upto_region 12 with (fail)
    cases hmr : mayB r with
    | false =>
     cases hms : mayB s with
     | false =>
      have kmr:=veil hmr
      have kms:=veil hms
      clear hmr hms
      refine' zaq (m:=3) (A:=_) (by kernel_rfl) ?h5a ?h5b
      case h5a =>
       refine zaa (nv r) rfl (zad rfl rfl br rfl uN rfl (iN _)) ?_
       refine zaa (.bool false) rfl (zam (args:=[nv r]) rfl rfl (fun W => zae Tryz.func12 rfl rfl _ W) (fun W hW => zgb kmr.out (zcn kr.out) W)) ?_;simp only [aP,lA,lZ,lS]
       refine zaa (.bool false) rfl (zap (.inr rfl) rfl) ?_;simp only [aP,lA,lZ,lS]
       exact zan
      refine zau rfl ?_
      intro w6 hE
      replace b2:=hE.block b2
      replace br:=hE.block br
      replace bs:=hE.block bs
      replace hx:=hx.trans hE
      clear hE
      go_upto_region 13 with (fail)
      refine' zaq (m:=3) (A:=_) (by kernel_rfl) ?h6a ?h6b
      case h6a =>
       refine zaa (nv s) rfl (zad rfl rfl bs rfl uN rfl (iN _)) ?_
       refine zaa (.bool false) rfl (zam (args:=[nv s]) rfl rfl (fun W => zae Tryz.func12 rfl rfl _ W) (fun W hW => zgb kms.out (zcn ks.out) W)) ?_;simp only [aP,lA,lZ,lS]
       refine zaa (.bool false) rfl (zap (.inr rfl) rfl) ?_;simp only [aP,lA,lZ,lS]
       exact zan
      refine zau rfl ?_
      intro w7 hE
      replace b2:=hE.block b2
      replace br:=hE.block br
      replace bs:=hE.block bs
      replace hx:=hx.trans hE
      clear hE
      go_upto_region 14 with (fail)
      refine' zff (m:=4) (A:=_) ?h7a ?h7b
      case h7a =>
       refine zaa (.bool false) rfl (zap (.inl rfl) rfl) ?_
       refine zaa (.bool false) rfl (zap (.inl rfl) rfl) ?_;simp only [aP,lA,lZ,lS]
       refine zcb rfl ?_
       refine zaa (.bool false) rfl (zbu rfl rfl rfl) ?_;simp only [aP,lA,lZ,lS]
       exact zan
      refine zau rfl ?_
      intro w8 hE
      replace b2:=hE.block b2
      replace br:=hE.block br
      replace bs:=hE.block bs
      replace hx:=hx.trans hE
      clear hE
      go_wp2
      go_roundw
      case rel =>
       exact ⟨i + 1,by omega,by go_num,by rw [kpick.out,kdrop.out,pick_no (by rw [← kr1.out,← ks1.out,kmr.out,kms.out]; rfl)],hx⟩
      case measure => simp [intOf]; omega
     | true =>
      have kmr:=veil hmr
      have kms:=veil hms
      clear hmr hms
      refine' zaq (m:=3) (A:=_) (by kernel_rfl) ?h8a ?h8b
      case h8a =>
       refine zaa (nv r) rfl (zad rfl rfl br rfl uN rfl (iN _)) ?_
       refine zaa (.bool false) rfl (zam (args:=[nv r]) rfl rfl (fun W => zae Tryz.func12 rfl rfl _ W) (fun W hW => zgb kmr.out (zcn kr.out) W)) ?_;simp only [aP,lA,lZ,lS]
       refine zaa (.bool false) rfl (zap (.inr rfl) rfl) ?_;simp only [aP,lA,lZ,lS]
       exact zan
      refine zau rfl ?_
      intro w6 hE
      replace b2:=hE.block b2
      replace br:=hE.block br
      replace bs:=hE.block bs
      replace hx:=hx.trans hE
      clear hE
      go_upto_region 13 with (fail)
      refine' zaq (m:=3) (A:=_) (by kernel_rfl) ?h9a ?h9b
      case h9a =>
       refine zaa (nv s) rfl (zad rfl rfl bs rfl uN rfl (iN _)) ?_
       refine zaa (.bool true) rfl (zam (args:=[nv s]) rfl rfl (fun W => zae Tryz.func12 rfl rfl _ W) (fun W hW => zgb kms.out (zcn ks.out) W)) ?_;simp only [aP,lA,lZ,lS]
       refine zaa (.bool true) rfl (zap (.inr rfl) rfl) ?_;simp only [aP,lA,lZ,lS]
       exact zan
      refine zau rfl ?_
      intro w7 hE
      replace b2:=hE.block b2
      replace br:=hE.block br
      replace bs:=hE.block bs
      replace hx:=hx.trans hE
      clear hE
      go_upto_region 14 with (fail)
      refine' zff (m:=4) (A:=_) ?h10a ?h10b
      case h10a =>
       refine zaa (.bool false) rfl (zap (.inl rfl) rfl) ?_
       refine zaa (.bool false) rfl (zap (.inl rfl) rfl) ?_;simp only [aP,lA,lZ,lS]
       refine zcb rfl ?_
       refine zaa (.bool false) rfl (zbu rfl rfl rfl) ?_;simp only [aP,lA,lZ,lS]
       exact zan
      refine zau rfl ?_
      intro w8 hE
      replace b2:=hE.block b2
      replace br:=hE.block br
      replace bs:=hE.block bs
      replace hx:=hx.trans hE
      clear hE
      go_wp2
      go_roundw
      case rel =>
       exact ⟨i + 1,by omega,by go_num,by rw [kpick.out,kdrop.out,pick_no (by rw [← kr1.out,← ks1.out,kmr.out,kms.out]; rfl)],hx⟩
      case measure => simp [intOf]; omega
    | true =>
     cases hms : mayB s with
     | false =>
      have kmr:=veil hmr
      have kms:=veil hms
      clear hmr hms
      refine' zaq (m:=3) (A:=_) (by kernel_rfl) ?h11a ?h11b
      case h11a =>
       refine zaa (nv r) rfl (zad rfl rfl br rfl uN rfl (iN _)) ?_
       refine zaa (.bool true) rfl (zam (args:=[nv r]) rfl rfl (fun W => zae Tryz.func12 rfl rfl _ W) (fun W hW => zgb kmr.out (zcn kr.out) W)) ?_;simp only [aP,lA,lZ,lS]
       refine zaa (.bool true) rfl (zap (.inr rfl) rfl) ?_;simp only [aP,lA,lZ,lS]
       exact zan
      refine zau rfl ?_
      intro w6 hE
      replace b2:=hE.block b2
      replace br:=hE.block br
      replace bs:=hE.block bs
      replace hx:=hx.trans hE
      clear hE
      go_upto_region 13 with (fail)
      refine' zaq (m:=3) (A:=_) (by kernel_rfl) ?h12a ?h12b
      case h12a =>
       refine zaa (nv s) rfl (zad rfl rfl bs rfl uN rfl (iN _)) ?_
       refine zaa (.bool false) rfl (zam (args:=[nv s]) rfl rfl (fun W => zae Tryz.func12 rfl rfl _ W) (fun W hW => zgb kms.out (zcn ks.out) W)) ?_;simp only [aP,lA,lZ,lS]
       refine zaa (.bool false) rfl (zap (.inr rfl) rfl) ?_;simp only [aP,lA,lZ,lS]
       exact zan
      refine zau rfl ?_
      intro w7 hE
      replace b2:=hE.block b2
      replace br:=hE.block br
      replace bs:=hE.block bs
      replace hx:=hx.trans hE
      clear hE
      go_upto_region 14 with (fail)
      refine' zff (m:=4) (A:=_) ?h13a ?h13b
      case h13a =>
       refine zaa (.bool true) rfl (zap (.inl rfl) rfl) ?_
       refine zaa (.bool true) rfl (zap (.inl rfl) rfl) ?_;simp only [aP,lA,lZ,lS]
       refine zbe (.bool false) rfl (zap (.inl rfl) rfl) ?_
       refine zaa (.bool false) rfl (zbu rfl rfl rfl) ?_;simp only [aP,lA,lZ,lS]
       exact zan
      refine zau rfl ?_
      intro w8 hE
      replace b2:=hE.block b2
      replace br:=hE.block br
      replace bs:=hE.block bs
      replace hx:=hx.trans hE
      clear hE
      go_wp2
      go_roundw
      case rel =>
       exact ⟨i + 1,by omega,by go_num,by rw [kpick.out,kdrop.out,pick_no (by rw [← kr1.out,← ks1.out,kmr.out,kms.out]; rfl)],hx⟩
      case measure => simp [intOf]; omega
     | true =>
      have kmr:=veil hmr
      have kms:=veil hms
      clear hmr hms
      refine' zaq (m:=3) (A:=_) (by kernel_rfl) ?h14a ?h14b
      case h14a =>
       refine zaa (nv r) rfl (zad rfl rfl br rfl uN rfl (iN _)) ?_
       refine zaa (.bool true) rfl (zam (args:=[nv r]) rfl rfl (fun W => zae Tryz.func12 rfl rfl _ W) (fun W hW => zgb kmr.out (zcn kr.out) W)) ?_;simp only [aP,lA,lZ,lS]
       refine zaa (.bool true) rfl (zap (.inr rfl) rfl) ?_;simp only [aP,lA,lZ,lS]
       exact zan
      refine zau rfl ?_
      intro w6 hE
      replace b2:=hE.block b2
      replace br:=hE.block br
      replace bs:=hE.block bs
      replace hx:=hx.trans hE
      clear hE
      go_upto_region 13 with (fail)
      refine' zaq (m:=3) (A:=_) (by kernel_rfl) ?h15a ?h15b
      case h15a =>
       refine zaa (nv s) rfl (zad rfl rfl bs rfl uN rfl (iN _)) ?_
       refine zaa (.bool true) rfl (zam (args:=[nv s]) rfl rfl (fun W => zae Tryz.func12 rfl rfl _ W) (fun W hW => zgb kms.out (zcn ks.out) W)) ?_;simp only [aP,lA,lZ,lS]
       refine zaa (.bool true) rfl (zap (.inr rfl) rfl) ?_;simp only [aP,lA,lZ,lS]
       exact zan
      refine zau rfl ?_
      intro w7 hE
      replace b2:=hE.block b2
      replace br:=hE.block br
      replace bs:=hE.block bs
      replace hx:=hx.trans hE
      clear hE
      go_upto_region 14 with (fail)
      refine' zff (m:=4) (A:=_) ?h16a ?h16b
      case h16a =>
       refine zaa (.bool true) rfl (zap (.inl rfl) rfl) ?_
       refine zaa (.bool true) rfl (zap (.inl rfl) rfl) ?_;simp only [aP,lA,lZ,lS]
       refine zbe (.bool true) rfl (zap (.inl rfl) rfl) ?_
       refine zaa (.bool true) rfl (zbu rfl rfl rfl) ?_;simp only [aP,lA,lZ,lS]
       exact zan
      refine zau rfl ?_
      intro w8 hE
      replace b2:=hE.block b2
      replace br:=hE.block br
      replace bs:=hE.block bs
      replace hx:=hx.trans hE
      clear hE
      go_upto_region 15 with (fail)
      refine' zaq (m:=3) (A:=_) (by kernel_rfl) ?h17a ?h17b
      case h17a =>
       refine zaa (nv r) rfl (zad rfl rfl br rfl uN rfl (iN _)) ?_
       refine zaa (nv s) rfl (zad rfl rfl bs rfl uN rfl (iN _)) ?_;simp only [aP,lA,lZ,lS]
       refine zaa (gv r s) rfl (zba (vs:=[(0,nv r),(1,nv s)]) rfl rfl (fun W => bldG W _ _)) ?_;simp only [aP,lA,lZ,lS]
       exact zan
      refine zdk _ rfl rfl rfl rfl rfl rfl b2 (iSg _ _) rfl (zcp _ _) ?_
      intro w9 hB hb
      go_wp2
      refine bodyPost_ret (zbf rfl _ _ (w.heap.size + 1 + 1) 39 (gc r s) (0,0) _ rfl hb Tryz.underlying39 rfl (iSg _ _)) rfl ⟨s',some (r,s),kE.out,?_,rfl,(kX.out.trans hx).new hB (by omega)⟩
      rw [← kxs.out,kCS.out.2.2.2,kpick.out,kdrop.out,pick_yes (by rw [← kr1.out]; exact kmr.out) (by rw [← ks1.out]; exact kms.out),← kr1.out,← ks1.out]
   ·
    obtain rfl : i = n:=by omega
    have kn:=veil (show sigOf D E xs = none from by
     rw [kCS.out.2.2.2,hpk,List.drop_eq_nil_of_le (by rw [← kCS.out.2.2.1]; exact Nat.le_refl _)]; rfl)
    clear hpk hi hlt
    go_wp2_with ((with_reducible refine zbb ?_); rw [gc_zero]; refine wpList_store_row rfl 39 _ _ rfl (w.heap.size + 1 + 1) (gc 0 0) rfl rfl 39 _ b2 (iSg _ _) rfl (zcp _ _) ?_)
    exact bodyPost_ret (zbf rfl _ _ (w.heap.size + 1 + 1) 39 (gc 0 0) (0,0) _ rfl (setRow_heap wr _ _ (gc 0 0) 39 (0,0) b2) Tryz.underlying39 rfl (iSg _ _)) rfl ⟨s',none,kE.out,by rw [← kxs.out]; exact kn.out,rfl,zca (kX.out.trans hx) (by omega) _⟩
section
variable {P : Program} {o : Oper} {a : Act} {w : World}
end
theorem sig_top {D E r s : Nat} {l : List Nat} (h : pick D E l = some (r,s)) : r < top ∧ s < top:=by
 induction l with
 | nil => cases h
 | cons k l ih =>
  unfold pick at h
  split at h
  ·
   injection h with h
   injection h with h1 h2
   rename_i hc
   simp only [Bool.and_eq_true] at hc
   rw [← h1,← h2]
   exact ⟨Nat.lt_trans (zhw hc.1) zcf,Nat.lt_trans (zhw hc.2) zcf⟩
  ·
   exact ih h
theorem sigOf_top {D E r s : Nat} {l : List Nat} (h : sigOf D E l = some (r,s)) : r < top ∧ s < top:=by
 unfold sigOf at h
 split at h
 ·
  cases h
 ·
  exact sig_top h
end Go.Proofs.YtedehdbajiaaiaaGreatDoor
namespace Go.Proofs.YtedehdbajiaaiaaGreatDoor
def top8 : Nat:=w64 ^ 8
theorem zjq : top8 = top * top:=by unfold top8 top; rw [← Nat.pow_add]
theorem zjp : w64 = 18446744073709551616:=rfl
theorem div_succ' (B n i : Nat) : n / B ^ (i + 1) = n / B ^ i / B:=by rw [Nat.pow_succ,Nat.div_div_eq_div_mul]
theorem setw {B : Nat} (hB : 0 < B) (Z k n v : Nat) (hk : k < n) (hZ : Z < B ^ n) (hv : v < B) :
  ∃ Z',Z' < B ^ n ∧ (∀ m,dg B Z' m = if m = k then v else dg B Z m) ∧ Z' + B ^ k * dg B Z k = Z + B ^ k * v:=by
 have hP : 0 < B ^ k:=Nat.pow_pos hB
 have e1 : B ^ k * (Z / B ^ k) + Z % B ^ k = Z:=Nat.div_add_mod _ _
 have e2 : B * (Z / B ^ k / B) + Z / B ^ k % B = Z / B ^ k:=Nat.div_add_mod _ _
 have hr:=Nat.mod_lt Z hP
 have hq : Z / B ^ k / B < B ^ (n - (k + 1)):=by
  rw [← div_succ',Nat.div_lt_iff_lt_mul (Nat.pow_pos hB),← Nat.pow_add,show n - (k + 1) + (k + 1) = n by omega]; exact hZ
 have hn : B ^ n = B ^ k * (B * B ^ (n - (k + 1))):=by
  rw [← Nat.mul_assoc,← Nat.pow_succ,← Nat.pow_add]; congr 1; omega
 have hd : dg B Z k = Z / B ^ k % B:=rfl
 have hdm : ∀ j,dg B Z (k + 1 + j) = Z / B ^ k / B / B ^ j % B:=by
  intro j; unfold dg; rw [Nat.pow_add,← Nat.div_div_eq_div_mul,div_succ']
 have hlo : ∀ j,j < k → dg B Z j = dg B (Z % B ^ k) j:=fun j hj => (zdi Z k j hj).symm
 rw [hd,hn]
 clear hd hn hZ
 generalize Z / B ^ k / B = q at *
 generalize Z / B ^ k % B = d at *
 generalize Z / B ^ k = a at *
 generalize Z % B ^ k = r at *
 have hz : r + B ^ k * (v + B * q) = r + B ^ k * v + B ^ k * (B * q):=by rw [Nat.mul_add,Nat.add_assoc]
 refine ⟨r + B ^ k * (v + B * q),?_,?_,?_⟩
 ·
  have : v + B * q + 1 ≤ B * B ^ (n - (k + 1)):=by
   have : B * (q + 1) ≤ B * B ^ (n - (k + 1)):=Nat.mul_le_mul_left _ hq
   rw [Nat.mul_add] at this; omega
  have:=Nat.mul_le_mul_left (B ^ k) this
  rw [Nat.mul_add] at this; omega
 ·
  have hdiv : (r + B ^ k * (v + B * q)) / B ^ k = v + B * q:=by
   rw [Nat.add_mul_div_left _ _ hP,Nat.div_eq_of_lt hr,Nat.zero_add]
  intro m
  by_cases h : m = k
  ·
   rw [if_pos h,h]
   unfold dg
   rw [hdiv,Nat.add_mul_mod_self_left,Nat.mod_eq_of_lt hv]
  ·
   rw [if_neg h]
   by_cases hlt : m < k
   ·
    rw [← zdi _ k m hlt,Nat.add_mul_mod_self_left,Nat.mod_eq_of_lt hr,hlo m hlt]
   ·
    obtain ⟨j,rfl⟩ : ∃ j,m = k + 1 + j:=⟨m - (k + 1),by omega⟩
    rw [hdm]
    unfold dg
    rw [Nat.pow_add,← Nat.div_div_eq_div_mul,div_succ',hdiv,Nat.add_mul_div_left _ _ hB,Nat.div_eq_of_lt hv,Nat.zero_add]
 ·
  rw [hz,← e1,← e2,Nat.mul_add]
  omega
theorem setwd (Z k : Nat) (v : Int) (hk : k < 8) (hZ : Z < top8) (h0 : 0 ≤ v) (h1 : v ≤ 18446744073709551615) :
  ∃ Z',Z' < top8 ∧ (∀ m,wd Z' m = if m = k then v else wd Z m) ∧ Z' + w64 ^ k * dg w64 Z k = Z + w64 ^ k * v.toNat:=by
 obtain ⟨Z',a,b,c⟩:=setw zbc Z k 8 v.toNat hk hZ (by unfold w64; omega)
 refine ⟨Z',a,fun m => ?_,c⟩
 unfold wd
 rw [b m]
 split
 ·
  omega
 ·
  rfl
theorem col_step {B Z Z' Z0 t m c c' x i j M : Nat} (hM : m = dg B M j) (e : Z + c * B ^ (i + j) = Z0 + t * (M % B ^ j) * B ^ i)
  (hx : x + B * c' = t * m + c + dg B Z (i + j)) (hZ : Z' + B ^ (i + j) * dg B Z (i + j) = Z + B ^ (i + j) * x) :
  Z' + c' * B ^ (i + (j + 1)) = Z0 + t * (M % B ^ (j + 1)) * B ^ i:=by
 rw [zcw,← hM,← Nat.add_assoc i j 1,Nat.pow_succ B (i + j)]
 have h1 : t * (M % B ^ j + B ^ j * m) * B ^ i = t * (M % B ^ j) * B ^ i + B ^ (i + j) * (t * m):=by
  rw [Nat.mul_add,Nat.add_mul,Nat.pow_add]
  congr 1
  rw [Nat.mul_left_comm t,Nat.mul_comm (B ^ i),Nat.mul_comm (B ^ j * B ^ i),Nat.mul_comm (B ^ j),Nat.mul_assoc]
 have h2:=congrArg (fun z => B ^ (i + j) * z) hx
 simp only [Nat.mul_add] at h2
 rw [h1]
 have h3 : c' * (B ^ (i + j) * B) = B ^ (i + j) * (B * c'):=by rw [Nat.mul_comm c',Nat.mul_assoc]
 rw [h3]
 rw [Nat.mul_comm c] at e
 generalize B ^ (i + j) * (B * c') = p1 at *
 generalize B ^ (i + j) * (t * m) = p2 at *
 generalize B ^ (i + j) * c = p3 at *
 generalize B ^ (i + j) * dg B Z (i + j) = p4 at *
 generalize B ^ (i + j) * x = p5 at *
 omega
theorem low_dvd {B Z : Nat} {k : Nat} (h : Z % B ^ k = 0) : Z = B ^ k * (Z / B ^ k):=by
 have:=Nat.div_add_mod Z (B ^ k); omega
theorem row_done {B X M Z Z1 Z2 T t c o o' x k : Nat} (hlow : Z % B ^ k = 0) (hT : T < B ^ k) (ht : t < B) (hM : M < B ^ 4) (e : Z + o * B ^ (k + 4) = X + T * M)
  (ht0 : (dg B Z k + t * dg B M 0) % B = 0) (h1 : Z1 + c * B ^ (k + 4) = Z + t * (M % B ^ 4) * B ^ k) (hx : x + B * o' = dg B Z1 (k + 4) + c + o)
  (h2 : Z2 + B ^ (k + 4) * dg B Z1 (k + 4) = Z1 + B ^ (k + 4) * x) :
  Z2 % B ^ (k + 1) = 0 ∧ T + B ^ k * t < B ^ (k + 1) ∧ Z2 + o' * B ^ (k + 1 + 4) = X + (T + B ^ k * t) * M:=by
 have hz:=low_dvd hlow
 rw [Nat.mod_eq_of_lt hM] at h1
 have hp5 : B ^ (k + 1 + 4) = B ^ (k + 4) * B:=by rw [← Nat.pow_succ,show k + 1 + 4 = k + 4 + 1 by omega]
 have hq : B ^ (k + 4) = B ^ (k + 1) * B ^ 3:=by rw [← Nat.pow_add,show k + 1 + 3 = k + 4 by omega]
 have f : Z2 + o' * B ^ (k + 1 + 4) = Z + t * M * B ^ k + o * B ^ (k + 4):=by
  have h3:=congrArg (fun z => B ^ (k + 4) * z) hx
  simp only [Nat.mul_add] at h3
  rw [hp5,Nat.mul_comm o',Nat.mul_assoc (B ^ (k + 4)),Nat.mul_comm o]
  rw [Nat.mul_comm c] at h1
  generalize B ^ (k + 4) * dg B Z1 (k + 4) = p1 at *
  generalize B ^ (k + 4) * x = p2 at *
  generalize B ^ (k + 4) * c = p3 at *
  generalize B ^ (k + 4) * o = p4 at *
  generalize B ^ (k + 4) * (B * o') = p5 at *
  omega
 refine ⟨?_,?_,?_⟩
 ·
  have g : (Z2 + o' * B ^ (k + 1 + 4)) % B ^ (k + 1) = Z2 % B ^ (k + 1):=by
   rw [hp5,hq,Nat.mul_comm o',Nat.mul_assoc,Nat.mul_assoc,Nat.add_mul_mod_self_left]
  rw [← g,f,hq,Nat.mul_comm o,Nat.mul_assoc (B ^ (k + 1)),Nat.add_mul_mod_self_left]
  have hd : (Z / B ^ k + t * M) % B = 0:=by
   have : dg B Z k = Z / B ^ k % B:=rfl
   rw [this] at ht0
   have h0 : dg B M 0 = M % B:=by unfold dg; rw [Nat.pow_zero,Nat.div_one]
   rw [h0,Nat.mod_add_mod,Nat.add_mod,Nat.mul_mod,Nat.mod_mod,← Nat.mul_mod,← Nat.add_mod] at ht0
   exact ht0
  rw [hz,Nat.mul_comm (t * M),← Nat.mul_add,Nat.pow_succ,Nat.mul_mod_mul_left,hd,Nat.mul_zero]
 ·
  rw [Nat.pow_succ]
  have : B ^ k * (t + 1) ≤ B ^ k * B:=Nat.mul_le_mul_left _ ht
  rw [Nat.mul_add] at this; omega
 ·
  rw [f,Nat.add_mul,Nat.mul_right_comm t M,Nat.mul_comm (B ^ k) t]
  generalize t * B ^ k * M = p3 at *
  generalize o * B ^ (k + 4) = p1 at *
  generalize T * M = p2 at *
  omega
theorem times_zero {d n m : Int} (h : (18446744073709551616 : Int) ∣ m * n - 1) :
  (d + (-d % 18446744073709551616 * n) % 18446744073709551616 * m) % 18446744073709551616 = 0:=by
 have e1:=Int.emod_add_mul_ediv (-d) 18446744073709551616
 have e2:=Int.emod_add_mul_ediv (-d % 18446744073709551616 * n) 18446744073709551616
 generalize -d % 18446744073709551616 * n / 18446744073709551616 = q2 at *
 generalize -d % 18446744073709551616 * n % 18446744073709551616 = t at *
 generalize -d / 18446744073709551616 = q1 at *
 generalize -d % 18446744073709551616 = s at *
 obtain ⟨c,hc⟩:=h
 apply Int.emod_eq_zero_of_dvd
 refine ⟨-d * c - q1 * n * m - q2 * m,?_⟩
 have et : t = s * n - 18446744073709551616 * q2:=by omega
 have es : s = -d - 18446744073709551616 * q1:=by omega
 have hmn : m * n = 18446744073709551616 * c + 1:=by omega
 rw [et,es]
 have : (-d - 18446744073709551616 * q1) * n * m = (-d - 18446744073709551616 * q1) * (m * n):=by rw [Int.mul_assoc,Int.mul_comm n]
 simp only [Int.sub_mul,Int.mul_sub,Int.neg_mul,Int.mul_assoc] at *
 rw [Int.mul_comm n m,hmn]
 simp only [Int.mul_add,Int.mul_one]
 have e3 : d * (18446744073709551616 * c) = 18446744073709551616 * (d * c):=by rw [Int.mul_left_comm]
 rw [e3]
 have e4 : q1 * (18446744073709551616 * c) = 18446744073709551616 * (q1 * c):=by rw [Int.mul_left_comm]
 rw [e4]
 omega
/-! ### Newton's steps -/
theorem newton {D E m x : Int} (h : D ∣ m * x - 1) (hE : E ∣ D * D) (hW : E ∣ 18446744073709551616) :
  E ∣ m * (x * ((2 - m * x % 18446744073709551616) % 18446744073709551616) % 18446744073709551616) - 1:=by
 obtain ⟨a,ha⟩:=h
 have e1:=Int.emod_add_mul_ediv (m * x) 18446744073709551616
 have e2:=Int.emod_add_mul_ediv (2 - m * x % 18446744073709551616) 18446744073709551616
 have e3:=Int.emod_add_mul_ediv (x * ((2 - m * x % 18446744073709551616) % 18446744073709551616)) 18446744073709551616
 generalize x * ((2 - m * x % 18446744073709551616) % 18446744073709551616) / 18446744073709551616 = q3 at *
 generalize x * ((2 - m * x % 18446744073709551616) % 18446744073709551616) % 18446744073709551616 = t3 at *
 generalize (2 - m * x % 18446744073709551616) / 18446744073709551616 = q2 at *
 generalize (2 - m * x % 18446744073709551616) % 18446744073709551616 = t2 at *
 generalize m * x / 18446744073709551616 = q1 at *
 generalize m * x % 18446744073709551616 = t1 at *
 -- m x = 1 + D a; t2 = 2 - m x + W (q1 - q2); t3 = x t2 - W q3
 have h3 : t3 = x * t2 - 18446744073709551616 * q3:=by omega
 have h2 : t2 = 2 - m * x + 18446744073709551616 * (q1 - q2):=by omega
 have hk : m * t3 - 1 = -(D * D) * (a * a) + 18446744073709551616 * (m * x * (q1 - q2) - m * q3):=by
  rw [h3,h2]
  have hx : m * x = 1 + D * a:=by omega
  rw [Int.mul_sub,← Int.mul_assoc,Int.mul_add,hx,Int.mul_left_comm m,Int.mul_left_comm (1 + D * a) 18446744073709551616]
  have : (1 + D * a) * (2 - (1 + D * a)) = 1 - D * D * (a * a):=by
   rw [show (2 : Int) - (1 + D * a) = 1 - D * a by omega,Int.mul_sub,Int.mul_one,Int.add_mul,Int.one_mul]
   have : D * a * (D * a) = D * D * (a * a):=by rw [Int.mul_assoc,Int.mul_left_comm a,Int.mul_assoc]
   omega
  rw [this,Int.neg_mul,Int.mul_sub]
  omega
 rw [hk]
 exact Int.dvd_add (Int.dvd_trans (Int.dvd_neg.2 hE) (Int.dvd_mul_right _ _)) (Int.dvd_trans hW (Int.dvd_mul_right _ _))
def dv (k : Nat) : Int:=match k with | 0 => 8 | 1 => 64 | 2 => 4096 | 3 => 16777216 | 4 => 281474976710656 | _ => 18446744073709551616
theorem dv_start {m : Int} (h : m % 2 = 1) : dv 0 ∣ m * m - 1:=by
 show (8 : Int) ∣ m * m - 1
 obtain ⟨a,b,ha,hb⟩ : ∃ a b : Int,m = 8 * a + b ∧ (b = 1 ∨ b = 3 ∨ b = 5 ∨ b = 7):=⟨m / 8,m % 8,by omega,by omega⟩
 have : m * m = 8 * (a * (8 * a) + 2 * (a * b)) + b * b:=by
  rw [ha,Int.add_mul,Int.mul_add,Int.mul_add,Int.mul_assoc,Int.mul_assoc,Int.mul_comm b,Int.mul_assoc 8 a b]
  omega
 rw [this]
 rcases hb with rfl | rfl | rfl | rfl <;> omega
theorem dv_step {m x : Int} {k : Nat} (hk : k < 5) (h : dv k ∣ m * x - 1) :
  dv (k + 1) ∣ m * (x * ((2 - m * x % 18446744073709551616) % 18446744073709551616) % 18446744073709551616) - 1:=by
 refine newton h ?_ ?_
 ·
  match k,hk with
  | 0,_ => decide
  | 1,_ => decide
  | 2,_ => decide
  | 3,_ => decide
  | 4,_ => decide
 ·
  match k,hk with
  | 0,_ => decide
  | 1,_ => decide
  | 2,_ => decide
  | 3,_ => decide
  | 4,_ => decide
/-! ### modulo an odd number,2^256 can be taken away -/
theorem top_twoF : top = 2 ^ 256:=by decide
theorem cop_top {M : Nat} (h : M % 2 = 1) : Nat.Coprime top M:=by
 rw [top_twoF]
 apply Nat.Coprime.pow_left
 unfold Nat.Coprime
 rw [Nat.gcd_rec,h]; rfl
theorem cut_top {M A B : Nat} (hM : M % 2 = 1) (h : A * top % M = B * top % M) : A % M = B % M:=by
 have hc : Nat.Coprime M top:=(cop_top hM).symm
 have key : ∀ {a b : Nat},a ≤ b → a * top % M = b * top % M → a % M = b % M:=by
  intro a b hab h
  have h1 : M ∣ (b - a) * top:=by
   rw [Nat.sub_mul]
   exact Nat.dvd_of_mod_eq_zero (Nat.sub_mod_eq_zero_of_mod_eq h.symm)
  have h2 : M ∣ b - a:=Nat.Coprime.dvd_of_dvd_mul_right hc h1
  obtain ⟨c,hc2⟩:=h2
  rw [show b = a + M * c by omega,Nat.add_mul_mod_self_left]
 rcases Nat.le_total A B with hab | hab
 ·
  exact key hab h
 ·
  exact (key hab h.symm).symm
theorem shr_sum {X M Z T o : Nat} (hX : X < top8) (hT : T < top) (hM0 : 0 < M) (hlow : Z % top = 0) (e : Z + o * top8 = X + T * M) :
  (Z / top + o * top) * top = X + T * M ∧ Z / top + o * top < top + M ∧ (X < M * top → Z / top + o * top < 2 * M):=by
 have hp:=zce
 have hz : top * (Z / top) + Z % top = Z:=Nat.div_add_mod _ _
 rw [zjq] at *
 have e2 : (Z / top + o * top) * top = X + T * M:=by
  rw [Nat.add_mul,Nat.mul_assoc,Nat.mul_comm (Z / top)]; omega
 have hTM : T * M < top * M:=Nat.mul_lt_mul_of_pos_right hT hM0
 refine ⟨e2,?_,fun h => ?_⟩
 ·
  apply Nat.lt_of_mul_lt_mul_right (a:=top)
  rw [e2,Nat.add_mul,Nat.mul_comm M]; omega
 ·
  apply Nat.lt_of_mul_lt_mul_right (a:=top)
  rw [e2,Nat.mul_assoc 2,Nat.mul_comm M] at *
  omega
end Go.Proofs.YtedehdbajiaaiaaGreatDoor
namespace Go.Proofs.YtedehdbajiaaiaaGreatDoor
open Go.RowKit
open Go.Value renaming int → vI
open Go.IntKind renaming u64 → vU
open Go.Act renaming put → aP
open List renaming setIfInBounds_toArray → lA, set_cons_zero → lZ, set_cons_succ → lS
def fdf (M : Nat) (N : Int) (Q : Nat) : Nat → Value:=fun j => if j < 4 then .int .u64 (wd M j) else if j = 4 then .int .u64 N else .int .u64 (wd Q (j - 5))
def Fb (w : World) (b M : Nat) (N : Int) (Q : Nat) : Prop:=w.rowIs b 172 9 (fdf M N Q)
structure Fok (M : Nat) (N : Int) (Q : Nat) : Prop where
 m2 : 2 < M
 odd : M % 2 = 1
 mt : M < top
 n0 : 0 ≤ N
 n1 : N ≤ 18446744073709551615
 inv : (18446744073709551616 : Int) ∣ wd M 0 * N - 1
 q : Q = top8 % M
theorem Fok.qm {M : Nat} {N : Int} {Q : Nat} (h : Fok M N Q) : Q < M:=by rw [h.q]; exact Nat.mod_lt _ (by have:=h.m2; omega)
section
variable {w w' : World} {b M Q B : Nat} {N : Int}
theorem Fb.lt (h : Fb w b M N Q) : b < w.heap.size:=World.rowIs.lt h
theorem Fb.below (h : Fb w b M N Q) (hb : Below B w w') (hlt : b < B) : Fb w' b M N Q:=zab h hb hlt
theorem Fb.call (h : Fb w b M N Q) (hb : Below w.heap.size w w') : Fb w' b M N Q:=zab h hb h.lt
theorem Fb.drew (h : Fb w b M N Q) : Fb w.drew b M N Q:=h
theorem Fb.alloc (h : Fb w b M N Q) (o : Obj) : Fb (w.alloc o) b M N Q:=World.rowIs.alloc h o
theorem Fb.far {b' i : Nat} (h : Fb w b M N Q) (hne : b ≠ b') (v : Value) : Fb (w.setCell ⟨b',i,none⟩ v) b M N Q:=zax h hne v
theorem Fb.mod (h : Fb w b M N Q) : w.cell? ⟨b,0,none⟩ = some (vI vU (wd M 0)) ∧ w.cell? ⟨b,1,none⟩ = some (vI vU (wd M 1)) ∧ w.cell? ⟨b,2,none⟩ = some (vI vU (wd M 2)) ∧ w.cell? ⟨b,3,none⟩ = some (vI vU (wd M 3)) :=
 ⟨World.rowIs.cell h (by omega),World.rowIs.cell h (by omega),World.rowIs.cell h (by omega),World.rowIs.cell h (by omega)⟩
theorem Fb.inv (h : Fb w b M N Q) : w.cell? ⟨b,4,none⟩ = some (vI vU N):=World.rowIs.cell h (by omega)
theorem Fb.sq (h : Fb w b M N Q) : w.cell? ⟨b,5,none⟩ = some (vI vU (wd Q 0)) ∧ w.cell? ⟨b,6,none⟩ = some (vI vU (wd Q 1)) ∧ w.cell? ⟨b,7,none⟩ = some (vI vU (wd Q 2)) ∧ w.cell? ⟨b,8,none⟩ = some (vI vU (wd Q 3)) :=
 ⟨World.rowIs.cell h (by omega),World.rowIs.cell h (by omega),World.rowIs.cell h (by omega),World.rowIs.cell h (by omega)⟩
end
theorem wide_num (X : Nat) (h : X < top) : wd X 4 = 0 ∧ wd X 5 = 0 ∧ wd X 6 = 0 ∧ wd X 7 = 0:=by
 have e : ∀ i,4 ≤ i → wd X i = 0:=by
  intro i hi
  unfold wd dg
  rw [Nat.div_eq_of_lt (Nat.lt_of_lt_of_le h (Nat.pow_le_pow_right zbc hi))]; rfl
 exact ⟨e 4 (by omega),e 5 (by omega),e 6 (by omega),e 7 (by omega)⟩
theorem wide_calls (X : Nat) (hX : X < top) (w : World) :
  Calls Tryz.prog 159 #[.agg #[vI vU (wd X 0),vI vU (wd X 1),vI vU (wd X 2),vI vU (wd X 3)]] w fun e w' => e = .returned (.agg #[vI vU (wd X 0),vI vU (wd X 1),vI vU (wd X 2),vI vU (wd X 3),vI vU (wd X 4),vI vU (wd X 5),vI vU (wd X 6),vI vU (wd X 7)]) ∧ Below w.heap.size w w':=by
 obtain ⟨e4,e5,e6,e7⟩:=wide_num X hX
 rw [e4,e5,e6,e7]
 have hA0 : ((w.alloc (.cells #[vI vU (wd X 0),vI vU (wd X 1),vI vU (wd X 2),vI vU (wd X 3)] 26)).alloc (.cells #[vI vU 0,vI vU 0,vI vU 0,vI vU 0,vI vU 0,vI vU 0,vI vU 0,vI vU 0] 131)).rowIs w.heap.size 26 4 (fun j => .int .u64 (wd X j)):=(zag (n:=4) (by simp) rfl (arr4 fun j => .int .u64 (wd X j))).alloc _
 have hR0 : ((w.alloc (.cells #[vI vU (wd X 0),vI vU (wd X 1),vI vU (wd X 2),vI vU (wd X 3)] 26)).alloc (.cells #[vI vU 0,vI vU 0,vI vU 0,vI vU 0,vI vU 0,vI vU 0,vI vU 0,vI vU 0] 131)).rowIs (w.heap.size + 1) 131 8 (fun _ => .int .u64 0):=zag (n:=8) (by simp) rfl (arr8 fun _ => .int .u64 0)
 obtain ⟨c0,c1,c2,c3⟩:=zac hA0
 obtain ⟨f0,f1,f2,f3,f4,f5,f6,f7⟩:=row_f8 hR0
 obtain ⟨d0,d1,d2,d3,d4,d5,d6,d7⟩:=row_c8 hR0
 clear e4 e5 e6 e7
 go_enter Tryz.func159,Tryz.ntmps159
 go_wp2
 exact bodyPost_ret (results_cell_row rfl _ _ (w.heap.size + 1) 131 #[vI vU (wd X 0),vI vU (wd X 1),vI vU (wd X 2),vI vU (wd X 3),vI vU 0,vI vU 0,vI vU 0,vI vU 0] (0,0) _ rfl (blk8 (zag (n:=8) (f:=fun j => if j < 4 then Value.int .u64 (wd X j) else .int .u64 0) (by simp) rfl (arr8 fun j => if j < 4 then Value.int .u64 (wd X j) else .int .u64 0))) Tryz.underlying131 rfl (by kernel_rfl)) rfl ⟨rfl,((Below.refl _ _).alloc (by simp) _).alloc (by simp) _⟩
theorem inverse_calls (m : Int) (h0 : 0 ≤ m) (h1 : m ≤ 18446744073709551615) (hodd : m % 2 = 1) (w : World) :
  Calls Tryz.prog 141 #[vI vU m] w fun e w' => ∃ n : Int,0 ≤ n ∧ n ≤ 18446744073709551615 ∧ (18446744073709551616 : Int) ∣ m * n - 1 ∧ e = .returned (.int .u64 n) ∧ w' = w:=by
 have hS:=veil (dv_start hodd)
 clear hodd
 go_enter Tryz.func141,Tryz.ntmps141
 go_wp2
 go_loopw [3,5] (fun x i wr => ∃ (k : Nat) (n : Int),k ≤ 5 ∧ i = .int .i64 (k : Int) ∧ x = .int .u64 n ∧ 0 ≤ n ∧ n ≤ 18446744073709551615 ∧ Hid (dv k ∣ m * n - 1) ∧ wr = w)
  (fun _ i _ => 5 - (intOf i).toNat)
 case atStart => exact ⟨0,m,by omega,rfl,rfl,h0,h1,hS,rfl⟩
 case round =>
  obtain ⟨k,n,hk,rfl,rfl,n0,n1,hD,rfl⟩:=hrel
  by_cases hlt : k < 5
  ·
   have hn:=veil (dv_step hlt hD.out)
   obtain ⟨y,hy⟩ : ∃ y,y = n * ((2 - m * n % 18446744073709551616) % 18446744073709551616) % 18446744073709551616:=⟨_,rfl⟩
   rw [← hy] at hn
   have y0 : 0 ≤ y:=by omega
   have y1 : y ≤ 18446744073709551615:=by omega
   have hY:=veil hy
   clear hy
   go_wp2
   go_roundw
   case rel => exact ⟨k + 1,y,by omega,by go_num,by simp only [IntKind.wrap_u64]; rw [hY.out],y0,y1,hn,trivial⟩
   case measure => simp [intOf]; omega
  ·
   obtain rfl : k = 5:=by omega
   go_wp2
   go_ret
   exact ⟨n,n0,n1,hD.out,rfl,rfl⟩
end Go.Proofs.YtedehdbajiaaiaaGreatDoor
