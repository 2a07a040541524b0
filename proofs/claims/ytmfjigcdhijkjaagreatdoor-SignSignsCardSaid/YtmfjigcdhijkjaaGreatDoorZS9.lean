/-
  Of NR SSched SRounds SAddp SOutp SSum FrameN ArgD.
-/
import Derived.Deep.Cut
import Derived.Deep.CutRange
import Derived.Deep.LoopGhost
import Derived.Deep.RegionLaw
import Derived.Deep.CutBlock
import Derived.Test.YtmfjigcdhijkjaaGreatDoorRows
import Derived.WalkKit
import Derived.ProofKit
import Derived.Lib.SmallJoins
import Derived.Laws.IdiomArrays
import Derived.OpenShut
import Derived.Test.YtmfjigcdhijkjaaGreatDoorZS6
import Derived.Test.YtmfjigcdhijkjaaGreatDoorZS5
import Derived.Test.YtmfjigcdhijkjaaGreatDoorZS4
import Derived.Test.YtmfjigcdhijkjaaGreatDoorZS1
set_option maxRecDepth 1000000
set_option maxHeartbeats 20000000
namespace Go.Proofs.YtmfjigcdhijkjaaGreatDoor
open Go.RowKit
open Go.Value renaming int → vI
open Go.IntKind renaming u64 → vU
open Go.Act renaming put → aP
open List renaming setIfInBounds_toArray → lA, set_cons_zero → lZ, set_cons_succ → lS
theorem row_block {w : World} {g t : Nat} {X : Nat} (h : w.heap[g]? = some (.cells (nc X) t (0,0))) : w.cell? ⟨g,0,none⟩ = some (vI vU (wd X 0)) ∧ w.cell? ⟨g,1,none⟩ = some (vI vU (wd X 1)) ∧ w.cell? ⟨g,2,none⟩ = some (vI vU (wd X 2)) ∧ w.cell? ⟨g,3,none⟩ = some (vI vU (wd X 3)) :=
 ⟨cell_of_row w g 0 (nc X) t (0,0) h,cell_of_row w g 1 (nc X) t (0,0) h,cell_of_row w g 2 (nc X) t (0,0) h,cell_of_row w g 3 (nc X) t (0,0) h⟩
theorem two_cells {w : World} {base D M : Nat} {v : Value} (h : Own w base 5 v 64 (fun j => if j < 32 then bsv D j else bsv M (j - 32))) : Own w base 5 v 64 (fun j => .int .u8 (two D M j : Nat)):=h.congr fun j _ => by
 unfold two cat
 split <;> rfl
theorem from_own' {w : World} {base e n g c : Nat} {f : Nat → Value} (o : Own w base e (.slice (some ⟨g,0,none⟩) n c) n f) : From w (some ⟨g,0,none⟩) n f:=by
 by_cases h : n = 0
 ·
  exact .inl h
 ·
  obtain ⟨g',c',e,_,_,hp⟩:=o.pre (by omega)
  injection e with e1 _ _
  injection e1 with e2
  injection e2 with e3
  subst e3
  exact .inr ⟨_,rfl,fun j hj => by rw [Addr.add_mid,Nat.zero_add]; exact hp.cell hj⟩
theorem pre_more {D M many i : Nat} (h : ∀ j,j < i → (outN D M j).length < many) (hi : (outN D M i).length < many) : ∀ j,j < i + 1 → (outN D M j).length < many:=fun j hj => by
 rcases Nat.lt_or_ge j i with e | e
 ·
  exact h j e
 ·
  have : j = i:=by omega
  subst this
  exact hi
theorem rlist_calls (RS : RSum) (D : Nat) (y : Nat → Nat) (hy : ∀ j,y j < 256) (many : Nat) (hm : many ≤ 16) (w : World) :
  Calls Tryz.prog 23 #[nv D,.agg (arrOf 32 fun i => .int .u8 (y i : Nat)),.int .i64 (many : Int)] w fun e w' => ∃ s v,Ends D (num32 y % Pt.nn) many s ∧ e = .returned v ∧ OwnN w' w.heap.size v (outN D (num32 y % Pt.nn) s) ∧ Ext w w':=by
 obtain ⟨X,hX⟩ : ∃ X,X = num32 y:=⟨_,rfl⟩
 obtain ⟨M,hM⟩ : ∃ M,M = X % Pt.nn:=⟨_,rfl⟩
 rw [← hX,← hM]
 have hXt : X < top:=by rw [hX]; exact zgx hy
 have hMt : M < top:=by rw [hM]; exact Nat.lt_trans (Nat.mod_lt _ (by decide +kernel)) zcp
 obtain ⟨F,hF⟩ : ∃ F,F = arrOf 32 fun i => Value.int .u8 (y i : Nat):=⟨_,rfl⟩
 rw [← hF]
 obtain ⟨i8,hi8,hz0,hz1,hz2⟩:=info_parts infoByte
 have HI:=veil (And.intro hi8 (And.intro hz0 (And.intro hz1 hz2)))
 have HX:=veil (And.intro hX (And.intro hM (And.intro hXt (And.intro hMt (And.intro hy (And.intro hF hm))))))
 have HRS:=veil RS
 clear hi8 hz0 hz1 hz2 hX hM hXt hMt hy hF hm RS
 show Calls _ _ #[.agg (nc D),.agg F,_] w _
 obtain ⟨C,hC⟩ : ∃ C,C = nc D:=⟨_,rfl⟩
 rw [← hC]
 have HC:=veil hC
 clear hC
 go_enter Tryz.func23,Tryz.ntmps23
 go_upto_region 1 with (fail)
 have hc1 : (w.alloc (.cells C 24)).heap[w.heap.size]? = some (.cells C 24 (0,0)):=heap_alloc_last w _
 have hz1 : (w.alloc (.cells C 24)).heap.size = w.heap.size + 1:=by simp
 have hE1:=Ext.alloc w (.cells C 24)
 generalize w.alloc (.cells C 24) = w1 at *
 have hf2 : (w1.alloc (.cells F 26)).rowIs (w.heap.size + 1) 26 32 (fun i => .int .u8 (y i : Nat)):=by rw [HX.out.2.2.2.2.2.1]; exact zbk w1 32 26 _ hz1.symm
 have hc2:=(Ext.alloc w1 (.cells F 26)).block hc1
 have hE2:=hE1.trans (Ext.alloc w1 (.cells F 26))
 generalize w1.alloc (.cells F 26) = w2 at *
 have KOf:=veil (show Calls Tryz.prog 62 #[.slice (some ⟨w.heap.size + 1,0,none⟩) 32 32] w2 fun e w' => e = .returned (nv X) ∧ Ext w2 w' from by
  rw [HX.out.1]; exact rof_some (w.heap.size + 1) 0 32 32 y HX.out.2.2.2.2.1 (by decide) w2 hf2.lt (fun j hj => by rw [Nat.zero_add]; exact hf2.cell hj))
 have KIn:=veil (fun W => show Calls Tryz.prog 26 #[nv X,nv Pt.nn] W fun e w' => e = .returned (nv M) ∧ Ext W w' from by
  rw [HX.out.2.1]; exact gin_calls X Pt.nn HX.out.2.2.1 (by decide +kernel) zcp W)
 have H2:=veil (And.intro hc2 hE2)
 clear hc1 hz1 hE1 hf2 hc2 hE2
 go_upto_region 2 with (first
  | (go_at_call 62; refine KOf.out.mono ?_; rintro e w3 ⟨rfl,hE3⟩)
  | (go_at_call 22; refine (nn_is _).mono ?_; rintro e w4 ⟨rfl,hE4⟩)
  | (go_at_call 26; refine (KIn.out _).mono ?_; rintro e w5 ⟨rfl,hE5⟩)
  | ((with_reducible refine zbh ?_); refine wpList_store_row rfl 24 _ _ rfl w5.heap.size (nc M) rfl rfl 24 _ (heap_alloc_last w5 _) (iN M) (by rfl) (zbe M) ?_; rw [World.setRow_alloc_new]))
 have hm6 : (w5.alloc (.cells (nc M) 24)).heap[w5.heap.size]? = some (.cells (nc M) 24 (0,0)):=heap_alloc_last w5 _
 have hE6:=((hE3.trans hE4).trans hE5).trans (Ext.alloc w5 (.cells (nc M) 24))
 have hc6:=hE6.block H2.out.1
 replace hE6:=H2.out.2.trans hE6
 generalize w5.alloc (.cells (nc M) 24) = wz at *
 generalize w5.heap.size = gm at *
 rw [HC.out] at hc6
 clear hE3 hE4 hE5 KOf KIn H2
 obtain ⟨x0,x1,x2,x3⟩:=row_block hc6
 obtain ⟨m0,m1,m2,m3⟩:=row_block hm6
 have lz : w.heap.size < wz.heap.size:=(Array.getElem?_eq_some_iff.1 hc6).1
 have lm : gm < wz.heap.size:=(Array.getElem?_eq_some_iff.1 hm6).1
 have H1:=veil (fun W => rbytes_own D W)
 have H2:=veil (fun W => rbytes_own M W)
 have hzz : wz.heap.size = wz.heap.size:=rfl
 clear hc6 hm6
 simp only [Act.put]
 go_cut [8] from 20 to 24 (fun v8 wx => ∃ g cap,v8 = .slice (some ⟨g,0,none⟩) 64 cap ∧ Own wx wz.heap.size 5 (.slice (some ⟨g,0,none⟩) 64 cap) 64 (fun j => .int .u8 (two D M j : Nat)) ∧ Ext wz wx)
 case first =>
  go_region_held3 (fun w' => (∀ b o,b < wz.heap.size → w'.cell? ⟨b,o,none⟩ = wz.cell? ⟨b,o,none⟩) ∧ Below wz.heap.size wz w')
   (first
    | with_reducible assumption
    | with_reducible exact zdv _
    | exact hS3
    | with_reducible exact zec (by assumption) (by assumption)
    | fail)
   (first
    | (go_at_call 63; first
      | ((with_reducible refine (H1.out _).mono ?_); rintro e w1 ⟨g1,c1,rfl,hc1,hg1,ho1,hb1⟩)
      | ((with_reducible refine (H2.out _).mono ?_); rintro e w2 ⟨g2,c2,rfl,hc2,hg2,ho2,hb2⟩))
    | ((with_reducible refine at_slotR 24 ?_); refine zdk _ rfl _ _ 46 rfl wz.heap.size 5 i8 (.int .u8 0) 1 Tryz.underlying46 HI.out.1 HI.out.2.1 HI.out.2.2.1 HI.out.2.2.2 rfl (.slice (some ⟨g1,0,none⟩) 32 c1) 32 _ rfl (ho1.below hb2 (Nat.le_refl _)) (some ⟨g2,0,none⟩) 32 c2 rfl _ (from_own' ho2) (fun _ => rfl) (by unfold maxLen; omega) (by omega) (Nat.le_trans hb1.size hb2.size) ?_; intro v3 w3 hO3 hg3 _ _; have hX:=zec hb2 (zec hb1 (zdv wz)); have hb3 : Below wz.heap.size wz w3:=hX.2.grown hg3 hX.2.size (fun k e => (ho1.lt e).1); have hS3:=And.intro (fun b o (h : b < wz.heap.size) => hb3.cell (p:=⟨b,o,none⟩) h) hb3; obtain ⟨g3,c3,rfl,-,hg3',-⟩:=hO3.pre (by omega)))
  rename (_ ∧ Below wz.heap.size wz _) => hH
  clear x0 x1 x2 x3 m0 m1 m2 m3
  go_wp2_with fail
  go_meet
  case rel => exact ⟨g3,c3,rfl,two_cells hO3,hH.2⟩
 case rest =>
  obtain ⟨g8,c8,rfl,hO8,hE8⟩:=hcut
  clear x0 x1 x2 x3 m0 m1 m2 m3 lm lz H1 H2 hzz
  go_upto_region 6 with (fail)
  obtain ⟨bs,hbs⟩ : ∃ bs,bs = wc.heap.size:=⟨_,rfl⟩
  have HZ:=veil (And.intro (hE6.trans hE8) (And.intro hO8 (show wc.heap.size ≤ bs by omega)))
  have hbw : wc.heap.size ≤ bs:=by omega
  clear hE6 hE8 hO8
  go_loopw [9,10,11] (fun v9 v10 v11 wr => ∃ i : Nat,i ≤ 32 ∧ v11 = .int .i64 (i : Int) ∧ Own wr bs 5 v9 i (fun _ => .int .u8 0) ∧ Own wr bs 5 v10 i (fun _ => .int .u8 1) ∧ (∀ b,v9.ownBlock = some b → v10.ownBlock ≠ some b) ∧ Below bs wc wr ∧ bs ≤ wr.heap.size)
   (fun _ _ v11 _ => 32 - (intOf v11).toNat)
  case atStart => exact ⟨0,by omega,rfl,Own.nil _ _ _ _,Own.nil _ _ _ _,(fun b e => by cases e),hbs ▸ Below.refl _ _,by omega⟩
  case round =>
   obtain ⟨i,hi,rfl,hK,hV,hne,hB,hzr⟩:=hrel
   by_cases hlt : i < 32
   ·
    have HA:=veil (And.intro (hK.alloc (.cells #[.int .u8 0] 5)) (zdp wr (.int .u8 0) 5))
    have HBr:=veil (And.intro hB (And.intro hK (And.intro hV hne)))
    clear hK hV hne hB
    go_upto_region 9 with ((with_reducible refine zax 31 ?_); refine zau _ rfl _ _ 46 rfl bs 5 i8 (.int .u8 0) 1 Tryz.underlying46 HI.out.1 HI.out.2.1 HI.out.2.2.1 HI.out.2.2.2 rfl _ i _ rfl HA.out.1 (some ⟨wr.heap.size,0,none⟩) 1 1 rfl _ HA.out.2 (fun _ => rfl) (by unfold maxLen; omega) (by omega) (by simp; omega) ?_; intro k3 w3 hK3 hg3 hat3)
    replace hK3 : Own w3 bs 5 k3 (i + 1) (fun _ => .int .u8 0):=hK3.congr fun j _ => by split <;> rfl
    have hB3 : Below bs wc w3:=(HBr.out.1.alloc (by omega) _).grown hg3 (by simp; omega) (fun k e => (HBr.out.2.1.lt e).1)
    have hz3 : bs ≤ w3.heap.size:=by have:=hg3.size; simp at this; omega
    have hV3:=(HBr.out.2.2.1.alloc (.cells #[.int .u8 0] 5)).kept hg3 (by
     cases e : Value.ownBlock _ with
     | none => exact .inl rfl
     | some b => exact .inr fun e2 => HBr.out.2.2.2 b e2.symm e)
    replace hat3 : k3.ownBlock = u9.ownBlock ∨ k3.ownBlock = some _:=hat3
    have hne3 : ∀ b,k3.ownBlock = some b → u10.ownBlock ≠ some b:=fun b e e2 => by
     rcases hat3 with h | h
     ·
      exact HBr.out.2.2.2 b (h.symm.trans e) e2
     ·
      have:=(HBr.out.2.2.1.lt e2).2
      rw [e] at h
      injection h with h
      simp at h
      omega
    have HA3:=veil (And.intro (hV3.alloc (.cells #[.int .u8 1] 5)) (zdp w3 (.int .u8 1) 5))
    have HB3:=veil (And.intro hB3 (And.intro hV3 (And.intro hK3 hne3)))
    clear hg3 hat3 hV3 hK3 hne3 hB3 HA HBr
    go_wp2_with ((with_reducible refine zax 34 ?_); refine zau _ rfl _ _ 46 rfl bs 5 i8 (.int .u8 0) 1 Tryz.underlying46 HI.out.1 HI.out.2.1 HI.out.2.2.1 HI.out.2.2.2 rfl _ i _ rfl HA3.out.1 (some ⟨w3.heap.size,0,none⟩) 1 1 rfl _ HA3.out.2 (fun _ => rfl) (by unfold maxLen; omega) (by omega) (by simp; omega) ?_; intro v4 w4' hV4 hg4 hat4)
    replace hV4 : Own w4' bs 5 v4 (i + 1) (fun _ => .int .u8 1):=hV4.congr fun j _ => by split <;> rfl
    have hB4 : Below bs wc w4':=(HB3.out.1.alloc (by omega) _).grown hg4 (by simp; omega) (fun k e => (HB3.out.2.1.lt e).1)
    have hz4 : bs ≤ w4'.heap.size:=by have:=hg4.size; simp at this; omega
    have hK4:=(HB3.out.2.2.1.alloc (.cells #[.int .u8 1] 5)).kept hg4 (by
     cases e : k3.ownBlock with
     | none => exact .inl rfl
     | some b => exact .inr fun e2 => HB3.out.2.2.2 b e e2.symm)
    replace hat4 : v4.ownBlock = u10.ownBlock ∨ v4.ownBlock = some _:=hat4
    have hne4 : ∀ b,k3.ownBlock = some b → v4.ownBlock ≠ some b:=fun b e e2 => by
     rcases hat4 with h | h
     ·
      exact HB3.out.2.2.2 b e (h.symm.trans e2)
     ·
      have:=(HB3.out.2.2.1.lt e).2
      rw [e2] at h
      injection h with h
      simp at h
      omega
    clear hg4 hat4 HA3 HB3
    go_roundw
    case rel => exact ⟨i + 1,by omega,by go_num,hK4,hV4,hne4,hB4,hz4⟩
    case measure => simp [intOf]; omega
   ·
    obtain rfl : i = 32:=by omega
    obtain ⟨ga,ca,rfl,_,_,hpa⟩:=hK.pre (by decide)
    obtain ⟨gb,cb,rfl,_,_,hpb⟩:=hV.pre (by decide)
    have hk0 : RSrc wr (.slice (some ⟨ga,0,none⟩) 32 ca) kv0.k none:=⟨ga,0,ca,rfl,hpa.lt,(fun e => by cases e),fun j hj => by rw [Nat.zero_add]; exact hpa.cell hj⟩
    have hv0 : RSrc wr (.slice (some ⟨gb,0,none⟩) 32 cb) kv0.v none:=⟨gb,0,cb,rfl,hpb.lt,(fun e => by cases e),fun j hj => by rw [Nat.zero_add]; exact hpb.cell hj⟩
    have HR:=veil (And.intro hk0 (And.intro hv0 (And.intro (HZ.out.2.1.below (hbs ▸ hB) (Nat.le_refl _)) (Below.trans HZ.out.1 ((hbs ▸ hB).mono (Below.size HZ.out.1))))))
    clear hK hV hne hB hzr hpa hpb hk0 hv0 hlt hi HZ hbw
    have hO:=Own.made (base:=wr.heap.size) (e:=5) (f:=fun _ => .int .u8 0) wr (cs:=#[.int .u8 0]) (Nat.le_refl _) (by show 1 ≤ maxLen; decide) (fun i hi => by
     have : i < 1:=hi
     obtain rfl : i = 0:=by omega
     rfl)
    have HO10:=veil (And.intro hO (And.intro (from_own' (HR.out.2.2.1.alloc (.cells #[.int .u8 0] 5))) (show Below wr.heap.size wr (wr.alloc (.cells #[.int .u8 0] 5)) from (Below.refl _ _).alloc (Nat.le_refl _) _)))
    clear hO
    go_wp2_with ((with_reducible refine zax 39 ?_); refine zau _ rfl _ _ 46 rfl wr.heap.size 5 i8 (.int .u8 0) 1 Tryz.underlying46 HI.out.1 HI.out.2.1 HI.out.2.2.1 HI.out.2.2.2 rfl _ 1 _ rfl HO10.out.1 (some ⟨g8,0,none⟩) 64 c8 rfl _ HO10.out.2.1 (fun _ => rfl) (by unfold maxLen; omega) (by omega) (by simp) ?_; intro t10 wt10 hO10 hg10 ha10)
    have hE10 : Ext wr wt10:=zct HO10.out.2.2 hg10 (by simp) (fun k e => (HO10.out.1.lt e).1)
    obtain ⟨C10,cc10,rfl,_,hS10⟩:=src_own (g:=wt10.heap.size) (y:=cat (fun _ => 0) 1 (two D M)) (tx_own (b:=0) (m:=64) (t:=two D M) hO10) (fun b e => by have:=(hO10.lt e).2; omega)
    clear hO10 hg10 ha10 HO10
    refine (code_tx HRS.out kv0 kv0_ok _ _ none 0 (by decide) (two D M) (two_lt D M) 64 (by decide) C10 cc10 wt10 (HR.out.1.ext hE10) (HR.out.2.1.ext hE10) hS10 (fun b e => by cases e)).mono ?_
    rintro e wa ⟨ra,rfl,hra,hEa⟩
    have HA:=veil (And.intro hra (And.intro ((HR.out.2.1.ext hE10).ext hEa) (And.intro (HR.out.2.2.1.below (Ext.trans hE10 hEa) (Nat.le_refl _)) (Below.trans HR.out.2.2.2 ((Ext.trans hE10 hEa).mono HR.out.2.2.2.size)))))
    clear hra hEa hE10 hS10 HR
    go_wp2_with fail
    refine (zgi HRS.out (⟨nb kv0.k 32 (tx kv0.v 0 (two D M)) (33 + 64),kv0.v⟩ : KV) ⟨fun j => nb_lt _ _ _ _ j,kv0_ok.v⟩ _ _ none wa HA.out.1 HA.out.2.1 (fun b e => by cases e)).mono ?_
    rintro e wb ⟨rb,rfl,hrb,hEb⟩
    obtain ⟨s1,hs1⟩ : ∃ s1,s1 = kv0.mix 0 (two D M) 64:=⟨_,rfl⟩
    have HS1:=veil (And.intro hs1 (show s1.Ok from by rw [hs1]; exact kv0_ok.mix 0 (two D M) 64))
    have HB:=veil (show RSrc wb ra s1.k none ∧ RSrc wb rb s1.v none ∧ (Own wb wz.heap.size 5 (.slice (some ⟨g8,0,none⟩) 64 c8) 64 fun j => .int .u8 (two D M j : Nat)) ∧ Below w.heap.size w wb from
     by rw [hs1]; exact ⟨HA.out.1.ext hEb,hrb,HA.out.2.2.1.below hEb (Nat.le_refl _),Below.trans HA.out.2.2.2 (hEb.mono HA.out.2.2.2.size)⟩)
    clear hrb hEb HA hs1
    have hO:=Own.made (base:=wb.heap.size) (e:=5) (f:=fun _ => .int .u8 1) wb (cs:=#[.int .u8 1]) (Nat.le_refl _) (by show 1 ≤ maxLen; decide) (fun i hi => by
     have : i < 1:=hi
     obtain rfl : i = 0:=by omega
     rfl)
    have HO12:=veil (And.intro hO (And.intro (from_own' (HB.out.2.2.1.alloc (.cells #[.int .u8 1] 5))) (show Below wb.heap.size wb (wb.alloc (.cells #[.int .u8 1] 5)) from (Below.refl _ _).alloc (Nat.le_refl _) _)))
    clear hO
    go_wp2_with ((with_reducible refine zax 48 ?_); refine zau _ rfl _ _ 46 rfl wb.heap.size 5 i8 (.int .u8 0) 1 Tryz.underlying46 HI.out.1 HI.out.2.1 HI.out.2.2.1 HI.out.2.2.2 rfl _ 1 _ rfl HO12.out.1 (some ⟨g8,0,none⟩) 64 c8 rfl _ HO12.out.2.1 (fun _ => rfl) (by unfold maxLen; omega) (by omega) (by simp) ?_; intro t12 wt12 hO12 hg12 ha12)
    have hE12 : Ext wb wt12:=zct HO12.out.2.2 hg12 (by simp) (fun k e => (HO12.out.1.lt e).1)
    obtain ⟨C12,cc12,rfl,_,hS12⟩:=src_own (g:=wt12.heap.size) (y:=cat (fun _ => 1) 1 (two D M)) (tx_own (b:=1) (m:=64) (t:=two D M) hO12) (fun b e => by have:=(hO12.lt e).2; omega)
    clear hO12 hg12 ha12 HO12
    refine (code_tx HRS.out s1 HS1.out.2 _ _ none 1 (by decide) (two D M) (two_lt D M) 64 (by decide) C12 cc12 wt12 (HB.out.1.ext hE12) (HB.out.2.1.ext hE12) hS12 (fun b e => by cases e)).mono ?_
    rintro e wd' ⟨rd,rfl,hrd,hEd⟩
    have HD:=veil (And.intro hrd (And.intro ((HB.out.2.1.ext hE12).ext hEd) (Below.trans HB.out.2.2.2 ((Ext.trans hE12 hEd).mono HB.out.2.2.2.size))))
    clear hrd hEd hE12 hS12 HB
    go_wp2_with fail
    refine (zgi HRS.out (⟨nb s1.k 32 (tx s1.v 1 (two D M)) (33 + 64),s1.v⟩ : KV) ⟨fun j => nb_lt _ _ _ _ j,HS1.out.2.v⟩ _ _ none wd' HD.out.1 HD.out.2.1 (fun b e => by cases e)).mono ?_
    rintro e wb2 ⟨re,rfl,hre,hEe⟩
    have HE:=veil (show RSrc wb2 rd (kvN D M 0).k none ∧ RSrc wb2 re (kvN D M 0).v none ∧ Below w.heap.size w wb2 from by
     have hkv : kvN D M 0 = s1.mix 1 (two D M) 64:=by rw [HS1.out.1]; rfl
     rw [hkv]
     exact ⟨HD.out.1.ext hEe,hre,Below.trans HD.out.2.2 (hEe.mono HD.out.2.2.size)⟩)
    clear hre hEe HD hbs
    go_upto_region 16 with (fail)
    obtain ⟨bl,hbl⟩ : ∃ bl,bl = wb2.heap.size:=⟨_,rfl⟩
    have hm16 : many ≤ 16:=HX.out.2.2.2.2.2.2
    go_loopw [9,10,12,13] (fun v9 v10 v12 v13 wl => ∃ i : Nat,i ≤ 100 ∧ v13 = .int .i64 (i : Int) ∧ (∀ j,j < i → (outN D M j).length < many) ∧ RSrc wl v9 (kvN D M i).k v12.ownBlock ∧ RSrc wl v10 (kvN D M i).v v12.ownBlock ∧ OwnN wl bl v12 (outN D M i) ∧ Ext wb2 wl)
     (fun _ _ _ v13 _ => 100 - (intOf v13).toNat)
    case atStart => exact ⟨0,by omega,rfl,(fun j hj => by omega),HE.out.1,HE.out.2.1,OwnN.nil _ _,Ext.refl _⟩
    case round =>
     obtain ⟨i,hi,rfl,hpre,hk,hv,hO,hE⟩:=hrel
     have ho : ∀ b,u12.ownBlock = some b → b < wr.heap.size:=fun b e => (hO.lt e).2
     obtain ⟨A,c,rfl,hnc⟩:=hO.form
     obtain ⟨n,hn⟩ : ∃ n,n = (outN D M i).length:=⟨_,rfl⟩
     rw [← hn] at hO hk hv ho ⊢
     by_cases h100 : i < 100
     ·
      have hd1 : decide ((i : Int) < 100) = true:=by simp; omega
      by_cases hlt : n < many
      ·
       have hd2 : decide ((n : Int) < (many : Int)) = true:=by simp; omega
       have hd3 : decide (n < many) = true:=decide_eq_true hlt
       have HOK:=veil (kvN_ok D M i)
       have HP:=veil hpre
       have HL:=veil (show (outN D M i).length < many from by rw [← hn]; exact hlt)
       have hl1000 : (outN D M i).length ≤ 1000:=by omega
       have HO:=veil (And.intro hO ho)
       have HK:=veil (And.intro hk (And.intro hv hE))
       clear hpre hnc hO ho hk hv hE hn hi
       go_wp2_with fail
       refine (zgi HRS.out (kvN D M i) HOK.out u9 u10 _ wr HK.out.1 HK.out.2.1 HO.out.2).mono ?_
       rintro e wa2 ⟨rv,rfl,hrv,hEa⟩
       have hrv0:=hrv
       obtain ⟨bv,ov,cv,rfl,hbv,_,hcv⟩:=hrv
       obtain ⟨Z,hZ⟩ : ∃ Z,Z = numN D M i:=⟨_,rfl⟩
       obtain ⟨m,hmZ⟩ : ∃ m,m = mayB Z:=⟨_,rfl⟩
       have HZZ:=veil (And.intro hZ (And.intro hmZ (show Z < top from by rw [hZ]; exact numN_lt D M i)))
       have KOf:=veil (show Calls Tryz.prog 62 #[.slice (some ⟨bv,ov,none⟩) 32 cv] wa2 fun e w' => e = .returned (nv Z) ∧ Ext wa2 w' from by
        rw [hZ]; exact rof_some bv ov 32 cv (nb (kvN D M i).k 32 (kvN D M i).v 32) (fun j => nb_lt _ _ _ _ j) (by decide) wa2 hbv hcv)
       have HV:=veil (And.intro hrv0 hEa)
       clear hrv0 hbv hcv hZ hmZ hEa
       go_upto_region 20 with (first
        | (go_at_call 62; refine KOf.out.mono ?_; rintro e wo ⟨rfl,hEo⟩)
        | ((with_reducible refine zbh ?_); refine wpList_store_row rfl 24 _ _ rfl wo.heap.size (nc Z) rfl rfl 24 _ (heap_alloc_last wo _) (iN Z) (by rfl) (zbe Z) ?_; rw [World.setRow_alloc_new]))
       have hz3 : (wo.alloc (.cells (nc Z) 24)).heap[wo.heap.size]? = some (.cells (nc Z) 24 (0,0)):=heap_alloc_last wo _
       have hE3 : Ext wa2 (wo.alloc (.cells (nc Z) 24)):=hEo.trans (Ext.alloc wo (.cells (nc Z) 24))
       generalize wo.alloc (.cells (nc Z) 24) = wp at *
       generalize wo.heap.size = gx at *
       have H3:=veil (And.intro hz3 (And.intro (HV.out.1.ext hE3) (HV.out.2.trans hE3)))
       have KM:=veil (may_calls Z HZZ.out.2.2 wp)
       rw [← HZZ.out.2.1] at KM
       clear hz3 hE3 hEo HV KOf hd1 hd2 hd3
       cases m with
       | false =>
        have hout : outN D M (i + 1) = outN D M i:=by
         show (if mayB (numN D M i) = true then _ else _) = _
         rw [← HZZ.out.1,← HZZ.out.2.1]; rfl
        go_wp2_with (first
         | ((with_reducible refine zax 68 ?_); refine wpList_load_row rfl 24 _ rfl gx rfl 24 (nc Z) (0,0) _ H3.out.1 Tryz.underlying24 rfl (iN Z) ?_)
         | (go_at_call 8; refine KM.out.mono ?_; rintro e wq ⟨rfl,hEq⟩))
        have hEp:=H3.out.2.2.trans hEq
        have HT:=veil (And.intro (HK.out.1.ext hEp) (And.intro (H3.out.2.1.ext hEq) (And.intro (HO.out.1.ext hEp) (HK.out.2.2.trans hEp))))
        clear hEp hEq H3 KM HK HO
        have KC1:=veil (show Calls Tryz.prog 64 #[u9,.slice (some ⟨bv,ov,none⟩) 32 cv,.slice (some ⟨wq.heap.size,0,none⟩) 1 1] (wq.alloc (.cells #[.int .u8 0] 5)) _ from
         code_tx HRS.out (⟨(kvN D M i).k,nb (kvN D M i).k 32 (kvN D M i).v 32⟩ : KV) ⟨HOK.out.k,fun j => nb_lt _ _ _ _ j⟩ u9 (.slice (some ⟨bv,ov,none⟩) 32 cv) _ 0 (by decide) none0 (fun _ => by show (0 : Nat) < 256; decide) 0 (by decide) (some ⟨wq.heap.size,0,none⟩) 1 (wq.alloc (.cells #[.int .u8 0] 5)) (HT.out.1.ext (Ext.alloc _ _)) (HT.out.2.1.ext (Ext.alloc _ _)) (src_one wq 0) (fun b e => Nat.lt_of_lt_of_le ((HT.out.2.2.1.lt e).2) (by simp)))
        refine KC1.out.mono ?_
        rintro e wu ⟨rk,rfl,hrk,hEu⟩
        have hru:=(HT.out.2.1.ext (Ext.alloc wq (.cells #[.int .u8 0] 5))).ext hEu
        have KC2:=veil (zgi HRS.out (⟨nb (kvN D M i).k 32 (tx (nb (kvN D M i).k 32 (kvN D M i).v 32) 0 none0) (33 + 0),nb (kvN D M i).k 32 (kvN D M i).v 32⟩ : KV) ⟨fun j => nb_lt _ _ _ _ j,fun j => nb_lt _ _ _ _ j⟩ rk (.slice (some ⟨bv,ov,none⟩) 32 cv) _ wu hrk hru (fun b e => Nat.lt_of_lt_of_le ((HT.out.2.2.1.lt e).2) (Nat.le_trans (by simp) hEu.size)))
        have HU:=veil (And.intro hrk hEu)
        clear hrk hEu hru KC1
        go_wp2_with fail
        refine KC2.out.mono ?_
        rintro e wx ⟨rx,rfl,hrx,hEx⟩
        have hEt : Ext wq wx:=((Ext.alloc wq (.cells #[.int .u8 0] 5)).trans HU.out.2).trans hEx
        have hOx:=HT.out.2.2.1.ext hEt
        have hEl:=Below.trans HT.out.2.2.2 (hEt.mono HT.out.2.2.2.size)
        have hrk:=HU.out.1.ext hEx
        rw [← hout] at hOx
        have HF2:=veil (show RSrc wx rk (kvN D M (i + 1)).k _ ∧ RSrc wx rx (kvN D M (i + 1)).v _ ∧ OwnN wx bl _ (outN D M (i + 1)) ∧ Ext wb2 wx from ⟨hrk,hrx,hOx,hEl⟩)
        clear KC2 HU HT hEx hEt hrx hOx hEl hrk
        go_wp2
        go_roundw
        case rel => exact ⟨i + 1,by omega,by go_num,pre_more HP.out HL.out,HF2.out.1,HF2.out.2.1,HF2.out.2.2.1,HF2.out.2.2.2⟩
        case measure => simp [intOf]; omega
       | true =>
        have hout : outN D M (i + 1) = outN D M i ++ [Z]:=by
         show (if mayB (numN D M i) = true then _ ++ _ else _) = _
         rw [← HZZ.out.1,← HZZ.out.2.1]; rfl
        have hnc4 : (nc Z).size = 4:=rfl
        go_wp2_with (first
         | ((with_reducible refine zax 68 ?_); refine wpList_load_row rfl 24 _ rfl gx rfl 24 (nc Z) (0,0) _ H3.out.1 Tryz.underlying24 rfl (iN Z) ?_)
         | (go_at_call 8; refine KM.out.mono ?_; rintro e wq ⟨rfl,hEq⟩)
         | ((with_reducible refine zax 72 ?_); refine wpList_load_row rfl 24 _ rfl gx rfl 24 (nc Z) (0,0) _ (hEq.block H3.out.1) Tryz.underlying24 rfl (iN Z) ?_)
         | ((with_reducible refine zax 74 ?_); refine wpl_append_num' rfl _ _ rfl bl (.slice A n c) (outN D M i) rfl ((HO.out.1.ext (H3.out.2.2.trans hEq)).ext (Ext.alloc _ (.cells (nc Z) 24))) wq.heap.size Z rfl (heap_alloc_last wq _) hl1000 (hbl ▸ Nat.le_trans HK.out.2.2.size (Nat.le_trans (Below.size (H3.out.2.2.trans hEq)) (by simp))) ?_; intro v12 w12 hO12 hg12 ha12))
        have hEp:=(H3.out.2.2.trans hEq).trans (Ext.alloc wq (.cells (nc Z) 24))
        have hB12 : Ext wb2 w12:=zct (HK.out.2.2.trans hEp) hg12 (Nat.le_trans HK.out.2.2.size (Below.size hEp)) (fun k e => by have:=(HO.out.1.lt e).1; omega)
        have HT:=veil (And.intro ((HK.out.1.ext hEp).grown hg12 ha12) (And.intro ((H3.out.2.1.ext (hEq.trans (Ext.alloc wq (.cells (nc Z) 24)))).grown hg12 ha12) (And.intro hO12 hB12)))
        clear hEp hEq H3 KM HK HO hO12 hg12 ha12 hB12 hnc4
        have KC1:=veil (show Calls Tryz.prog 64 #[u9,.slice (some ⟨bv,ov,none⟩) 32 cv,.slice (some ⟨w12.heap.size,0,none⟩) 1 1] (w12.alloc (.cells #[.int .u8 0] 5)) _ from
         code_tx HRS.out (⟨(kvN D M i).k,nb (kvN D M i).k 32 (kvN D M i).v 32⟩ : KV) ⟨HOK.out.k,fun j => nb_lt _ _ _ _ j⟩ u9 (.slice (some ⟨bv,ov,none⟩) 32 cv) _ 0 (by decide) none0 (fun _ => by show (0 : Nat) < 256; decide) 0 (by decide) (some ⟨w12.heap.size,0,none⟩) 1 (w12.alloc (.cells #[.int .u8 0] 5)) (HT.out.1.ext (Ext.alloc _ _)) (HT.out.2.1.ext (Ext.alloc _ _)) (src_one w12 0) (fun b e => Nat.lt_of_lt_of_le ((HT.out.2.2.1.lt e).2) (by simp)))
        refine KC1.out.mono ?_
        rintro e wu ⟨rk,rfl,hrk,hEu⟩
        have hru:=(HT.out.2.1.ext (Ext.alloc w12 (.cells #[.int .u8 0] 5))).ext hEu
        have KC2:=veil (zgi HRS.out (⟨nb (kvN D M i).k 32 (tx (nb (kvN D M i).k 32 (kvN D M i).v 32) 0 none0) (33 + 0),nb (kvN D M i).k 32 (kvN D M i).v 32⟩ : KV) ⟨fun j => nb_lt _ _ _ _ j,fun j => nb_lt _ _ _ _ j⟩ rk (.slice (some ⟨bv,ov,none⟩) 32 cv) _ wu hrk hru (fun b e => Nat.lt_of_lt_of_le ((HT.out.2.2.1.lt e).2) (Nat.le_trans (by simp) hEu.size)))
        have HU:=veil (And.intro hrk hEu)
        clear hrk hEu hru KC1
        go_wp2_with fail
        refine KC2.out.mono ?_
        rintro e wx ⟨rx,rfl,hrx,hEx⟩
        have hEt : Ext w12 wx:=((Ext.alloc w12 (.cells #[.int .u8 0] 5)).trans HU.out.2).trans hEx
        have hOx:=HT.out.2.2.1.ext hEt
        have hEl:=Below.trans HT.out.2.2.2 (hEt.mono HT.out.2.2.2.size)
        have hrk:=HU.out.1.ext hEx
        rw [← hout] at hOx
        have HF2:=veil (show RSrc wx rk (kvN D M (i + 1)).k _ ∧ RSrc wx rx (kvN D M (i + 1)).v _ ∧ OwnN wx bl _ (outN D M (i + 1)) ∧ Ext wb2 wx from ⟨hrk,hrx,hOx,hEl⟩)
        clear KC2 HU HT hEx hEt hrx hOx hEl hrk
        go_wp2
        go_roundw
        case rel => exact ⟨i + 1,by omega,by go_num,pre_more HP.out HL.out,HF2.out.1,HF2.out.2.1,HF2.out.2.2.1,HF2.out.2.2.2⟩
        case measure => simp [intOf]; omega
      ·
       have hd2 : decide ((n : Int) < (many : Int)) = false:=by simp; omega
       have hd3 : decide (n < many) = false:=decide_eq_false hlt
       have hEnd:=veil (show Ends D M many i from ⟨hi,hpre,.inr (by rw [← hn]; exact hlt)⟩)
       have HO:=veil (And.intro hO hE)
       clear hpre hnc hO ho hk hv hE hn
       go_wp2
       go_ret
       exact ⟨i,_,hEnd.out,rfl,HO.out.1.base_le (hbl ▸ HE.out.2.2.size),Below.trans HE.out.2.2 (HO.out.2.mono HE.out.2.2.size)⟩
     ·
      have hd1 : decide ((i : Int) < 100) = false:=by simp; omega
      obtain rfl : i = 100:=by omega
      have hEnd:=veil (show Ends D M many 100 from ⟨Nat.le_refl _,hpre,.inl rfl⟩)
      have HO:=veil (And.intro hO hE)
      clear hpre hnc hO ho hk hv hE hn
      go_wp2
      go_ret
      exact ⟨100,_,hEnd.out,rfl,HO.out.1.base_le (hbl ▸ HE.out.2.2.size),Below.trans HE.out.2.2 (HO.out.2.mono HE.out.2.2.size)⟩
def mOf (y : Nat → Nat) (n q : Nat) : Nat → Nat:=fun t => word (padded y n) (64 * q + 4 * t)
theorem zga {y : Nat → Nat} (hy : ∀ j,y j < 256) (n i : Nat) : padded y n i < 256:=by
 unfold padded
 split
 ·
  exact hy i
 ·
  split
  ·
   omega
  ·
   split
   ·
    omega
   ·
    exact Nat.mod_lt _ (by omega)
theorem word_lt {b : Nat → Nat} (hb : ∀ j,b j < 256) (i : Nat) : word b i < 2 ^ 32:=by
 unfold word
 have h0:=hb i; have h1:=hb (i + 1); have h2:=hb (i + 2); have h3:=hb (i + 3)
 omega
theorem mOf_lt {y : Nat → Nat} (hy : ∀ j,y j < 256) (n q t : Nat) : wt (mOf y n q) t < 2 ^ 32:=wt_lt (fun _ _ => word_lt (zga hy n) _) t
theorem t4_alloc {gT i i1 i2 i3 : Nat} {v0 v1 v2 v3 : Value} {W : World} {o : Obj} (hlt : gT < W.heap.size) (h : W.cell? ⟨gT,i,none⟩ = some v0 ∧ W.cell? ⟨gT,i1,none⟩ = some v1 ∧ W.cell? ⟨gT,i2,none⟩ = some v2 ∧ W.cell? ⟨gT,i3,none⟩ = some v3) :
  (W.alloc o).cell? ⟨gT,i,none⟩ = some v0 ∧ (W.alloc o).cell? ⟨gT,i1,none⟩ = some v1 ∧ (W.alloc o).cell? ⟨gT,i2,none⟩ = some v2 ∧ (W.alloc o).cell? ⟨gT,i3,none⟩ = some v3:=by
 have e : ∀ j,(W.alloc o).cell? ⟨gT,j,none⟩ = W.cell? ⟨gT,j,none⟩:=fun j => World.cell?_alloc_lt _ _ _ hlt
 rw [e,e,e,e]; exact h
theorem t4_grown {gT i i1 i2 i3 : Nat} {v0 v1 v2 v3 : Value} {W W' : World} {row : Option Nat} (hg : W.grownBy W' row) (hlt : gT < W.heap.size) (hne : some gT ≠ row) (h : W.cell? ⟨gT,i,none⟩ = some v0 ∧ W.cell? ⟨gT,i1,none⟩ = some v1 ∧ W.cell? ⟨gT,i2,none⟩ = some v2 ∧ W.cell? ⟨gT,i3,none⟩ = some v3) :
  W'.cell? ⟨gT,i,none⟩ = some v0 ∧ W'.cell? ⟨gT,i1,none⟩ = some v1 ∧ W'.cell? ⟨gT,i2,none⟩ = some v2 ∧ W'.cell? ⟨gT,i3,none⟩ = some v3:=by
 have e : ∀ j,W'.cell? ⟨gT,j,none⟩ = W.cell? ⟨gT,j,none⟩:=fun j => hg.cell_far ⟨gT,j,none⟩ hlt hne
 rw [e,e,e,e]; exact h
theorem t2_alloc {g i j : Nat} {v0 v1 : Value} {W : World} {o : Obj} (hlt : g < W.heap.size) (h : W.cell? ⟨g,i,none⟩ = some v0 ∧ W.cell? ⟨g,j,none⟩ = some v1) :
  (W.alloc o).cell? ⟨g,i,none⟩ = some v0 ∧ (W.alloc o).cell? ⟨g,j,none⟩ = some v1:=by
 have e : ∀ j,(W.alloc o).cell? ⟨g,j,none⟩ = W.cell? ⟨g,j,none⟩:=fun j => World.cell?_alloc_lt _ _ _ hlt
 rw [e,e]; exact h
theorem t2_same {g i j n : Nat} {v0 v1 : Value} {W W' : World} (hi : i < n) (hj : j < n) (hs : ∀ j,j < n → W'.cell? ⟨g,j,none⟩ = W.cell? ⟨g,j,none⟩) (h : W.cell? ⟨g,i,none⟩ = some v0 ∧ W.cell? ⟨g,j,none⟩ = some v1) :
  W'.cell? ⟨g,i,none⟩ = some v0 ∧ W'.cell? ⟨g,j,none⟩ = some v1:=by
 rw [hs i hi,hs j hj]; exact h
def findBlock (k : Nat) : Code → Option Code
 | .block j c => if j = k then some (.block j c) else findBlock k c
 | .seq a b => match findBlock k a with
  | some c => some c
  | none => findBlock k b
 | .cond _ a b => match findBlock k a with
  | some c => some c
  | none => findBlock k b
 | .loop c => findBlock k c
 | .scope c => findBlock k c
 | _ => none
noncomputable def piece (k : Nat) : Code:=(Tryz.f122.body.bind (findBlock k)).getD .skip
theorem sched_piece {u0 u1 u2 u4 u5 u6 u7 u8 u12 u13 u14 u15 u16 u17 u18 u19 u20 u21 u22 u23 u24 u25 u26 u27 u28 u29 u30 u31 u32 u33 u34 u35 u36 u37 u38 u39 u40 u41 u42 u43 u44 u45 u46 u47 u48 u49 u50 u51 u52 u53 u54 u55 u56 u57 u58 u59 u60 u61 u62 u63 u64 u65 u66 u67 u68 u69 u70 u71 u72 u73 u74 u75 u76 u77 u78 u79 u80 u81 u82 u83 u84 u85 u86 u87 u88 u89 u90 u91 u92 u93 u94 u95 u96 u97 u98 u99 u100 u101 u102 u103 u104 u105 u106 u107 u108 u109 u110 u111 u112 u113 u114 u115 u116 u117 u118 u119 u120 u121 u122 u123 u124 u125 u126 u127 u128 u129 u130 u131 u132 u133 u134 u135 u136 u137 u138 u139 u140 u141 u142 u143 u144 u145 u146 u147 u148 u149 u150 u151 u152 u153 u154 u155 u156 u157 u158 u159 u160 u161 u162 u163 u164 u165 u166 u167 u168 u169 u170 u171 u172 u173 u174 u175 u176 u177 u178 u179 u180 u181 u182 u183 u184 u185 u186 u187 u188 u189 u190 u191 u192 u193 u194 u195 u196 u197 u198 u199 u200 u201 u202 u203 u204 u205 u206 u207 u208 u209 u210 u211 u212 u213 u214 u215 u216 u217 u218 u219 u220 u221 u222 u223 u224 u225 u226 u227 u228 u229 u230 u231 u232 u233 u234 u235 u236 u237 u238 u239 u240 u241 u242 u243 u244 u245 u246 u247 u248 u249 u250 u251 u252 u253 u254 u255 u256 u257 u258 u259 u260 u261 u262 u263 u264 u265 u266 u267 u268 u269 u270 u271 u272 u273 u274 u275 u276 u277 u278 u279 u280 u281 u282 u283 u284 u285 u286 u287 u288 u289 u290 u291 u292 u293 u294 u295 u296 u297 u298 u299 u300 u301 u302 u303 u304 u305 u306 u307 u308 u309 u310 u311 u312 u313 u314 u315 u316 u317 u318 u319 u320 u321 u322 u323 u324 u325 u326 u327 u328 u329 u330 u331 u332 : Value} {w wr : World} {gR gT gH gK N cT : Nat} {y : Nat → Nat} {n q a : Nat} {st : Nat → Value} {Q0 : Exit → Act → World → Prop} (hy : ∀ j,y j < 256) (ha : a = 64 * q) (haN : a + 64 ≤ N) (hN : N ≤ 2097152)
  (hF : RF w wr gR gT gH gK N (txv y n) st)
  (hQ : ∀ (x11 x12 x13 x14 x15 x16 x66 x67 x68 x69 x70 x71 x72 x73 x74 x75 x76 x77 x78 x79 x80 x81 x82 x83 x84 x85 x86 x87 x88 x89 x90 x91 x92 x93 x94 x95 x96 x97 x98 x99 x100 x101 x102 x103 x104 x105 x106 x107 x108 x109 x110 x111 x112 x113 x114 x115 x116 x117 x118 x119 x120 x121 x122 x123 x124 x125 x126 x127 x128 x129 x130 x131 x132 x133 x134 x135 x136 x137 x138 x139 x140 x141 x142 x143 x144 x145 x146 x147 x148 x149 x150 x151 : Value) (gW cW : Nat) (w' : World),RF w w' gR gT gH gK N (txv y n) st → Pre w' gW 114 64 (fun j => .int .u32 (wt (mOf y n q) j : Nat)) → gK < gW →
   Q0 .normal ⟨#[u0,u1,u2,.slice (some ⟨gT,0,none⟩) N cT,u4,u5,u6,u7,u8,.int .i64 (a : Int),.slice (some ⟨gW,0,none⟩) 64 cW,x11,x12,x13,x14,x15,x16,u17,u18,u19,u20,u21,u22,u23,u24,u25,u26,u27,u28,u29,u30,u31,u32,u33,u34,u35,u36,u37,u38,u39,u40,u41,u42,u43,u44,u45,u46,u47,u48,u49,u50,u51,u52,u53,u54,u55,u56,u57,u58,u59,u60,u61,u62,u63,u64,u65,x66,x67,x68,x69,x70,x71,x72,x73,x74,x75,x76,x77,x78,x79,x80,x81,x82,x83,x84,x85,x86,x87,x88,x89,x90,x91,x92,x93,x94,x95,x96,x97,x98,x99,x100,x101,x102,x103,x104,x105,x106,x107,x108,x109,x110,x111,x112,x113,x114,x115,x116,x117,x118,x119,x120,x121,x122,x123,x124,x125,x126,x127,x128,x129,x130,x131,x132,x133,x134,x135,x136,x137,x138,x139,x140,x141,x142,x143,x144,x145,x146,x147,x148,x149,x150,x151,u152,u153,u154,u155,u156,u157,u158,u159,u160,u161,u162,u163,u164,u165,u166,u167,u168,u169,u170,u171,u172,u173,u174,u175,u176,u177,u178,u179,u180,u181,u182,u183,u184,u185,u186,u187,u188,u189,u190,u191,u192,u193,u194,u195,u196,u197,u198,u199,u200,u201,u202,u203,u204,u205,u206,u207,u208,u209,u210,u211,u212,u213,u214,u215,u216,u217,u218,u219,u220,u221,u222,u223,u224,u225,u226,u227,u228,u229,u230,u231,u232,u233,u234,u235,u236,u237,u238,u239,u240,u241,u242,u243,u244,u245,u246,u247,u248,u249,u250,u251,u252,u253,u254,u255,u256,u257,u258,u259,u260,u261,u262,u263,u264,u265,u266,u267,u268,u269,u270,u271,u272,u273,u274,u275,u276,u277,u278,u279,u280,u281,u282,u283,u284,u285,u286,u287,u288,u289,u290,u291,u292,u293,u294,u295,u296,u297,u298,u299,u300,u301,u302,u303,u304,u305,u306,u307,u308,u309,u310,u311,u312,u313,u314,u315,u316,u317,u318,u319,u320,u321,u322,u323,u324,u325,u326,u327,u328,u329,u330,u331,u332],[]⟩ w') :
  Code.wp Tryz.prog (piece 6) Q0 ⟨#[u0,u1,u2,.slice (some ⟨gT,0,none⟩) N cT,u4,u5,u6,u7,u8,.int .i64 (a : Int),.slice none 0 0,.int .i64 0,u12,u13,u14,u15,u16,u17,u18,u19,u20,u21,u22,u23,u24,u25,u26,u27,u28,u29,u30,u31,u32,u33,u34,u35,u36,u37,u38,u39,u40,u41,u42,u43,u44,u45,u46,u47,u48,u49,u50,u51,u52,u53,u54,u55,u56,u57,u58,u59,u60,u61,u62,u63,u64,u65,u66,u67,u68,u69,u70,u71,u72,u73,u74,u75,u76,u77,u78,u79,u80,u81,u82,u83,u84,u85,u86,u87,u88,u89,u90,u91,u92,u93,u94,u95,u96,u97,u98,u99,u100,u101,u102,u103,u104,u105,u106,u107,u108,u109,u110,u111,u112,u113,u114,u115,u116,u117,u118,u119,u120,u121,u122,u123,u124,u125,u126,u127,u128,u129,u130,u131,u132,u133,u134,u135,u136,u137,u138,u139,u140,u141,u142,u143,u144,u145,u146,u147,u148,u149,u150,u151,u152,u153,u154,u155,u156,u157,u158,u159,u160,u161,u162,u163,u164,u165,u166,u167,u168,u169,u170,u171,u172,u173,u174,u175,u176,u177,u178,u179,u180,u181,u182,u183,u184,u185,u186,u187,u188,u189,u190,u191,u192,u193,u194,u195,u196,u197,u198,u199,u200,u201,u202,u203,u204,u205,u206,u207,u208,u209,u210,u211,u212,u213,u214,u215,u216,u217,u218,u219,u220,u221,u222,u223,u224,u225,u226,u227,u228,u229,u230,u231,u232,u233,u234,u235,u236,u237,u238,u239,u240,u241,u242,u243,u244,u245,u246,u247,u248,u249,u250,u251,u252,u253,u254,u255,u256,u257,u258,u259,u260,u261,u262,u263,u264,u265,u266,u267,u268,u269,u270,u271,u272,u273,u274,u275,u276,u277,u278,u279,u280,u281,u282,u283,u284,u285,u286,u287,u288,u289,u290,u291,u292,u293,u294,u295,u296,u297,u298,u299,u300,u301,u302,u303,u304,u305,u306,u307,u308,u309,u310,u311,u312,u313,u314,u315,u316,u317,u318,u319,u320,u321,u322,u323,u324,u325,u326,u327,u328,u329,u330,u331,u332],[]⟩ wr:=by
 conv => arg 2; whnf
 obtain ⟨i32,hi32,hw0,hw1,hw2⟩:=info_parts infoU32
 have HI4:=veil (And.intro hi32 (And.intro hw0 (And.intro hw1 hw2)))
 have HQ:=veil hQ
 have HY:=veil hy
 have HA:=veil ha
 have hO0 : Own wr (gK + 1) 114 (.slice none 0 0) 0 (fun j => .int .u32 (wt (mOf y n q) j : Nat)):=Own.nil _ _ _ _
 clear hQ hi32 hw0 hw1 hw2 hy ha
 go_wp2
 go_loopw [10,11] (fun v10 v11 wr => ∃ t : Nat,t ≤ 64 ∧ v11 = .int .i64 (t : Int) ∧ Own wr (gK + 1) 114 v10 t (fun j => .int .u32 (wt (mOf y n q) j : Nat)) ∧ RF w wr gR gT gH gK N (txv y n) st)
  (fun _ v11 _ => 64 - (intOf v11).toNat)
 case atStart => exact ⟨0,by omega,rfl,hO0,hF⟩
 case round =>
  obtain ⟨t,ht,rfl,hO,hF⟩:=hrel
  by_cases hlt : t < 64
  ·
   by_cases h16 : t < 16
   ·
    have hd1 : decide ((t : Int) < 64) = true:=by simp; omega
    have hd2 : decide ((t : Int) < 16) = true:=by simp; omega
    have hz:=hF.lt
    obtain ⟨i,hi⟩ : ∃ i,i = 64 * q + 4 * t:=⟨_,rfl⟩
    have hai:=HA.out
    have e1 : (a : Int) + 4 * (t : Int) = (i : Int):=by omega
    have e2 : (i : Int) + 1 = ((i + 1 : Nat) : Int):=by omega
    have e3 : (i : Int) + 2 = ((i + 2 : Nat) : Int):=by omega
    have e4 : (i : Int) + 3 = ((i + 3 : Nat) : Int):=by omega
    have hi3 : i + 3 < N:=by omega
    obtain ⟨b0,hb0⟩ : ∃ b,b = padded y n i:=⟨_,rfl⟩
    obtain ⟨b1,hb1⟩ : ∃ b,b = padded y n (i + 1):=⟨_,rfl⟩
    obtain ⟨b2,hb2⟩ : ∃ b,b = padded y n (i + 2):=⟨_,rfl⟩
    obtain ⟨b3,hb3⟩ : ∃ b,b = padded y n (i + 3):=⟨_,rfl⟩
    have l0 : b0 < 256:=by rw [hb0]; exact zga HY.out n _
    have l1 : b1 < 256:=by rw [hb1]; exact zga HY.out n _
    have l2 : b2 < 256:=by rw [hb2]; exact zga HY.out n _
    have l3 : b3 < 256:=by rw [hb3]; exact zga HY.out n _
    have c0 : wr.cell? ⟨gT,i,none⟩ = some (.int .u8 (b0 : Int)):=by rw [hF.text.cell (by omega),hb0]; rfl
    have c1 : wr.cell? ⟨gT,i + 1,none⟩ = some (.int .u8 (b1 : Int)):=by rw [hF.text.cell (by omega),hb1]; rfl
    have c2 : wr.cell? ⟨gT,i + 2,none⟩ = some (.int .u8 (b2 : Int)):=by rw [hF.text.cell (by omega),hb2]; rfl
    have c3 : wr.cell? ⟨gT,i + 3,none⟩ = some (.int .u8 (b3 : Int)):=by rw [hF.text.cell (by omega),hb3]; rfl
    have hx : wt (mOf y n q) t = b0 * 16777216 + b1 * 65536 + b2 * 256 + b3:=by
     rw [wt_lo _ h16,hb0,hb1,hb2,hb3,hi]; rfl
    generalize i + 1 = i1 at *
    generalize i + 2 = i2 at *
    generalize i + 3 = i3 at *
    obtain ⟨P0,hP0⟩ : ∃ P,P = b0 * 16777216:=⟨_,rfl⟩
    obtain ⟨P1,hP1⟩ : ∃ P,P = b1 * 65536:=⟨_,rfl⟩
    obtain ⟨P2,hP2⟩ : ∃ P,P = b2 * 256:=⟨_,rfl⟩
    obtain ⟨s1,hs1⟩ : ∃ s,s = P0 + P1:=⟨_,rfl⟩
    obtain ⟨s2,hs2⟩ : ∃ s,s = s1 + P2:=⟨_,rfl⟩
    obtain ⟨x,hxx⟩ : ∃ s,s = s2 + b3:=⟨_,rfl⟩
    have r1 : (b0 : Int) * 16777216 = (P0 : Int):=by omega
    have r2 : (b1 : Int) * 65536 = (P1 : Int):=by omega
    have r3 : (b2 : Int) * 256 = (P2 : Int):=by omega
    have r4 : (P0 : Int) + (P1 : Int) = (s1 : Int):=by omega
    have r5 : (s1 : Int) + (P2 : Int) = (s2 : Int):=by omega
    have r6 : (s2 : Int) + (b3 : Int) = (x : Int):=by omega
    have kk1 : IntKind.u32.wrap (P0 : Int) = (P0 : Int):=by rw [wrap32]; omega
    have kk2 : IntKind.u32.wrap (P1 : Int) = (P1 : Int):=by rw [wrap32]; omega
    have kk3 : IntKind.u32.wrap (P2 : Int) = (P2 : Int):=by rw [wrap32]; omega
    have kk4 : IntKind.u32.wrap (s1 : Int) = (s1 : Int):=by rw [wrap32]; omega
    have kk5 : IntKind.u32.wrap (s2 : Int) = (s2 : Int):=by rw [wrap32]; omega
    have kk6 : IntKind.u32.wrap (x : Int) = (x : Int):=by rw [wrap32]; omega
    have kk7 : IntKind.u32.wrap (b0 : Int) = (b0 : Int):=by rw [wrap32]; omega
    have kk8 : IntKind.u32.wrap (b1 : Int) = (b1 : Int):=by rw [wrap32]; omega
    have kk9 : IntKind.u32.wrap (b2 : Int) = (b2 : Int):=by rw [wrap32]; omega
    have kk10 : IntKind.u32.wrap (b3 : Int) = (b3 : Int):=by rw [wrap32]; omega
    have z1 : IntKind.i64.wrap (i1 : Int) = (i1 : Int):=IntWalk.i64_in _ (by omega)
    have z2 : IntKind.i64.wrap (i2 : Int) = (i2 : Int):=IntWalk.i64_in _ (by omega)
    have z3 : IntKind.i64.wrap (i3 : Int) = (i3 : Int):=IntWalk.i64_in _ (by omega)
    have z0 : IntKind.i64.wrap (i : Int) = (i : Int):=IntWalk.i64_in _ (by omega)
    have n0 : (i : Int) < (N : Int):=by omega
    have n1 : (i1 : Int) < (N : Int):=by omega
    have n2 : (i2 : Int) < (N : Int):=by omega
    have n3 : (i3 : Int) < (N : Int):=by omega
    have hX : wt (mOf y n q) t = x:=by omega
    have hgT : gT < wr.heap.size:=hF.text.lt
    have hgTK : gT < gK + 1:=by have:=hF.o2; have:=hF.o3; omega
    have HX:=veil (And.intro hX (And.intro hgT (And.intro hgTK hlt)))
    have hFr : From (wr.alloc (.cells #[.int .u32 (x : Int)] 114)).drew (some ⟨wr.heap.size,0,none⟩) 1 (fun _ => .int .u32 (x : Int)):=zdp wr (.int .u32 (x : Int)) 114
    have HL:=veil (And.intro ((hO.alloc (.cells #[.int .u32 (x : Int)] 114)).drew) (And.intro hFr hF))
    have HB:=veil (show t + 1 ≤ maxLen ∧ (t + 1) * 4 ≤ 140737488355328 ∧ gK + 1 ≤ ((wr.alloc (.cells #[.int .u32 (x : Int)] 114)).drew).heap.size from ⟨by unfold maxLen; omega,by omega,by show gK + 1 ≤ (wr.heap.push _).size; simp; omega⟩)
    clear hX hgT hgTK hFr hF hO hx hP0 hP1 hP2 hs1 hs2 hxx hb0 hb1 hb2 hb3 hi hai hi3 hlt h16 hz
    go_wp2_with fail
    go_region_held3 (fun w' => w'.cell? ⟨gT,i,none⟩ = some (.int .u8 (b0 : Int)) ∧ w'.cell? ⟨gT,i1,none⟩ = some (.int .u8 (b1 : Int)) ∧ w'.cell? ⟨gT,i2,none⟩ = some (.int .u8 (b2 : Int)) ∧ w'.cell? ⟨gT,i3,none⟩ = some (.int .u8 (b3 : Int)))
     (first
      | with_reducible assumption
      | exact ⟨c0,c1,c2,c3⟩
      | with_reducible exact t4_alloc HX.out.2.1 (by assumption)
      | exact t4_alloc HX.out.2.1 (by assumption)
      | exact t4_grown hgrow (by have:=HX.out; simp; omega) (fun e => by have:=(HL.out.1.lt e.symm).1; have:=HX.out; omega) (by assumption))
     ((refine zdk _ (by rfl) _ _ _ (by rfl) (gK + 1) 114 i32 (.int .u32 0) 4 Tryz.underlying147 HI4.out.1 HI4.out.2.1 HI4.out.2.2.1 HI4.out.2.2.2 rfl u10 t _ (by rfl) HL.out.1 (some ⟨wr.heap.size,0,none⟩) 1 1 (by rfl) _ HL.out.2.1 (fun _ => rfl) HB.out.1 HB.out.2.1 HB.out.2.2 ?_; intro v' w1 hown1 hgrow hat hsame; obtain ⟨g1,k1,rfl,hcc,hgg,hpre⟩:=hown1.pre (Nat.succ_pos t)))
    have hF1:=((HL.out.2.2.alloc (.cells #[.int .u32 (x : Int)] 114)).drew).grown hgrow (fun k e => (HL.out.1.lt e).1)
    have hO1 : Own w1 (gK + 1) 114 (.slice (some ⟨g1,0,none⟩) (t + 1) k1) (t + 1) (fun j => .int .u32 (wt (mOf y n q) j : Nat)):=hown1.congr fun j hj => by
     by_cases h : j < t
     ·
      rw [if_pos h]
     ·
      rw [if_neg h,← HX.out.1,show j = t by omega]
    clear hown1 hgrow hat hsame hpre HL HB c0 c1 c2 c3
    rename_i hHeld
    clear hHeld
    have hlt:=HX.out.2.2.2
    go_wp2
    go_roundw
    case rel => exact ⟨t + 1,by omega,by go_num,hO1,hF1⟩
    case measure => simp [intOf]; omega
   ·
    obtain ⟨gv,cv,rfl,hcv,hgv,hpv⟩:=hO.pre (show 0 < t by omega)
    have hd1 : decide ((t : Int) < 64) = true:=by simp; omega
    have hd2 : decide ((t : Int) < 16) = false:=by simp; omega
    have c2:=hpv.cell (show t - 2 < t by omega)
    have c7:=hpv.cell (show t - 7 < t by omega)
    have c15:=hpv.cell (show t - 15 < t by omega)
    have c16:=hpv.cell (show t - 16 < t by omega)
    have hwt:=wt_hi (mOf y n q) h16
    have l2:=mOf_lt HY.out n q (t - 2)
    have l7:=mOf_lt HY.out n q (t - 7)
    have l15:=mOf_lt HY.out n q (t - 15)
    have l16:=mOf_lt HY.out n q (t - 16)
    have i2 : (t : Int) - 2 = ((t - 2 : Nat) : Int):=by omega
    have i7 : (t : Int) - 7 = ((t - 7 : Nat) : Int):=by omega
    have i15 : (t : Int) - 15 = ((t - 15 : Nat) : Int):=by omega
    have i16 : (t : Int) - 16 = ((t - 16 : Nat) : Int):=by omega
    have b2 : t - 2 < t:=by omega
    have b7 : t - 7 < t:=by omega
    have b15 : t - 15 < t:=by omega
    have b16 : t - 16 < t:=by omega
    obtain ⟨x2,hx2⟩ : ∃ x,x = wt (mOf y n q) (t - 2):=⟨_,rfl⟩
    obtain ⟨x7,hx7⟩ : ∃ x,x = wt (mOf y n q) (t - 7):=⟨_,rfl⟩
    obtain ⟨x15,hx15⟩ : ∃ x,x = wt (mOf y n q) (t - 15):=⟨_,rfl⟩
    obtain ⟨x16,hx16⟩ : ∃ x,x = wt (mOf y n q) (t - 16):=⟨_,rfl⟩
    rw [← hx2] at c2 hwt l2
    rw [← hx7] at c7 hwt l7
    rw [← hx15] at c15 hwt l15
    rw [← hx16] at c16 hwt l16
    generalize t - 2 = t2 at *
    generalize t - 7 = t7 at *
    generalize t - 15 = t15 at *
    generalize t - 16 = t16 at *
    obtain ⟨s0,hs0⟩ : ∃ s,s = sg0 x15:=⟨_,rfl⟩
    obtain ⟨s1,hs1⟩ : ∃ s,s = sg1 x2:=⟨_,rfl⟩
    rw [← hs0,← hs1] at hwt
    obtain ⟨A1,hA1⟩ : ∃ s,s = ad s1 x7:=⟨_,rfl⟩
    obtain ⟨A2,hA2⟩ : ∃ s,s = ad A1 s0:=⟨_,rfl⟩
    obtain ⟨x,hxx⟩ : ∃ s,s = ad A2 x16:=⟨_,rfl⟩
    rw [← hA1,← hA2,← hxx] at hwt
    have a1 : ((s1 : Int) + (x7 : Int)) % 4294967296 = (A1 : Int):=by rw [zek,hA1]
    have a2 : ((A1 : Int) + (s0 : Int)) % 4294967296 = (A2 : Int):=by rw [zek,hA2]
    have a3 : ((A2 : Int) + (x16 : Int)) % 4294967296 = (x : Int):=by rw [zek,hxx]
    have a4 : IntKind.u32.wrap ((s1 : Int) + (x7 : Int)) = (A1 : Int):=by rw [zdr,hA1]
    have a5 : IntKind.u32.wrap ((A1 : Int) + (s0 : Int)) = (A2 : Int):=by rw [zdr,hA2]
    have a6 : IntKind.u32.wrap ((A2 : Int) + (x16 : Int)) = (x : Int):=by rw [zdr,hxx]
    have w2 : IntKind.i64.wrap (t2 : Int) = (t2 : Int):=IntWalk.i64_in _ (by omega)
    have w7 : IntKind.i64.wrap (t7 : Int) = (t7 : Int):=IntWalk.i64_in _ (by omega)
    have w15 : IntKind.i64.wrap (t15 : Int) = (t15 : Int):=IntWalk.i64_in _ (by omega)
    have w16 : IntKind.i64.wrap (t16 : Int) = (t16 : Int):=IntWalk.i64_in _ (by omega)
    have j2 : (t2 : Int) < (t : Int):=by omega
    have j7 : (t7 : Int) < (t : Int):=by omega
    have j15 : (t15 : Int) < (t : Int):=by omega
    have j16 : (t16 : Int) < (t : Int):=by omega
    obtain ⟨ra,hra,lra⟩ : ∃ r,r = rot x15 7 ∧ r < 2 ^ 32:=⟨_,rfl,zby (by omega) l15⟩
    obtain ⟨rb,hrb,lrb⟩ : ∃ r,r = rot x15 18 ∧ r < 2 ^ 32:=⟨_,rfl,zby (by omega) l15⟩
    obtain ⟨rc,hrc,lrc⟩ : ∃ r,r = x15 / 2 ^ 3 ∧ r < 2 ^ 32:=⟨_,rfl,shr_lt 3 l15⟩
    obtain ⟨rd,hrd,lrd⟩ : ∃ r,r = rot x2 17 ∧ r < 2 ^ 32:=⟨_,rfl,zby (by omega) l2⟩
    obtain ⟨re,hre,lre⟩ : ∃ r,r = rot x2 19 ∧ r < 2 ^ 32:=⟨_,rfl,zby (by omega) l2⟩
    obtain ⟨rf,hrf,lrf⟩ : ∃ r,r = x2 / 2 ^ 10 ∧ r < 2 ^ 32:=⟨_,rfl,shr_lt 10 l2⟩
    have R1 : Hid (∀ W,Calls Tryz.prog 133 #[.int .u32 (x15 : Int),.int .i64 7] W fun e w' => e = .returned (.int .u32 (ra : Int)) ∧ W = w'):=veil (fun W => by rw [hra]; exact (zes x15 7 l15 (by decide) W).mono fun _ _ h => ⟨h.1,h.2.symm⟩)
    have R2 : Hid (∀ W,Calls Tryz.prog 133 #[.int .u32 (x15 : Int),.int .i64 18] W fun e w' => e = .returned (.int .u32 (rb : Int)) ∧ W = w'):=veil (fun W => by rw [hrb]; exact (zes x15 18 l15 (by decide) W).mono fun _ _ h => ⟨h.1,h.2.symm⟩)
    have R3 : Hid (∀ W,Calls Tryz.prog 134 #[.int .u32 (x15 : Int),.int .i64 3] W fun e w' => e = .returned (.int .u32 (rc : Int)) ∧ W = w'):=veil (fun W => by rw [hrc]; exact (shift_calls x15 3 l15 (by decide) W).mono fun _ _ h => ⟨h.1,h.2.symm⟩)
    have R4 : Hid (∀ W,Calls Tryz.prog 133 #[.int .u32 (x2 : Int),.int .i64 17] W fun e w' => e = .returned (.int .u32 (rd : Int)) ∧ W = w'):=veil (fun W => by rw [hrd]; exact (zes x2 17 l2 (by decide) W).mono fun _ _ h => ⟨h.1,h.2.symm⟩)
    have R5 : Hid (∀ W,Calls Tryz.prog 133 #[.int .u32 (x2 : Int),.int .i64 19] W fun e w' => e = .returned (.int .u32 (re : Int)) ∧ W = w'):=veil (fun W => by rw [hre]; exact (zes x2 19 l2 (by decide) W).mono fun _ _ h => ⟨h.1,h.2.symm⟩)
    have R6 : Hid (∀ W,Calls Tryz.prog 134 #[.int .u32 (x2 : Int),.int .i64 10] W fun e w' => e = .returned (.int .u32 (rf : Int)) ∧ W = w'):=veil (fun W => by rw [hrf]; exact (shift_calls x2 10 l2 (by decide) W).mono fun _ _ h => ⟨h.1,h.2.symm⟩)
    have xo1:=xor32 ra rb lra lrb
    have xo2 : bits .xor .u32 ((ra ^^^ rb : Nat) : Int) (rc : Int) = (s0 : Int):=by rw [xor32 _ _ (Nat.xor_lt_two_pow (n:=32) lra lrb) lrc,hs0,hra,hrb,hrc]; rfl
    have xo3:=xor32 rd re lrd lre
    have xo4 : bits .xor .u32 ((rd ^^^ re : Nat) : Int) (rf : Int) = (s1 : Int):=by rw [xor32 _ _ (Nat.xor_lt_two_pow (n:=32) lrd lre) lrf,hs1,hrd,hre,hrf]; rfl
    generalize ra ^^^ rb = rab at *
    generalize rd ^^^ re = rde at *
    have hz:=hF.lt
    have hFr : From (wr.alloc (.cells #[.int .u32 (x : Int)] 114)).drew (some ⟨wr.heap.size,0,none⟩) 1 (fun _ => .int .u32 (x : Int)):=zdp wr (.int .u32 (x : Int)) 114
    have HL:=veil (And.intro ((hO.alloc (.cells #[.int .u32 (x : Int)] 114)).drew) (And.intro hFr hF))
    have HB:=veil (show t + 1 ≤ maxLen ∧ (t + 1) * 4 ≤ 140737488355328 ∧ gK + 1 ≤ ((wr.alloc (.cells #[.int .u32 (x : Int)] 114)).drew).heap.size from ⟨by unfold maxLen; omega,by omega,by show gK + 1 ≤ (wr.heap.push _).size; simp; omega⟩)
    have HX:=veil (And.intro hwt (And.intro hpv.lt (And.intro b7 (And.intro b16 hlt))))
    clear hF hO hpv hra hrb hrc hrd hre hrf hs0 hs1 hA1 hA2 hxx hx2 hx7 hx15 hx16 hwt lra lrb lrc lrd lre lrf l2 l7 l15 l16 hlt h16 hz hFr
    go_wp2_with (first
     | (go_at_call 133; (first | ((with_reducible refine (R1.out _).mono ?_); rintro e w' ⟨rfl,rfl⟩) | ((with_reducible refine (R2.out _).mono ?_); rintro e w' ⟨rfl,rfl⟩) | ((with_reducible refine (R4.out _).mono ?_); rintro e w' ⟨rfl,rfl⟩) | ((with_reducible refine (R5.out _).mono ?_); rintro e w' ⟨rfl,rfl⟩)))
     | (go_at_call 134; (first | ((with_reducible refine (R3.out _).mono ?_); rintro e w' ⟨rfl,rfl⟩) | ((with_reducible refine (R6.out _).mono ?_); rintro e w' ⟨rfl,rfl⟩))))
    clear R1 R2 R3 R4 R5 R6 xo1 xo2 xo3 xo4
    go_region_held3 (fun w' => w'.cell? ⟨gv,t7,none⟩ = some (.int .u32 (x7 : Int)) ∧ w'.cell? ⟨gv,t16,none⟩ = some (.int .u32 (x16 : Int)))
     (first
      | with_reducible assumption
      | exact ⟨c7,c16⟩
      | exact t2_alloc HX.out.2.1 (by assumption)
      | exact t2_same (by exact HX.out.2.2.1) (by exact HX.out.2.2.2.1) (hsame gv rfl) (by assumption))
     ((refine zdk _ (by rfl) _ _ _ (by rfl) (gK + 1) 114 i32 (.int .u32 0) 4 Tryz.underlying147 HI4.out.1 HI4.out.2.1 HI4.out.2.2.1 HI4.out.2.2.2 rfl (.slice (some ⟨gv,0,none⟩) t cv) t _ (by rfl) HL.out.1 (some ⟨wr.heap.size,0,none⟩) 1 1 (by rfl) _ HL.out.2.1 (fun _ => rfl) HB.out.1 HB.out.2.1 HB.out.2.2 ?_; intro v' w1 hown1 hgrow hat hsame; obtain ⟨g1,k1,rfl,hcc,hgg,hpre⟩:=hown1.pre (Nat.succ_pos t)))
    have hF1:=((HL.out.2.2.alloc (.cells #[.int .u32 (x : Int)] 114)).drew).grown hgrow (fun k e => (HL.out.1.lt e).1)
    have hO1 : Own w1 (gK + 1) 114 (.slice (some ⟨g1,0,none⟩) (t + 1) k1) (t + 1) (fun j => .int .u32 (wt (mOf y n q) j : Nat)):=hown1.congr fun j hj => by
     by_cases h : j < t
     ·
      rw [if_pos h]
     ·
      rw [if_neg h,← HX.out.1,show j = t by omega]
    clear hown1 hgrow hat hsame hpre HL HB c2 c7 c15 c16
    rename_i hHeld
    clear hHeld
    have hlt:=HX.out.2.2.2.2
    go_wp2
    go_roundw
    case rel => exact ⟨t + 1,by omega,by go_num,hO1,hF1⟩
    case measure => simp [intOf]; omega
  ·
   have e64 : t = 64:=by omega
   have hd1 : decide ((t : Int) < 64) = false:=by simp; omega
   obtain ⟨gW,cW,rfl,hcW,hgW,hpW⟩:=hO.pre (show 0 < t by omega)
   have HE:=veil e64
   clear e64 hlt ht
   go_wp2
   have he:=HE.out
   subst he
   exact HQ.out _ _ _ _ _ _ _ _ _ _ _ _ _ _ _ _ _ _ _ _ _ _ _ _ _ _ _ _ _ _ _ _ _ _ _ _ _ _ _ _ _ _ _ _ _ _ _ _ _ _ _ _ _ _ _ _ _ _ _ _ _ _ _ _ _ _ _ _ _ _ _ _ _ _ _ _ _ _ _ _ _ _ _ _ _ _ _ _ _ _ _ _ gW cW wr hF hpW (by omega)
theorem st8 {w : World} {g : Nat} {a b c d e f q h : Nat} (p : Pre w g 114 8 (hst ⟨a,b,c,d,e,f,q,h⟩)) :
  w.cell? ⟨g,0,none⟩ = some (.int .u32 (a : Int)) ∧ w.cell? ⟨g,1,none⟩ = some (.int .u32 (b : Int)) ∧ w.cell? ⟨g,2,none⟩ = some (.int .u32 (c : Int)) ∧ w.cell? ⟨g,3,none⟩ = some (.int .u32 (d : Int)) ∧
  w.cell? ⟨g,4,none⟩ = some (.int .u32 (e : Int)) ∧ w.cell? ⟨g,5,none⟩ = some (.int .u32 (f : Int)) ∧ w.cell? ⟨g,6,none⟩ = some (.int .u32 (q : Int)) ∧ w.cell? ⟨g,7,none⟩ = some (.int .u32 (h : Int)) :=
 ⟨p.cell (by decide),p.cell (by decide),p.cell (by decide),p.cell (by decide),p.cell (by decide),p.cell (by decide),p.cell (by decide),p.cell (by decide)⟩
theorem zfb {x n : Nat} {m r : Nat} (hr : r = rot x n) (hx : x < 2 ^ 32) (hn : n ≤ 32) (hm : m = n) (W : World) : Calls Tryz.prog 133 #[.int .u32 (x : Int),.int .i64 (m : Int)] W fun e w' => e = .returned (.int .u32 (r : Int)) ∧ w' = W:=by
 subst hm; subst hr; exact zes x m hx hn W
theorem rounds_piece {u0 u1 u2 u3 u4 u5 u6 u7 u9 u11 u12 u13 u14 u15 u16 u19 u20 u21 u22 u23 u24 u25 u26 u27 u28 u29 u30 u31 u32 u33 u34 u35 u36 u37 u38 u39 u40 u41 u42 u43 u44 u45 u46 u47 u48 u49 u50 u51 u52 u53 u54 u55 u56 u57 u58 u59 u60 u61 u62 u63 u64 u65 u66 u67 u68 u69 u70 u71 u72 u73 u74 u75 u76 u77 u78 u79 u80 u81 u82 u83 u84 u85 u86 u87 u88 u89 u90 u91 u92 u93 u94 u95 u96 u97 u98 u99 u100 u101 u102 u103 u104 u105 u106 u107 u108 u109 u110 u111 u112 u113 u114 u115 u116 u117 u118 u119 u120 u121 u122 u123 u124 u125 u126 u127 u128 u129 u130 u131 u132 u133 u134 u135 u136 u137 u138 u139 u140 u141 u142 u143 u144 u145 u146 u147 u148 u149 u150 u151 u152 u153 u154 u155 u156 u157 u158 u159 u160 u161 u162 u163 u164 u165 u166 u167 u168 u169 u170 u171 u172 u173 u174 u175 u176 u177 u178 u179 u180 u181 u182 u183 u184 u185 u186 u187 u188 u189 u190 u191 u192 u193 u194 u195 u196 u197 u198 u199 u200 u201 u202 u203 u204 u205 u206 u207 u208 u209 u210 u211 u212 u213 u214 u215 u216 u217 u218 u219 u220 u221 u222 u223 u224 u225 u226 u227 u228 u229 u230 u231 u232 u233 u234 u235 u236 u237 u238 u239 u240 u241 u242 u243 u244 u245 u246 u247 u248 u249 u250 u251 u252 u253 u254 u255 u256 u257 u258 u259 u260 u261 u262 u263 u264 u265 u266 u267 u268 u269 u270 u271 u272 u273 u274 u275 u276 u277 u278 u279 u280 u281 u282 u283 u284 u285 u286 u287 u288 u289 u290 u291 u292 u293 u294 u295 u296 u297 u298 u299 u300 u301 u302 u303 u304 u305 u306 u307 u308 u309 u310 u311 u312 u313 u314 u315 u316 u317 u318 u319 u320 u321 u322 u323 u324 u325 u326 u327 u328 u329 u330 u331 u332 : Value} {w wr : World} {gR gT gH gK gW gs N cW cs : Nat} {tx : Nat → Value} {m : Nat → Nat} {st : St} {hv : Nat → Value} {Q0 : Exit → Act → World → Prop} (hst0 : st.Ok) (hm : ∀ t,wt m t < 2 ^ 32)
  (hF : RF w wr gR gT gH gK N tx hv) (hW : Pre wr gW 114 64 (fun j => .int .u32 (wt m j : Nat))) (hS : Pre wr gs 114 8 (hst st)) (hsK : gK < gs) (hcs : 8 ≤ cs)
  (hQ : ∀ (x18 x19 x20 x21 x22 x155 x156 x157 x158 x159 x160 x161 x162 x163 x164 x165 x166 x167 x168 x169 x170 x171 x172 x173 x174 x175 x176 x177 x178 x179 x180 x181 x182 x183 x184 x185 x186 x187 x188 x189 x190 x191 x192 x193 x194 x195 x196 x197 x198 x199 x200 x201 x202 x203 x204 x205 x206 x207 x208 x209 x210 x211 x212 x213 x214 x215 x216 x217 x218 x219 x220 x221 x222 x223 x224 x225 x226 x227 x228 x229 x230 x231 x232 x233 x234 x235 x236 x237 x238 x239 x240 x241 x242 x243 x244 x245 x246 x247 x248 x249 x250 x251 x252 x253 x254 x255 x256 x257 x258 x259 x260 x261 x262 x263 x264 x265 x266 x267 x268 x269 x270 : Value) (gs' cs' : Nat) (w' : World),RF w w' gR gT gH gK N tx hv → Pre w' gs' 114 8 (hst (roundsN m st 64)) → gK < gs' → 8 ≤ cs' →
   Q0 .normal ⟨#[u0,u1,u2,u3,u4,u5,u6,u7,.slice (some ⟨gK,0,none⟩) 64 64,u9,.slice (some ⟨gW,0,none⟩) 64 cW,u11,u12,u13,u14,u15,u16,.slice (some ⟨gs',0,none⟩) 8 cs',x18,x19,x20,x21,x22,u23,u24,u25,u26,u27,u28,u29,u30,u31,u32,u33,u34,u35,u36,u37,u38,u39,u40,u41,u42,u43,u44,u45,u46,u47,u48,u49,u50,u51,u52,u53,u54,u55,u56,u57,u58,u59,u60,u61,u62,u63,u64,u65,u66,u67,u68,u69,u70,u71,u72,u73,u74,u75,u76,u77,u78,u79,u80,u81,u82,u83,u84,u85,u86,u87,u88,u89,u90,u91,u92,u93,u94,u95,u96,u97,u98,u99,u100,u101,u102,u103,u104,u105,u106,u107,u108,u109,u110,u111,u112,u113,u114,u115,u116,u117,u118,u119,u120,u121,u122,u123,u124,u125,u126,u127,u128,u129,u130,u131,u132,u133,u134,u135,u136,u137,u138,u139,u140,u141,u142,u143,u144,u145,u146,u147,u148,u149,u150,u151,u152,u153,u154,x155,x156,x157,x158,x159,x160,x161,x162,x163,x164,x165,x166,x167,x168,x169,x170,x171,x172,x173,x174,x175,x176,x177,x178,x179,x180,x181,x182,x183,x184,x185,x186,x187,x188,x189,x190,x191,x192,x193,x194,x195,x196,x197,x198,x199,x200,x201,x202,x203,x204,x205,x206,x207,x208,x209,x210,x211,x212,x213,x214,x215,x216,x217,x218,x219,x220,x221,x222,x223,x224,x225,x226,x227,x228,x229,x230,x231,x232,x233,x234,x235,x236,x237,x238,x239,x240,x241,x242,x243,x244,x245,x246,x247,x248,x249,x250,x251,x252,x253,x254,x255,x256,x257,x258,x259,x260,x261,x262,x263,x264,x265,x266,x267,x268,x269,x270,u271,u272,u273,u274,u275,u276,u277,u278,u279,u280,u281,u282,u283,u284,u285,u286,u287,u288,u289,u290,u291,u292,u293,u294,u295,u296,u297,u298,u299,u300,u301,u302,u303,u304,u305,u306,u307,u308,u309,u310,u311,u312,u313,u314,u315,u316,u317,u318,u319,u320,u321,u322,u323,u324,u325,u326,u327,u328,u329,u330,u331,u332],[]⟩ w') :
  Code.wp Tryz.prog (piece 8) Q0 ⟨#[u0,u1,u2,u3,u4,u5,u6,u7,.slice (some ⟨gK,0,none⟩) 64 64,u9,.slice (some ⟨gW,0,none⟩) 64 cW,u11,u12,u13,u14,u15,u16,.slice (some ⟨gs,0,none⟩) 8 cs,.int .i64 0,u19,u20,u21,u22,u23,u24,u25,u26,u27,u28,u29,u30,u31,u32,u33,u34,u35,u36,u37,u38,u39,u40,u41,u42,u43,u44,u45,u46,u47,u48,u49,u50,u51,u52,u53,u54,u55,u56,u57,u58,u59,u60,u61,u62,u63,u64,u65,u66,u67,u68,u69,u70,u71,u72,u73,u74,u75,u76,u77,u78,u79,u80,u81,u82,u83,u84,u85,u86,u87,u88,u89,u90,u91,u92,u93,u94,u95,u96,u97,u98,u99,u100,u101,u102,u103,u104,u105,u106,u107,u108,u109,u110,u111,u112,u113,u114,u115,u116,u117,u118,u119,u120,u121,u122,u123,u124,u125,u126,u127,u128,u129,u130,u131,u132,u133,u134,u135,u136,u137,u138,u139,u140,u141,u142,u143,u144,u145,u146,u147,u148,u149,u150,u151,u152,u153,u154,u155,u156,u157,u158,u159,u160,u161,u162,u163,u164,u165,u166,u167,u168,u169,u170,u171,u172,u173,u174,u175,u176,u177,u178,u179,u180,u181,u182,u183,u184,u185,u186,u187,u188,u189,u190,u191,u192,u193,u194,u195,u196,u197,u198,u199,u200,u201,u202,u203,u204,u205,u206,u207,u208,u209,u210,u211,u212,u213,u214,u215,u216,u217,u218,u219,u220,u221,u222,u223,u224,u225,u226,u227,u228,u229,u230,u231,u232,u233,u234,u235,u236,u237,u238,u239,u240,u241,u242,u243,u244,u245,u246,u247,u248,u249,u250,u251,u252,u253,u254,u255,u256,u257,u258,u259,u260,u261,u262,u263,u264,u265,u266,u267,u268,u269,u270,u271,u272,u273,u274,u275,u276,u277,u278,u279,u280,u281,u282,u283,u284,u285,u286,u287,u288,u289,u290,u291,u292,u293,u294,u295,u296,u297,u298,u299,u300,u301,u302,u303,u304,u305,u306,u307,u308,u309,u310,u311,u312,u313,u314,u315,u316,u317,u318,u319,u320,u321,u322,u323,u324,u325,u326,u327,u328,u329,u330,u331,u332],[]⟩ wr:=by
 conv => arg 2; whnf
 have HQ:=veil hQ
 have HS:=veil hst0
 have HM:=veil hm
 clear hQ hst0 hm
 go_wp2
 go_loopw [17,18] (fun v17 v18 wr => ∃ t gs cs a b c d e f q h : Nat,t ≤ 64 ∧ 8 ≤ cs ∧ gK < gs ∧ v18 = .int .i64 (t : Int) ∧ v17 = .slice (some ⟨gs,0,none⟩) 8 cs ∧ Hid (roundsN m st t = ⟨a,b,c,d,e,f,q,h⟩) ∧ Pre wr gs 114 8 (hst ⟨a,b,c,d,e,f,q,h⟩) ∧ Pre wr gW 114 64 (fun j => .int .u32 (wt m j : Nat)) ∧ RF w wr gR gT gH gK N tx hv)
  (fun _ v18 _ => 64 - (intOf v18).toNat)
 case atStart => exact ⟨0,gs,cs,st.a,st.b,st.c,st.d,st.e,st.f,st.g,st.h,by omega,hcs,hsK,rfl,rfl,rfl,hS,hW,hF⟩
 case round =>
  obtain ⟨t,gs,cs,a,b,c,d,e,f,q,h,ht,hcs,hsK,rfl,rfl,hr,hS,hW,hF⟩:=hrel
  have hok : (⟨a,b,c,d,e,f,q,h⟩ : St).Ok:=hr.out ▸ zhr HS.out t
  by_cases hlt : t < 64
  ·
   have hd1 : decide ((t : Int) < 64) = true:=by simp; omega
   obtain ⟨c0,c1,c2,c3,c4,c5,c6,c7⟩:=st8 hS
   have ck:=hF.k.cell hlt
   have cw:=hW.cell hlt
   obtain ⟨k,hk⟩ : ∃ k,k = kc t:=⟨_,rfl⟩
   obtain ⟨x,hx⟩ : ∃ x,x = wt m t:=⟨_,rfl⟩
   rw [← hk] at ck
   rw [← hx] at cw
   have la:=hok.a; have lb:=hok.b; have lc:=hok.c; have le:=hok.e; have lf:=hok.f; have lq:=hok.g
   obtain ⟨ne,hne⟩ : ∃ n,n = 4294967295 - e:=⟨_,rfl⟩
   have hnl : ne < 2 ^ 32:=by omega
   have hni : 4294967295 - (e : Int) = (ne : Int):=by simp only at le; omega
   have hnw : IntKind.u32.wrap (ne : Int) = (ne : Int):=by rw [wrap32]; omega
   have n1:=and32 e f le lf
   have n2:=and32 ne q hnl lq
   have n3 : bits .or .u32 ((e &&& f : Nat) : Int) ((ne &&& q : Nat) : Int) = ((chN e f q : Nat) : Int):=by
    rw [or32 _ _ (Nat.lt_of_le_of_lt Nat.and_le_left le) (Nat.lt_of_le_of_lt Nat.and_le_left hnl),ch_or le,hne]
   have n4:=and32 a b la lb
   have n5:=and32 a c la lc
   have n6:=and32 b c lb lc
   have m1 : a &&& b < 2 ^ 32:=Nat.lt_of_le_of_lt Nat.and_le_left la
   have m2 : a &&& c < 2 ^ 32:=Nat.lt_of_le_of_lt Nat.and_le_left la
   have m3 : b &&& c < 2 ^ 32:=Nat.lt_of_le_of_lt Nat.and_le_left lb
   have n7:=or32 _ _ m1 m2
   have n8 : bits .or .u32 (((a &&& b) ||| (a &&& c) : Nat) : Int) ((b &&& c : Nat) : Int) = ((majN a b c : Nat) : Int):=by
    rw [or32 _ _ (Nat.or_lt_two_pow (n:=32) m1 m2) m3,maj_or]
   obtain ⟨ra,hra,lra⟩ : ∃ r,r = rot e 6 ∧ r < 2 ^ 32:=⟨_,rfl,zby (by omega) le⟩
   obtain ⟨rb,hrb,lrb⟩ : ∃ r,r = rot e 11 ∧ r < 2 ^ 32:=⟨_,rfl,zby (by omega) le⟩
   obtain ⟨rc,hrc,lrc⟩ : ∃ r,r = rot e 25 ∧ r < 2 ^ 32:=⟨_,rfl,zby (by omega) le⟩
   obtain ⟨rd,hrd,lrd⟩ : ∃ r,r = rot a 2 ∧ r < 2 ^ 32:=⟨_,rfl,zby (by omega) la⟩
   obtain ⟨re,hre,lre⟩ : ∃ r,r = rot a 13 ∧ r < 2 ^ 32:=⟨_,rfl,zby (by omega) la⟩
   obtain ⟨rf,hrf,lrf⟩ : ∃ r,r = rot a 22 ∧ r < 2 ^ 32:=⟨_,rfl,zby (by omega) la⟩
   have R1 : Hid (∀ W,Calls Tryz.prog 133 #[.int .u32 (e : Int),.int .i64 6] W fun e w' => e = .returned (.int .u32 (ra : Int)) ∧ w' = W):=veil (fun W => zfb (m:=6) hra le (by decide) rfl W)
   have R2 : Hid (∀ W,Calls Tryz.prog 133 #[.int .u32 (e : Int),.int .i64 11] W fun e w' => e = .returned (.int .u32 (rb : Int)) ∧ w' = W):=veil (fun W => zfb (m:=11) hrb le (by decide) rfl W)
   have R3 : Hid (∀ W,Calls Tryz.prog 133 #[.int .u32 (e : Int),.int .i64 25] W fun e w' => e = .returned (.int .u32 (rc : Int)) ∧ w' = W):=veil (fun W => zfb (m:=25) hrc le (by decide) rfl W)
   have R4 : Hid (∀ W,Calls Tryz.prog 133 #[.int .u32 (a : Int),.int .i64 2] W fun e w' => e = .returned (.int .u32 (rd : Int)) ∧ w' = W):=veil (fun W => zfb (m:=2) hrd la (by decide) rfl W)
   have R5 : Hid (∀ W,Calls Tryz.prog 133 #[.int .u32 (a : Int),.int .i64 13] W fun e w' => e = .returned (.int .u32 (re : Int)) ∧ w' = W):=veil (fun W => zfb (m:=13) hre la (by decide) rfl W)
   have R6 : Hid (∀ W,Calls Tryz.prog 133 #[.int .u32 (a : Int),.int .i64 22] W fun e w' => e = .returned (.int .u32 (rf : Int)) ∧ w' = W):=veil (fun W => zfb (m:=22) hrf la (by decide) rfl W)
   have xo1:=xor32 ra rb lra lrb
   have xo2 : bits .xor .u32 ((ra ^^^ rb : Nat) : Int) (rc : Int) = ((bs1 e : Nat) : Int):=by rw [xor32 _ _ (Nat.xor_lt_two_pow (n:=32) lra lrb) lrc,hra,hrb,hrc]; rfl
   have xo3:=xor32 rd re lrd lre
   have xo4 : bits .xor .u32 ((rd ^^^ re : Nat) : Int) (rf : Int) = ((bs0 a : Nat) : Int):=by rw [xor32 _ _ (Nat.xor_lt_two_pow (n:=32) lrd lre) lrf,hrd,hre,hrf]; rfl
   obtain ⟨B1,hB1⟩ : ∃ s,s = bs1 e:=⟨_,rfl⟩
   obtain ⟨B0,hB0⟩ : ∃ s,s = bs0 a:=⟨_,rfl⟩
   obtain ⟨CH,hCH⟩ : ∃ s,s = chN e f q:=⟨_,rfl⟩
   obtain ⟨MJ,hMJ⟩ : ∃ s,s = majN a b c:=⟨_,rfl⟩
   rw [← hB1] at xo2
   rw [← hB0] at xo4
   rw [← hCH] at n3
   rw [← hMJ] at n8
   generalize ra ^^^ rb = rab at *
   generalize rd ^^^ re = rde at *
   generalize (a &&& b) ||| (a &&& c) = mab at *
   generalize a &&& b = m_ab at *
   generalize a &&& c = m_ac at *
   generalize b &&& c = m_bc at *
   generalize e &&& f = m_ef at *
   generalize ne &&& q = m_nq at *
   obtain ⟨A1,hA1⟩ : ∃ s,s = ad h B1:=⟨_,rfl⟩
   obtain ⟨A2,hA2⟩ : ∃ s,s = ad A1 CH:=⟨_,rfl⟩
   obtain ⟨A3,hA3⟩ : ∃ s,s = ad A2 k:=⟨_,rfl⟩
   obtain ⟨T1,hT1⟩ : ∃ s,s = ad A3 x:=⟨_,rfl⟩
   obtain ⟨T2,hT2⟩ : ∃ s,s = ad B0 MJ:=⟨_,rfl⟩
   obtain ⟨NA,hNA⟩ : ∃ s,s = ad T1 T2:=⟨_,rfl⟩
   obtain ⟨ND,hND⟩ : ∃ s,s = ad d T1:=⟨_,rfl⟩
   have a1 : ((h : Int) + (B1 : Int)) % 4294967296 = (A1 : Int):=by rw [zek,hA1]
   have a2 : ((A1 : Int) + (CH : Int)) % 4294967296 = (A2 : Int):=by rw [zek,hA2]
   have a3 : ((A2 : Int) + (k : Int)) % 4294967296 = (A3 : Int):=by rw [zek,hA3]
   have a4 : ((A3 : Int) + (x : Int)) % 4294967296 = (T1 : Int):=by rw [zek,hT1]
   have a5 : ((B0 : Int) + (MJ : Int)) % 4294967296 = (T2 : Int):=by rw [zek,hT2]
   have a6 : ((T1 : Int) + (T2 : Int)) % 4294967296 = (NA : Int):=by rw [zek,hNA]
   have a7 : ((d : Int) + (T1 : Int)) % 4294967296 = (ND : Int):=by rw [zek,hND]
   have v1 : IntKind.u32.wrap ((h : Int) + (B1 : Int)) = (A1 : Int):=by rw [zdr,hA1]
   have v2 : IntKind.u32.wrap ((A1 : Int) + (CH : Int)) = (A2 : Int):=by rw [zdr,hA2]
   have v3 : IntKind.u32.wrap ((A2 : Int) + (k : Int)) = (A3 : Int):=by rw [zdr,hA3]
   have v4 : IntKind.u32.wrap ((A3 : Int) + (x : Int)) = (T1 : Int):=by rw [zdr,hT1]
   have v5 : IntKind.u32.wrap ((B0 : Int) + (MJ : Int)) = (T2 : Int):=by rw [zdr,hT2]
   have v6 : IntKind.u32.wrap ((T1 : Int) + (T2 : Int)) = (NA : Int):=by rw [zdr,hNA]
   have v7 : IntKind.u32.wrap ((d : Int) + (T1 : Int)) = (ND : Int):=by rw [zdr,hND]
   have jt : (t : Int) < 64:=by omega
   have wt64 : IntKind.i64.wrap (t : Int) = (t : Int):=IntWalk.i64_in _ (by omega)
   have HKX:=veil (And.intro hk hx)
   have HX:=veil (show roundsN m st (t + 1) = ⟨NA,a,b,c,ND,e,f,q⟩ by
    show stepN (roundsN m st t) (kc t) (wt m t) = _
    rw [hr.out,hNA,hND,hT1,hT2,hA3,hA2,hA1,hB1,hB0,hCH,hMJ,hk,hx]
    rfl)
   have G35:=veil (And.intro n4 (And.intro n5 (And.intro n6 (And.intro n7 n8))))
   have G36:=veil (And.intro xo1 (And.intro xo2 (And.intro a1 (And.intro a2 (And.intro a3 (And.intro a4 (And.intro v1 (And.intro v2 (And.intro v3 v4)))))))))
   have G37:=veil (And.intro xo3 (And.intro xo4 (And.intro a5 v5)))
   have G38:=veil (And.intro a6 (And.intro a7 (And.intro v6 v7)))
   clear n4 n5 n6 n7 n8 xo1 xo2 a1 a2 a3 a4 v1 v2 v3 v4 xo3 xo4 a5 v5 a6 a7 v6 v7
   clear hNA hND hT1 hT2 hA3 hA2 hA1 hB1 hB0 hCH hMJ hk hx hra hrb hrc hrd hre hrf hne m1 m2 m3 la lb lc le lf lq hok lra lrb lrc lrd lre lrf hnl hr
   go_wp2
   refine wp_region_still_lit (by kernel_rfl) (by kernel_rfl) ?_
   repeat still_step
   refine wpStill_nil ?_
   change Exit.then _ _ _ _ wr.drew
   replace hF:=hF.drew
   replace hS:=hS.drew
   replace hW:=hW.drew
   clear c0 c1 c2 c3 c4 c5 c6 c7 ck cw
   clear n1 n2 n3 hni hnw
   obtain ⟨n4,n5,n6,n7,n8⟩:=G35.out
   generalize wr.drew = wr at *
   obtain ⟨c0,c1,c2,c3,c4,c5,c6,c7⟩:=st8 hS
   have ck:=hF.k.cell hlt
   have cw:=hW.cell hlt
   rw [← HKX.out.1] at ck
   rw [← HKX.out.2] at cw
   go_wp2
   refine wp_region_still_lit (by kernel_rfl) (by kernel_rfl) ?_
   repeat still_step
   refine wpStill_nil ?_
   change Exit.then _ _ _ _ wr.drew
   replace hF:=hF.drew
   replace hS:=hS.drew
   replace hW:=hW.drew
   clear c0 c1 c2 c3 c4 c5 c6 c7 ck cw
   clear n4 n5 n6 n7 n8
   obtain ⟨xo1,xo2,a1,a2,a3,a4,v1,v2,v3,v4⟩:=G36.out
   generalize wr.drew = wr at *
   obtain ⟨c0,c1,c2,c3,c4,c5,c6,c7⟩:=st8 hS
   have ck:=hF.k.cell hlt
   have cw:=hW.cell hlt
   rw [← HKX.out.1] at ck
   rw [← HKX.out.2] at cw
   go_wp2
   refine wp_region_still_lit (by kernel_rfl) (by kernel_rfl) ?_
   repeat still_step
   still_call (by first | ((with_reducible refine (R1.out _).mono ?_); rintro e w' ⟨rfl,rfl⟩; exact ⟨rfl,rfl⟩))
   repeat still_step
   still_call (by first | ((with_reducible refine (R2.out _).mono ?_); rintro e w' ⟨rfl,rfl⟩; exact ⟨rfl,rfl⟩))
   repeat still_step
   still_call (by first | ((with_reducible refine (R3.out _).mono ?_); rintro e w' ⟨rfl,rfl⟩; exact ⟨rfl,rfl⟩))
   repeat still_step
   refine wpStill_nil ?_
   change Exit.then _ _ _ _ wr.drew
   replace hF:=hF.drew
   replace hS:=hS.drew
   replace hW:=hW.drew
   clear c0 c1 c2 c3 c4 c5 c6 c7 ck cw
   clear xo1 xo2 a1 a2 a3 a4 v1 v2 v3 v4 R1 R2 R3
   obtain ⟨xo3,xo4,a5,v5⟩:=G37.out
   generalize wr.drew = wr at *
   obtain ⟨c0,c1,c2,c3,c4,c5,c6,c7⟩:=st8 hS
   have ck:=hF.k.cell hlt
   have cw:=hW.cell hlt
   rw [← HKX.out.1] at ck
   rw [← HKX.out.2] at cw
   go_wp2
   refine wp_region_still_lit (by kernel_rfl) (by kernel_rfl) ?_
   repeat still_step
   still_call (by first | ((with_reducible refine (R4.out _).mono ?_); rintro e w' ⟨rfl,rfl⟩; exact ⟨rfl,rfl⟩))
   repeat still_step
   still_call (by first | ((with_reducible refine (R5.out _).mono ?_); rintro e w' ⟨rfl,rfl⟩; exact ⟨rfl,rfl⟩))
   repeat still_step
   still_call (by first | ((with_reducible refine (R6.out _).mono ?_); rintro e w' ⟨rfl,rfl⟩; exact ⟨rfl,rfl⟩))
   repeat still_step
   refine wpStill_nil ?_
   change Exit.then _ _ _ _ wr.drew
   replace hF:=hF.drew
   replace hS:=hS.drew
   replace hW:=hW.drew
   clear c0 c1 c2 c3 c4 c5 c6 c7 ck cw
   clear xo3 xo4 a5 v5 R4 R5 R6
   obtain ⟨a6,a7,v6,v7⟩:=G38.out
   generalize wr.drew = wr at *
   obtain ⟨c0,c1,c2,c3,c4,c5,c6,c7⟩:=st8 hS
   have ck:=hF.k.cell hlt
   have cw:=hW.cell hlt
   rw [← HKX.out.1] at ck
   rw [← HKX.out.2] at cw
   go_wp2
   clear ck cw
   go_still_tail 26,(by kernel_rfl)
   change wpList _ _ _ _ _ wr.drew
   replace hF:=hF.drew
   replace hW:=hW.drew
   clear c0 c1 c2 c3 c4 c5 c6 c7 hS a6 a7 v6 v7
   generalize wr.drew = wr at *
   have hz:=hF.lt
   have hS' : Pre (wr.alloc (.cells #[.int .u32 (NA : Int),.int .u32 (a : Int),.int .u32 (b : Int),.int .u32 (c : Int),.int .u32 (ND : Int),.int .u32 (e : Int),.int .u32 (f : Int),.int .u32 (q : Int)] 114)) wr.heap.size 114 8 (hst ⟨NA,a,b,c,ND,e,f,q⟩):=Pre.of_row (zbk wr 8 114 (hst ⟨NA,a,b,c,ND,e,f,q⟩) rfl)
   have hF':=hF.alloc (.cells #[.int .u32 (NA : Int),.int .u32 (a : Int),.int .u32 (b : Int),.int .u32 (c : Int),.int .u32 (ND : Int),.int .u32 (e : Int),.int .u32 (f : Int),.int .u32 (q : Int)] 114)
   have hW':=hW.alloc (.cells #[.int .u32 (NA : Int),.int .u32 (a : Int),.int .u32 (b : Int),.int .u32 (c : Int),.int .u32 (ND : Int),.int .u32 (e : Int),.int .u32 (f : Int),.int .u32 (q : Int)] 114)
   clear hF hW
   go_wp2
   go_roundw
   case rel => exact ⟨t + 1,_,8,NA,a,b,c,ND,e,f,q,by omega,by omega,hz,by go_num,rfl,HX,hS',hW',hF'⟩
   case measure => simp [intOf]; omega
  ·
   have e64 : t = 64:=by omega
   have hd1 : decide ((t : Int) < 64) = false:=by simp; omega
   have hS' : Pre wr gs 114 8 (hst (roundsN m st 64)):=by rw [← e64,hr.out]; exact hS
   clear e64 hlt ht hr hS hok
   go_wp2
   exact HQ.out _ _ _ _ _ _ _ _ _ _ _ _ _ _ _ _ _ _ _ _ _ _ _ _ _ _ _ _ _ _ _ _ _ _ _ _ _ _ _ _ _ _ _ _ _ _ _ _ _ _ _ _ _ _ _ _ _ _ _ _ _ _ _ _ _ _ _ _ _ _ _ _ _ _ _ _ _ _ _ _ _ _ _ _ _ _ _ _ _ _ _ _ _ _ _ _ _ _ _ _ _ _ _ _ _ _ _ _ _ _ _ _ _ _ _ _ _ _ _ _ _ gs cs wr hF hS' hsK hcs
theorem add_piece {u0 u1 u2 u3 u4 u5 u6 u8 u9 u10 u11 u12 u13 u14 u15 u16 u18 u19 u20 u21 u22 u24 u25 u26 u27 u28 u29 u30 u31 u32 u33 u34 u35 u36 u37 u38 u39 u40 u41 u42 u43 u44 u45 u46 u47 u48 u49 u50 u51 u52 u53 u54 u55 u56 u57 u58 u59 u60 u61 u62 u63 u64 u65 u66 u67 u68 u69 u70 u71 u72 u73 u74 u75 u76 u77 u78 u79 u80 u81 u82 u83 u84 u85 u86 u87 u88 u89 u90 u91 u92 u93 u94 u95 u96 u97 u98 u99 u100 u101 u102 u103 u104 u105 u106 u107 u108 u109 u110 u111 u112 u113 u114 u115 u116 u117 u118 u119 u120 u121 u122 u123 u124 u125 u126 u127 u128 u129 u130 u131 u132 u133 u134 u135 u136 u137 u138 u139 u140 u141 u142 u143 u144 u145 u146 u147 u148 u149 u150 u151 u152 u153 u154 u155 u156 u157 u158 u159 u160 u161 u162 u163 u164 u165 u166 u167 u168 u169 u170 u171 u172 u173 u174 u175 u176 u177 u178 u179 u180 u181 u182 u183 u184 u185 u186 u187 u188 u189 u190 u191 u192 u193 u194 u195 u196 u197 u198 u199 u200 u201 u202 u203 u204 u205 u206 u207 u208 u209 u210 u211 u212 u213 u214 u215 u216 u217 u218 u219 u220 u221 u222 u223 u224 u225 u226 u227 u228 u229 u230 u231 u232 u233 u234 u235 u236 u237 u238 u239 u240 u241 u242 u243 u244 u245 u246 u247 u248 u249 u250 u251 u252 u253 u254 u255 u256 u257 u258 u259 u260 u261 u262 u263 u264 u265 u266 u267 u268 u269 u270 u271 u272 u273 u274 u275 u276 u277 u278 u279 u280 u281 u282 u283 u284 u285 u286 u287 u288 u289 u290 u291 u292 u293 u294 u295 u296 u297 u298 u299 u300 u301 u302 u303 u304 u305 u306 u307 u308 u309 u310 u311 u312 u313 u314 u315 u316 u317 u318 u319 u320 u321 u322 u323 u324 u325 u326 u327 u328 u329 u330 u331 u332 : Value} {w wr : World} {gR gT gH gK gs N cs : Nat} {tx : Nat → Value} {s r : St} {Q0 : Exit → Act → World → Prop}
  (hF : RF w wr gR gT gH gK N tx (hst s)) (hS : Pre wr gs 114 8 (hst r)) (hsK : gK < gs)
  (hQ : ∀ (x23 x271 x272 x273 x274 x275 x276 x277 x278 x279 x280 x281 x282 x283 x284 x285 x286 : Value) (w' : World),RF w w' gR gT gH gK N tx (hst (addSt s r)) → Q0 .normal ⟨#[u0,u1,u2,u3,u4,u5,u6,.slice (some ⟨gH,0,none⟩) 8 8,u8,u9,u10,u11,u12,u13,u14,u15,u16,.slice (some ⟨gs,0,none⟩) 8 cs,u18,u19,u20,u21,u22,x23,u24,u25,u26,u27,u28,u29,u30,u31,u32,u33,u34,u35,u36,u37,u38,u39,u40,u41,u42,u43,u44,u45,u46,u47,u48,u49,u50,u51,u52,u53,u54,u55,u56,u57,u58,u59,u60,u61,u62,u63,u64,u65,u66,u67,u68,u69,u70,u71,u72,u73,u74,u75,u76,u77,u78,u79,u80,u81,u82,u83,u84,u85,u86,u87,u88,u89,u90,u91,u92,u93,u94,u95,u96,u97,u98,u99,u100,u101,u102,u103,u104,u105,u106,u107,u108,u109,u110,u111,u112,u113,u114,u115,u116,u117,u118,u119,u120,u121,u122,u123,u124,u125,u126,u127,u128,u129,u130,u131,u132,u133,u134,u135,u136,u137,u138,u139,u140,u141,u142,u143,u144,u145,u146,u147,u148,u149,u150,u151,u152,u153,u154,u155,u156,u157,u158,u159,u160,u161,u162,u163,u164,u165,u166,u167,u168,u169,u170,u171,u172,u173,u174,u175,u176,u177,u178,u179,u180,u181,u182,u183,u184,u185,u186,u187,u188,u189,u190,u191,u192,u193,u194,u195,u196,u197,u198,u199,u200,u201,u202,u203,u204,u205,u206,u207,u208,u209,u210,u211,u212,u213,u214,u215,u216,u217,u218,u219,u220,u221,u222,u223,u224,u225,u226,u227,u228,u229,u230,u231,u232,u233,u234,u235,u236,u237,u238,u239,u240,u241,u242,u243,u244,u245,u246,u247,u248,u249,u250,u251,u252,u253,u254,u255,u256,u257,u258,u259,u260,u261,u262,u263,u264,u265,u266,u267,u268,u269,u270,x271,x272,x273,x274,x275,x276,x277,x278,x279,x280,x281,x282,x283,x284,x285,x286,u287,u288,u289,u290,u291,u292,u293,u294,u295,u296,u297,u298,u299,u300,u301,u302,u303,u304,u305,u306,u307,u308,u309,u310,u311,u312,u313,u314,u315,u316,u317,u318,u319,u320,u321,u322,u323,u324,u325,u326,u327,u328,u329,u330,u331,u332],[]⟩ w') :
  Code.wp Tryz.prog (piece 10) Q0 ⟨#[u0,u1,u2,u3,u4,u5,u6,.slice (some ⟨gH,0,none⟩) 8 8,u8,u9,u10,u11,u12,u13,u14,u15,u16,.slice (some ⟨gs,0,none⟩) 8 cs,u18,u19,u20,u21,u22,.int .i64 0,u24,u25,u26,u27,u28,u29,u30,u31,u32,u33,u34,u35,u36,u37,u38,u39,u40,u41,u42,u43,u44,u45,u46,u47,u48,u49,u50,u51,u52,u53,u54,u55,u56,u57,u58,u59,u60,u61,u62,u63,u64,u65,u66,u67,u68,u69,u70,u71,u72,u73,u74,u75,u76,u77,u78,u79,u80,u81,u82,u83,u84,u85,u86,u87,u88,u89,u90,u91,u92,u93,u94,u95,u96,u97,u98,u99,u100,u101,u102,u103,u104,u105,u106,u107,u108,u109,u110,u111,u112,u113,u114,u115,u116,u117,u118,u119,u120,u121,u122,u123,u124,u125,u126,u127,u128,u129,u130,u131,u132,u133,u134,u135,u136,u137,u138,u139,u140,u141,u142,u143,u144,u145,u146,u147,u148,u149,u150,u151,u152,u153,u154,u155,u156,u157,u158,u159,u160,u161,u162,u163,u164,u165,u166,u167,u168,u169,u170,u171,u172,u173,u174,u175,u176,u177,u178,u179,u180,u181,u182,u183,u184,u185,u186,u187,u188,u189,u190,u191,u192,u193,u194,u195,u196,u197,u198,u199,u200,u201,u202,u203,u204,u205,u206,u207,u208,u209,u210,u211,u212,u213,u214,u215,u216,u217,u218,u219,u220,u221,u222,u223,u224,u225,u226,u227,u228,u229,u230,u231,u232,u233,u234,u235,u236,u237,u238,u239,u240,u241,u242,u243,u244,u245,u246,u247,u248,u249,u250,u251,u252,u253,u254,u255,u256,u257,u258,u259,u260,u261,u262,u263,u264,u265,u266,u267,u268,u269,u270,u271,u272,u273,u274,u275,u276,u277,u278,u279,u280,u281,u282,u283,u284,u285,u286,u287,u288,u289,u290,u291,u292,u293,u294,u295,u296,u297,u298,u299,u300,u301,u302,u303,u304,u305,u306,u307,u308,u309,u310,u311,u312,u313,u314,u315,u316,u317,u318,u319,u320,u321,u322,u323,u324,u325,u326,u327,u328,u329,u330,u331,u332],[]⟩ wr:=by
 conv => arg 2; whnf
 have HQ:=veil hQ
 have hne : gs ≠ gH:=by have:=hF.o3; omega
 have HNE:=veil hne
 clear hQ hne
 go_wp2
 go_loopw [23] (fun v wr => ∃ i : Nat,i ≤ 8 ∧ v = .int .i64 (i : Int) ∧ Pre wr gs 114 8 (hst r) ∧ RF w wr gR gT gH gK N tx (fun j => if j < i then hst (addSt s r) j else hst s j))
  (fun v _ => 8 - (intOf v).toNat)
 case atStart => exact ⟨0,by omega,rfl,hS,hF.congrH fun j _ => (if_neg (by omega)).symm⟩
 case round =>
  obtain ⟨i,hi,rfl,hS,hF⟩:=hrel
  by_cases hlt : i < 8
  ·
   have hd1 : decide ((i : Int) < 8) = true:=by simp; omega
   have cs1:=hS.cell hlt
   have ch1:=hF.h.cell hlt
   have fh1:=hF.h.frozen i
   rw [if_neg (by omega)] at ch1
   unfold hst at cs1 ch1
   obtain ⟨x,hx⟩ : ∃ x,x = s.at i:=⟨_,rfl⟩
   obtain ⟨z,hz⟩ : ∃ x,x = r.at i:=⟨_,rfl⟩
   rw [← hx] at ch1
   rw [← hz] at cs1
   have ji : (i : Int) < 8:=by omega
   have wi : IntKind.i64.wrap (i : Int) = (i : Int):=IntWalk.i64_in _ (by omega)
   have sI:=zek x z
   have sW:=zdr x z
   have HX:=veil (And.intro hx hz)
   clear hx hz
   go_wp2
   go_still_tail 11,(by kernel_rfl)
   change wpList _ _ _ _ _ wr.drew
   replace hF:=hF.drew
   replace hS:=hS.drew
   have cs2 : wr.drew.cell? ⟨gs,i,none⟩ = some (.int .u32 (z : Int)):=cs1
   have ch2 : wr.drew.cell? ⟨gH,i,none⟩ = some (.int .u32 (x : Int)):=ch1
   have fh2 : wr.drew.frozen? ⟨gH,i,none⟩ = false:=fh1
   clear cs1 ch1 fh1
   generalize wr.drew = wr at *
   go_wp2
   go_roundw
   case rel =>
    refine ⟨i + 1,by omega,by go_num,hS.far HNE.out _,(hF.setH i _).congrH fun j hj => ?_⟩
    by_cases h : j = i
    ·
     subst h
     rw [if_pos rfl,if_pos (by omega)]
     unfold hst
     rw [addSt_at,← HX.out.1,← HX.out.2]
    ·
     rw [if_neg h]
     by_cases h2 : j < i
     ·
      rw [if_pos h2,if_pos (by omega)]
     ·
      rw [if_neg h2,if_neg (by omega)]
   case measure => simp [intOf]; omega
  ·
   have e8 : i = 8:=by omega
   have hd1 : decide ((i : Int) < 8) = false:=by simp; omega
   have hF' : RF w wr gR gT gH gK N tx (hst (addSt s r)):=hF.congrH fun j hj => by rw [if_pos (by omega)]
   clear e8 hlt hi hF
   go_wp2
   exact HQ.out _ _ _ _ _ _ _ _ _ _ _ _ _ _ _ _ _ wr hF'
theorem out_piece {u0 u1 u2 u3 u4 u5 u6 u8 u9 u10 u11 u12 u13 u14 u15 u16 u17 u18 u19 u20 u21 u22 u23 u26 u27 u28 u29 u30 u31 u32 u33 u34 u35 u36 u37 u38 u39 u40 u41 u42 u43 u44 u45 u46 u47 u48 u49 u50 u51 u52 u53 u54 u55 u56 u57 u58 u59 u60 u61 u62 u63 u64 u65 u66 u67 u68 u69 u70 u71 u72 u73 u74 u75 u76 u77 u78 u79 u80 u81 u82 u83 u84 u85 u86 u87 u88 u89 u90 u91 u92 u93 u94 u95 u96 u97 u98 u99 u100 u101 u102 u103 u104 u105 u106 u107 u108 u109 u110 u111 u112 u113 u114 u115 u116 u117 u118 u119 u120 u121 u122 u123 u124 u125 u126 u127 u128 u129 u130 u131 u132 u133 u134 u135 u136 u137 u138 u139 u140 u141 u142 u143 u144 u145 u146 u147 u148 u149 u150 u151 u152 u153 u154 u155 u156 u157 u158 u159 u160 u161 u162 u163 u164 u165 u166 u167 u168 u169 u170 u171 u172 u173 u174 u175 u176 u177 u178 u179 u180 u181 u182 u183 u184 u185 u186 u187 u188 u189 u190 u191 u192 u193 u194 u195 u196 u197 u198 u199 u200 u201 u202 u203 u204 u205 u206 u207 u208 u209 u210 u211 u212 u213 u214 u215 u216 u217 u218 u219 u220 u221 u222 u223 u224 u225 u226 u227 u228 u229 u230 u231 u232 u233 u234 u235 u236 u237 u238 u239 u240 u241 u242 u243 u244 u245 u246 u247 u248 u249 u250 u251 u252 u253 u254 u255 u256 u257 u258 u259 u260 u261 u262 u263 u264 u265 u266 u267 u268 u269 u270 u271 u272 u273 u274 u275 u276 u277 u278 u279 u280 u281 u282 u283 u284 u285 u286 u287 u288 u289 u290 u291 u292 u293 u294 u295 u296 u297 u298 u299 u300 u301 u302 u303 u304 u305 u306 u307 u308 u309 u310 u311 u312 u313 u314 u315 u316 u317 u318 u319 u320 u321 u322 u323 u324 u325 u326 u327 u328 u329 u330 u331 u332 : Value} {w wr : World} {gR gT gH gK gO N : Nat} {tx : Nat → Value} {s : St} {Q0 : Exit → Act → World → Prop} (hs : s.Ok)
  (hF : RF w wr gR gT gH gK N tx (hst s)) (hO : wr.rowIs gO 26 32 (fun _ => .int .u8 0)) (hOK : gK < gO)
  (hQ : ∀ (x25 x287 x288 x289 x290 x291 x292 x293 x294 x295 x296 x297 x298 x299 x300 x301 x302 x303 x304 x305 x306 x307 x308 x309 x310 x311 x312 x313 x314 x315 x316 x317 x318 x319 x320 x321 x322 x323 x324 x325 x326 x327 x328 x329 x330 x331 : Value) (w' : World),RF w w' gR gT gH gK N tx (hst s) → w'.rowIs gO 26 32 (fun p => .int .u8 (dByte s p : Nat)) → Q0 .normal ⟨#[u0,u1,u2,u3,u4,u5,u6,.slice (some ⟨gH,0,none⟩) 8 8,u8,u9,u10,u11,u12,u13,u14,u15,u16,u17,u18,u19,u20,u21,u22,u23,.pointer (some ⟨gO,0,none⟩),x25,u26,u27,u28,u29,u30,u31,u32,u33,u34,u35,u36,u37,u38,u39,u40,u41,u42,u43,u44,u45,u46,u47,u48,u49,u50,u51,u52,u53,u54,u55,u56,u57,u58,u59,u60,u61,u62,u63,u64,u65,u66,u67,u68,u69,u70,u71,u72,u73,u74,u75,u76,u77,u78,u79,u80,u81,u82,u83,u84,u85,u86,u87,u88,u89,u90,u91,u92,u93,u94,u95,u96,u97,u98,u99,u100,u101,u102,u103,u104,u105,u106,u107,u108,u109,u110,u111,u112,u113,u114,u115,u116,u117,u118,u119,u120,u121,u122,u123,u124,u125,u126,u127,u128,u129,u130,u131,u132,u133,u134,u135,u136,u137,u138,u139,u140,u141,u142,u143,u144,u145,u146,u147,u148,u149,u150,u151,u152,u153,u154,u155,u156,u157,u158,u159,u160,u161,u162,u163,u164,u165,u166,u167,u168,u169,u170,u171,u172,u173,u174,u175,u176,u177,u178,u179,u180,u181,u182,u183,u184,u185,u186,u187,u188,u189,u190,u191,u192,u193,u194,u195,u196,u197,u198,u199,u200,u201,u202,u203,u204,u205,u206,u207,u208,u209,u210,u211,u212,u213,u214,u215,u216,u217,u218,u219,u220,u221,u222,u223,u224,u225,u226,u227,u228,u229,u230,u231,u232,u233,u234,u235,u236,u237,u238,u239,u240,u241,u242,u243,u244,u245,u246,u247,u248,u249,u250,u251,u252,u253,u254,u255,u256,u257,u258,u259,u260,u261,u262,u263,u264,u265,u266,u267,u268,u269,u270,u271,u272,u273,u274,u275,u276,u277,u278,u279,u280,u281,u282,u283,u284,u285,u286,x287,x288,x289,x290,x291,x292,x293,x294,x295,x296,x297,x298,x299,x300,x301,x302,x303,x304,x305,x306,x307,x308,x309,x310,x311,x312,x313,x314,x315,x316,x317,x318,x319,x320,x321,x322,x323,x324,x325,x326,x327,x328,x329,x330,x331,u332],[]⟩ w') :
  Code.wp Tryz.prog (piece 12) Q0 ⟨#[u0,u1,u2,u3,u4,u5,u6,.slice (some ⟨gH,0,none⟩) 8 8,u8,u9,u10,u11,u12,u13,u14,u15,u16,u17,u18,u19,u20,u21,u22,u23,.pointer (some ⟨gO,0,none⟩),.int .i64 0,u26,u27,u28,u29,u30,u31,u32,u33,u34,u35,u36,u37,u38,u39,u40,u41,u42,u43,u44,u45,u46,u47,u48,u49,u50,u51,u52,u53,u54,u55,u56,u57,u58,u59,u60,u61,u62,u63,u64,u65,u66,u67,u68,u69,u70,u71,u72,u73,u74,u75,u76,u77,u78,u79,u80,u81,u82,u83,u84,u85,u86,u87,u88,u89,u90,u91,u92,u93,u94,u95,u96,u97,u98,u99,u100,u101,u102,u103,u104,u105,u106,u107,u108,u109,u110,u111,u112,u113,u114,u115,u116,u117,u118,u119,u120,u121,u122,u123,u124,u125,u126,u127,u128,u129,u130,u131,u132,u133,u134,u135,u136,u137,u138,u139,u140,u141,u142,u143,u144,u145,u146,u147,u148,u149,u150,u151,u152,u153,u154,u155,u156,u157,u158,u159,u160,u161,u162,u163,u164,u165,u166,u167,u168,u169,u170,u171,u172,u173,u174,u175,u176,u177,u178,u179,u180,u181,u182,u183,u184,u185,u186,u187,u188,u189,u190,u191,u192,u193,u194,u195,u196,u197,u198,u199,u200,u201,u202,u203,u204,u205,u206,u207,u208,u209,u210,u211,u212,u213,u214,u215,u216,u217,u218,u219,u220,u221,u222,u223,u224,u225,u226,u227,u228,u229,u230,u231,u232,u233,u234,u235,u236,u237,u238,u239,u240,u241,u242,u243,u244,u245,u246,u247,u248,u249,u250,u251,u252,u253,u254,u255,u256,u257,u258,u259,u260,u261,u262,u263,u264,u265,u266,u267,u268,u269,u270,u271,u272,u273,u274,u275,u276,u277,u278,u279,u280,u281,u282,u283,u284,u285,u286,u287,u288,u289,u290,u291,u292,u293,u294,u295,u296,u297,u298,u299,u300,u301,u302,u303,u304,u305,u306,u307,u308,u309,u310,u311,u312,u313,u314,u315,u316,u317,u318,u319,u320,u321,u322,u323,u324,u325,u326,u327,u328,u329,u330,u331,u332],[]⟩ wr:=by
 conv => arg 2; whnf
 have HQ:=veil hQ
 have HS:=veil hs
 clear hQ hs
 go_wp2
 go_loopw [25] (fun v wr => ∃ i : Nat,i ≤ 8 ∧ v = .int .i64 (i : Int) ∧ wr.rowIs gO 26 32 (fun p => .int .u8 ((if p < 4 * i then dByte s p else 0 : Nat) : Int)) ∧ RF w wr gR gT gH gK N tx (hst s))
  (fun v _ => 8 - (intOf v).toNat)
 case atStart => exact ⟨0,by omega,rfl,hO,hF⟩
 case round =>
  obtain ⟨i,hi,rfl,hO,hF⟩:=hrel
  by_cases hlt : i < 8
  ·
   have hd1 : decide ((i : Int) < 8) = true:=by simp; omega
   have ch:=hF.h.cell hlt
   unfold hst at ch
   obtain ⟨x,hx⟩ : ∃ x,x = s.at i:=⟨_,rfl⟩
   have hxl : x < 2 ^ 32:=by rw [hx]; exact St.at_lt HS.out i
   rw [← hx] at ch
   have ji : (i : Int) < 8:=by omega
   obtain ⟨p,hp⟩ : ∃ p,p = 4 * i:=⟨_,rfl⟩
   have e0 : 4 * (i : Int) = (p : Int):=by omega
   have e1 : (p : Int) + 1 = ((p + 1 : Nat) : Int):=by omega
   have e2 : (p : Int) + 2 = ((p + 2 : Nat) : Int):=by omega
   have e3 : (p : Int) + 3 = ((p + 3 : Nat) : Int):=by omega
   have hp3 : p + 3 < 32:=by omega
   have c0:=hO.cell (show p < 32 by omega)
   have c1:=hO.cell (show p + 1 < 32 by omega)
   have c2:=hO.cell (show p + 2 < 32 by omega)
   have c3:=hO.cell (show p + 3 < 32 by omega)
   rw [if_neg (by omega)] at c0 c1 c2 c3
   have f0:=hO.frozen p
   have f1:=hO.frozen (p + 1)
   have f2:=hO.frozen (p + 2)
   have f3:=hO.frozen (p + 3)
   have HX:=veil (And.intro hx hp)
   obtain ⟨b0,hb0⟩ : ∃ b,b = x / 16777216:=⟨_,rfl⟩
   obtain ⟨b1,hb1⟩ : ∃ b,b = x / 65536 % 256:=⟨_,rfl⟩
   obtain ⟨b2,hb2⟩ : ∃ b,b = x / 256 % 256:=⟨_,rfl⟩
   obtain ⟨b3,hb3⟩ : ∃ b,b = x % 256:=⟨_,rfl⟩
   have l0 : b0 < 256:=by omega
   have q0 : (x : Int) / 16777216 = (b0 : Int):=by omega
   have q1 : (x : Int) / 65536 % 256 = (b1 : Int):=by omega
   have q2 : (x : Int) / 256 % 256 = (b2 : Int):=by omega
   have q3 : (x : Int) % 256 = (b3 : Int):=by omega
   have r0 : (b0 : Int) % 256 = (b0 : Int):=by omega
   have HBB:=veil (show b0 = x / 256 ^ 3 % 256 ∧ b1 = x / 256 ^ 2 % 256 ∧ b2 = x / 256 ^ 1 % 256 ∧ b3 = x / 256 ^ 0 % 256 by simp only [Nat.reducePow,Nat.div_one]; omega)
   have x0 : 0 ≤ (x : Int):=by omega
   have x1 : (x : Int) ≤ 4294967295:=by omega
   have hgH : gH ≠ gO:=by have:=hF.o3; omega
   clear hx hp hb0 hb1 hb2 hb3
   generalize p + 1 = p1 at *
   generalize p + 2 = p2 at *
   generalize p + 3 = p3 at *
   go_wp2
   go_roundw
   case rel =>
    refine ⟨i + 1,by omega,by go_num,((((hO.set p _).set p1 _).set p2 _).set p3 _).congr fun j hj => ?_,(((hF.far hOK _).far hOK _).far hOK _).far hOK _⟩
    obtain ⟨hx,hp⟩:=HX.out
    obtain ⟨g0,g1,g2,g3⟩:=HBB.out
    by_cases h3 : j = p3
    ·
     rw [if_pos h3,if_pos (by omega)]; unfold dByte
     rw [show j / 4 = i by omega,show 3 - j % 4 = 0 by omega,← hx,g3]
    ·
     rw [if_neg h3]
     by_cases h2 : j = p2
     ·
      rw [if_pos h2,if_pos (by omega)]; unfold dByte
      rw [show j / 4 = i by omega,show 3 - j % 4 = 1 by omega,← hx,g2]
     ·
      rw [if_neg h2]
      by_cases h1 : j = p1
      ·
       rw [if_pos h1,if_pos (by omega)]; unfold dByte
       rw [show j / 4 = i by omega,show 3 - j % 4 = 2 by omega,← hx,g1]
      ·
       rw [if_neg h1]
       by_cases h0 : j = p
       ·
        rw [if_pos h0,if_pos (by omega)]; unfold dByte
        rw [show j / 4 = i by omega,show 3 - j % 4 = 3 by omega,← hx,g0]
       ·
        rw [if_neg h0]
        by_cases hl : j < 4 * i
        ·
         rw [if_pos hl,if_pos (by omega)]
        ·
         rw [if_neg hl,if_neg (by omega)]
   case measure => simp [intOf]; omega
  ·
   have e8 : i = 8:=by omega
   have hd1 : decide ((i : Int) < 8) = false:=by simp; omega
   have hO' : wr.rowIs gO 26 32 (fun p => .int .u8 (dByte s p : Nat)):=hO.congr fun j hj => by rw [if_pos (by omega)]
   clear e8 hlt hi hO
   go_wp2
   exact HQ.out _ _ _ _ _ _ _ _ _ _ _ _ _ _ _ _ _ _ _ _ _ _ _ _ _ _ _ _ _ _ _ _ _ _ _ _ _ _ _ _ _ _ _ _ _ _ wr hF hO'
theorem rsum_calls (A : Option Addr) (n c : Nat) (y : Nat → Nat) (hy : ∀ j,y j < 256) (hn : n ≤ 1048576) (w : World) (hS : Src w A n y w.heap.size) :
  Calls Tryz.prog 122 #[.slice A n c] w fun e w' => e = .returned (.agg (dgst y n)) ∧ Below w.heap.size w w':=by
 obtain ⟨i8,hi8,hz0,hz1,hz2⟩:=info_parts infoB3
 have HY:=veil hy
 clear hy
 go_enter Tryz.func122,Tryz.ntmps122
 go_upto_region 1 with (fail)
 rw [zeros32]
 have hR : (w.alloc (.cells (arrOf 32 (fun _ => .int .u8 0)) 26)).rowIs w.heap.size 26 32 (fun _ => .int .u8 0):=zbk w 32 26 _ rfl
 have hB : Below w.heap.size w (w.alloc (.cells (arrOf 32 (fun _ => .int .u8 0)) 26)):=(Below.refl _ _).alloc (Nat.le_refl _) _
 have hS1:=(hS.at (Nat.le_refl _)).below hB
 have hz : (w.alloc (.cells (arrOf 32 (fun _ => .int .u8 0)) 26)).heap.size = w.heap.size + 1:=by simp
 generalize w.alloc (.cells (arrOf 32 (fun _ => .int .u8 0)) 26) = w1 at *
 generalize hgr : w.heap.size = gR at *
 have HGR:=veil hgr
 clear hgr hS
 have hO : Own (w1.alloc (.cells #[] 5)) (gR + 1) 5 (.slice (some ⟨w1.heap.size,0,none⟩) 0 0) 0 (fun _ => .int .u8 0):=Own.made w1 (cs:=#[]) (by omega) (by decide) (fun i hi => by simp at hi)
 rw [hz] at hO
 have hS2:=hS1.below ((Below.refl w1.heap.size w1).alloc (Nat.le_refl _) (.cells #[] 5))
 have HA:=veil (And.intro hO (src_from hS2))
 have HI:=veil (And.intro hi8 (And.intro hz0 (And.intro hz1 hz2)))
 clear hO hS2 hi8 hz0 hz1 hz2
 go_upto_region 2 with ((with_reducible refine zax 28 ?_); refine zau _ rfl _ _ 46 rfl (gR + 1) 5 i8 (.int .u8 0) 1 Tryz.underlying46 HI.out.1 HI.out.2.1 HI.out.2.2.1 HI.out.2.2.2 rfl (.slice (some ⟨gR + 1,0,none⟩) 0 0) 0 _ rfl HA.out.1 A n c rfl _ HA.out.2 (fun _ => rfl) (by unfold maxLen; omega) (by omega) (by simp [hz]) ?_; intro v3 w2 hO2 hg2 hat2)
 rw [Nat.zero_add] at hO2
 replace hO2 : Own w2 (gR + 1) 5 v3 n (txv y n):=hO2.congr fun j hj => by rw [if_neg (by omega),Nat.sub_zero,txv_lo hj]
 have hb1 : Below gR w1 (w1.alloc (.cells #[] 5)):=(Below.refl _ _).alloc (by omega) _
 have hr1:=hR.alloc (.cells #[] 5)
 replace hR:=zhi hr1 hg2 (by simp [Value.ownBlock])
 replace hB:=hB.trans (hb1.grown hg2 (by simp; omega) (fun k e => by simp [Value.ownBlock] at e; omega))
 have hz2 : gR < w2.heap.size:=hR.lt
 clear hg2 hat2 hb1 hr1 hz HA hS1
 have HA:=veil (And.intro (hO2.alloc (.cells #[.int .u8 128] 5)) (zdp w2 (.int .u8 128) 5))
 go_upto_region 3 with ((with_reducible refine zax 31 ?_); refine zau _ rfl _ _ 46 rfl (gR + 1) 5 i8 (.int .u8 0) 1 Tryz.underlying46 HI.out.1 HI.out.2.1 HI.out.2.2.1 HI.out.2.2.2 rfl v3 n _ rfl HA.out.1 (some ⟨w2.heap.size,0,none⟩) 1 1 rfl _ HA.out.2 (fun _ => rfl) (by unfold maxLen; omega) (by omega) (by simp; omega) ?_; intro v4 w3 hO3 hg3 hat3)
 obtain ⟨hR,hB,hz3⟩:=keep_step hR hB hg3 (fun k e => (hO2.lt e).1)
 replace hO3 : Own w3 (gR + 1) 5 v4 (n + 1) (txv y n):=hO3.congr fun j hj => by
  by_cases h : j < n
  ·
   rw [if_pos h]
  ·
   rw [if_neg h,show j = n by omega,txv_at]
 obtain ⟨N,hN⟩ : ∃ N,N = 64 * nBlocks n:=⟨_,rfl⟩
 have hN1 : n + 9 ≤ N ∧ N ≤ n + 72 ∧ N % 64 = 0:=by rw [hN]; unfold nBlocks; omega
 have HN:=veil hN
 obtain ⟨g3,c3,rfl,_,hg3R,_⟩:=hO3.pre (by omega)
 clear hg3 hat3 hO2 HA hz2 hN
 go_loopw [3] (fun v wr => ∃ m g c : Nat,n + 1 ≤ m ∧ m ≤ N - 8 ∧ v = .slice (some ⟨g,0,none⟩) m c ∧ Own wr (gR + 1) 5 (.slice (some ⟨g,0,none⟩) m c) m (txv y n) ∧ wr.rowIs gR 26 32 (fun _ => .int .u8 0) ∧ Below gR w wr)
  (fun v _ => N - lenOf v)
 case atStart => exact ⟨n + 1,g3,c3,by omega,by omega,rfl,hO3,hR,hB⟩
 case round =>
  obtain ⟨m,g,c,hm1,hm2,rfl,hO,hR,hB⟩:=hrel
  by_cases hlt : m < N - 8
  ·
   have h56 : ¬ ((m : Int) % 64 = 56):=by omega
   have HA:=veil (And.intro (hO.alloc (.cells #[.int .u8 0] 5)) (zdp wr (.int .u8 0) 5))
   have hzr:=hR.lt
   go_wp2_with ((with_reducible refine zax 38 ?_); refine zau _ rfl _ _ 46 rfl (gR + 1) 5 i8 (.int .u8 0) 1 Tryz.underlying46 HI.out.1 HI.out.2.1 HI.out.2.2.1 HI.out.2.2.2 rfl (.slice (some ⟨g,0,none⟩) m c) m _ rfl HA.out.1 (some ⟨wr.heap.size,0,none⟩) 1 1 rfl _ HA.out.2 (fun _ => rfl) (by unfold maxLen; omega) (by omega) (by simp; omega) ?_; intro v4 w3 hO3 hg3 hat3)
   obtain ⟨hR,hB,hz3⟩:=keep_step hR hB hg3 (fun k e => (hO.lt e).1)
   replace hO3 : Own w3 (gR + 1) 5 v4 (m + 1) (txv y n):=hO3.congr fun j hj => by
    by_cases h : j < m
    ·
     rw [if_pos h]
    ·
     rw [if_neg h,txv_mid (by omega) (by have:=HN.out; omega)]
   obtain ⟨g4,c4,rfl,_,_,_⟩:=hO3.pre (by omega)
   clear hg3 hat3 hO HA
   go_roundw
   case rel => exact ⟨m + 1,g4,c4,by omega,by omega,rfl,hO3,hR,hB⟩
   case measure => simp [lenOf]; omega
  ·
   have em : m = N - 8:=by omega
   have h56 : (m : Int) % 64 = 56:=by omega
   have HEM:=veil em
   have e8 : 8 * (n : Int) = ((8 * n : Nat) : Int):=by omega
   obtain ⟨X0,hX0⟩ : ∃ X0,X0 = 8 * n:=⟨_,rfl⟩
   rw [← hX0] at e8
   have hX0l : X0 ≤ 8388608:=by omega
   have HX0:=veil hX0
   clear hlt em hX0
   go_upto_region 8 with (fail)
   have hzr:=hR.lt
   have hgr:=(hO.lt (k:=g) rfl)
   clear h56 e8
   go_loopw [4,5,6] (fun v4 v5 v6 wr => ∃ (i X : Nat) (A : Option Addr) (c5 : Nat),i ≤ 8 ∧ X ≤ 8388608 ∧ Hid (X = 8 * n / 256 ^ i) ∧ v6 = .int .i64 (i : Int) ∧ v4 = .int .u64 (X : Int) ∧ v5 = .slice A i c5 ∧ Src wr A i (fun j => 8 * n / 256 ^ (i - 1 - j) % 256) gR ∧
     Own wr (gR + 1) 5 (.slice (some ⟨g,0,none⟩) m c) m (txv y n) ∧ wr.rowIs gR 26 32 (fun _ => .int .u8 0) ∧ Below gR w wr)
    (fun _ _ v6 _ => 8 - (intOf v6).toNat)
   case atStart => exact ⟨0,X0,none,0,by omega,hX0l,by rw [HX0.out,Nat.pow_zero,Nat.div_one]; rfl,rfl,rfl,rfl,.inl rfl,hO,hR,hB⟩
   case round =>
    obtain ⟨i,X,A,c5,hi,hXl,hX,rfl,rfl,rfl,hS,hO,hR,hB⟩:=hrel
    by_cases hlt : i < 8
    ·
     obtain ⟨x,hx⟩ : ∃ x,x = X % 256:=⟨_,rfl⟩
     have hxi : (X : Int) % 256 = (x : Int):=by omega
     have hx256 : x < 256:=by omega
     obtain ⟨X',hX'⟩ : ∃ X',X' = X / 256:=⟨_,rfl⟩
     have hXi : (X : Int) / 256 = (X' : Int):=by omega
     have hXl' : X' ≤ 8388608:=by omega
     have hzr:=hR.lt
     have hgr:=(hO.lt (k:=g) rfl)
     have HXX:=veil (And.intro hx hX')
     have hOn:=own_one wr 5 (.int .u8 (x : Int))
     have hSn:=hS.below ((Below.refl wr.heap.size wr).alloc (Nat.le_refl _) (.cells #[.int .u8 (x : Int)] 5))
     have HA:=veil (And.intro hOn (src_from hSn))
     clear hx hX' hOn hSn hS
     go_wp2_with ((with_reducible refine zax 52 ?_); refine zau _ rfl _ _ 46 rfl wr.heap.size 5 i8 (.int .u8 0) 1 Tryz.underlying46 HI.out.1 HI.out.2.1 HI.out.2.2.1 HI.out.2.2.2 rfl (.slice (some ⟨wr.heap.size,0,none⟩) 1 1) 1 _ rfl HA.out.1 A i c5 rfl _ HA.out.2 (fun _ => rfl) (by unfold maxLen; omega) (by omega) (by simp) ?_; intro v4 w3 hO3 hg3 hat3)
     obtain ⟨hR3,hB3,hz3⟩:=keep_step hR hB hg3 (fun k e => by simp [Value.ownBlock] at e; omega)
     have hOk:=(hO.alloc (.cells #[.int .u8 (x : Int)] 5)).kept hg3 (.inr (by simp [Value.ownBlock]; omega))
     obtain ⟨g4,c4,rfl,_,hg4,hp4⟩:=hO3.pre (by omega)
     clear hg3 hat3 hO HA hR hB
     go_roundw
     case rel =>
      refine ⟨i + 1,X',some ⟨g4,0,none⟩,c4,by omega,hXl',?_,by go_num,rfl,by rw [Nat.add_comm 1 i],?_,hOk,hR3,hB3⟩
      ·
       show X' = _
       rw [HXX.out.2,hX.out,Nat.pow_succ,Nat.div_div_eq_div_mul]
      ·
       refine .inr ⟨g4,0,rfl,hp4.lt,by omega,fun j hj => ?_⟩
       rw [Nat.zero_add,hp4.cell (by omega)]
       dsimp only
       by_cases h : j < 1
       ·
        rw [if_pos h,show i + 1 - 1 - j = i by omega,HXX.out.1,hX.out]
       ·
        rw [if_neg h,show i + 1 - 1 - j = i - 1 - (j - 1) by omega]
     case measure => simp [intOf]; omega
    ·
     have e8 : i = 8:=by omega
     have HE8:=veil e8
     have hif : decide ((i : Int) < 8) = false:=by simp; omega
     have hzr:=hR.lt
     have HA:=veil (And.intro hO (src_from hS))
     have hgr:=hO.lt (k:=g) rfl
     have h64 : m + i = N:=by have:=HEM.out; omega
     clear hS e8 hlt hi
     go_upto_region 13 with ((with_reducible refine zax 57 ?_); refine zau _ rfl _ _ 46 rfl (gR + 1) 5 i8 (.int .u8 0) 1 Tryz.underlying46 HI.out.1 HI.out.2.1 HI.out.2.2.1 HI.out.2.2.2 rfl (.slice (some ⟨g,0,none⟩) m c) m _ rfl HA.out.1 A i c5 rfl _ HA.out.2 (fun _ => rfl) (by unfold maxLen; omega) (by omega) (by omega) ?_; intro v4 w3 hO3 hg3 hat3)
     have hTn : Own w3 (gR + 1) 5 v4 N (txv y n):=by
      rw [← h64]
      refine hO3.congr fun j hj => ?_
      by_cases h : j < m
      ·
       rw [if_pos h]
      ·
       have he:=HEM.out; have hnn:=HN.out; have h8:=HE8.out
       rw [if_neg h,txv_hi (by omega) (by omega),show i - 1 - (j - m) = 64 * nBlocks n - 1 - j by omega]
     obtain ⟨gT,cT,rfl,hcT,hgT,hpT⟩:=hTn.pre (by omega)
     have hR3:=zhi hR hg3 (by simp [Value.ownBlock]; omega)
     have hB3:=hB.grown hg3 (by omega) (fun k e => by simp [Value.ownBlock] at e; omega)
     have hgT2:=hpT.lt
     have hz3:=hR3.lt
     clear hO3 hg3 hat3 HA hO hR hB hTn
     have hH : (w3.alloc (.cells #[.int .u32 1779033703,.int .u32 3144134277,.int .u32 1013904242,.int .u32 2773480762,.int .u32 1359893119,.int .u32 2600822924,.int .u32 528734635,.int .u32 1541459225] 114)).rowIs w3.heap.size 114 8 (fun j => .int .u32 ((blocksN (padded y n) 0).at j : Nat)):=zbk w3 8 114 (fun j => .int .u32 ((blocksN (padded y n) 0).at j : Nat)) rfl
     have hp4:=hpT.alloc (.cells #[.int .u32 1779033703,.int .u32 3144134277,.int .u32 1013904242,.int .u32 2773480762,.int .u32 1359893119,.int .u32 2600822924,.int .u32 528734635,.int .u32 1541459225] 114)
     have hR4:=hR3.alloc (.cells #[.int .u32 1779033703,.int .u32 3144134277,.int .u32 1013904242,.int .u32 2773480762,.int .u32 1359893119,.int .u32 2600822924,.int .u32 528734635,.int .u32 1541459225] 114)
     have hB4:=hB3.alloc (by omega) (.cells #[.int .u32 1779033703,.int .u32 3144134277,.int .u32 1013904242,.int .u32 2773480762,.int .u32 1359893119,.int .u32 2600822924,.int .u32 528734635,.int .u32 1541459225] 114)
     clear hpT hR3 hB3
     go_wp2_with fail
     generalize w3.alloc (.cells #[.int .u32 1779033703,.int .u32 3144134277,.int .u32 1013904242,.int .u32 2773480762,.int .u32 1359893119,.int .u32 2600822924,.int .u32 528734635,.int .u32 1541459225] 114) = w4 at *
     refine (constants_calls w4).mono ?_
     rintro e w5 ⟨rfl,rfl⟩
     have hF : RF w (w4.alloc (.cells kCells 114)) gR gT w3.heap.size w4.heap.size N (txv y n) (hst (blocksN (padded y n) 0)) :=
      ⟨hp4.alloc _,hH.alloc _,kRow rfl,hR4.alloc _,hB4.alloc (by have:=hR4.lt; omega) _,by omega,hgT2,hH.lt⟩
     generalize w4.alloc (.cells kCells 114) = w5 at *
     generalize w4.heap.size = gK at *
     generalize w3.heap.size = gH at *
     clear hp4 hH hR4 hB4
     go_upto_region 16 with (fail)
     obtain ⟨i32,hi32,hw0,hw1,hw2⟩:=info_parts infoU32
     have HI4:=veil (And.intro hi32 (And.intro hw0 (And.intro hw1 hw2)))
     have hNmax : N ≤ 2097152:=by omega
     clear hi32 hw0 hw1 hw2 HI
     go_loopw [9] (fun v wr => ∃ q a : Nat,Hid (a = 64 * q) ∧ a ≤ N ∧ v = .int .i64 (a : Int) ∧ RF w wr gR gT gH gK N (txv y n) (hst (blocksN (padded y n) q)))
      (fun v _ => N - (intOf v).toNat)
     case atStart => exact ⟨0,0,rfl,by omega,rfl,hF⟩
     case round =>
      obtain ⟨q,a,HQ,haN,rfl,hF⟩:=hrel
      by_cases hlt : a < N
      ·
       have haN2 : a + 64 ≤ N:=by have:=HQ.out; omega
       have hd1 : decide ((a : Int) < (N : Int)) = true:=by simp; omega
       obtain ⟨st,hst0⟩ : ∃ st,st = blocksN (padded y n) q:=⟨_,rfl⟩
       rw [← hst0] at hF
       have HOK:=veil (show st.Ok by rw [hst0]; exact zic _ _)
       have HST:=veil hst0
       clear hst0
       go_upto_block 6 with (fail)
       refine sched_piece HY.out HQ.out haN2 hNmax hF ?_
       intros
       rename_i gW cW w6 hF6 hW6 hgW6
       have hO6 : Own (w6.alloc (.cells #[] 114)) (gK + 1) 114 (.slice (some ⟨w6.heap.size,0,none⟩) 0 0) 0 (fun _ => .int .u32 0):=Own.made w6 (cs:=#[]) (by have:=hF6.lt; omega) (by decide) (fun i hi => by simp at hi)
       have hF6a:=hF6.alloc (.cells #[] 114)
       have hFr : From (w6.alloc (.cells #[] 114)) (some ⟨gH,0,none⟩) 8 (hst st):=.inr ⟨_,rfl,fun j hj => by rw [Addr.add_mid,Nat.zero_add]; exact hF6a.h.cell hj⟩
       have hW6a:=hW6.alloc (.cells #[] 114)
       have hz6:=hF6.lt
       have hW6l:=hW6.lt
       have HA6:=veil (And.intro hO6 (And.intro hFr (show gK + 1 ≤ (w6.alloc (.cells #[] 114)).heap.size by show gK + 1 ≤ (w6.heap.push _).size; simp; omega)))
       clear hO6 hFr hF6 hW6
       go_upto_block 8 with ((with_reducible refine zax 154 ?_); refine zau _ rfl _ _ 147 rfl (gK + 1) 114 i32 (.int .u32 0) 4 Tryz.underlying147 HI4.out.1 HI4.out.2.1 HI4.out.2.2.1 HI4.out.2.2.2 rfl (.slice (some ⟨w6.heap.size,0,none⟩) 0 0) 0 _ rfl HA6.out.1 (some ⟨gH,0,none⟩) 8 8 rfl (hst st) HA6.out.2.1 (fun _ => rfl) (by decide) (by decide) HA6.out.2.2 ?_; intro v7 w7 hO7 hg7 hat7; obtain ⟨gs,cs,rfl,hcs7,hgs7,hS7⟩:=hO7.pre (by decide))
       have hF7:=hF6a.grown hg7 (fun k e => by simp [Value.ownBlock] at e; omega)
       have hW7 : Pre w7 gW 114 64 (fun j => .int .u32 (wt (mOf y n q) j : Nat)):=hW6a.of_block (hg7.block gW hW6a.lt (by simp [Value.ownBlock]; omega))
       have hS7' : Pre w7 gs 114 8 (hst st):=hS7.congr fun j _ => by rw [if_neg (by omega),Nat.sub_zero]
       clear hO7 hg7 hat7 hS7 HA6 hF6a hW6a
       refine rounds_piece (m:=mOf y n q) HOK.out (mOf_lt HY.out n q) hF7 hW7 hS7' (by omega) (by omega) ?_
       intros
       rename_i gs' cs' w8 hF8 hS8 hs8 hc8
       clear hF7 hW7 hS7'
       go_upto_block 10 with (fail)
       refine add_piece hF8 hS8 hs8 ?_
       intros
       rename_i w9 hF9
       clear hF8 hS8
       go_wp2
       go_roundw
       case rel =>
        refine ⟨q + 1,a + 64,?_,by omega,by go_num,?_⟩
        ·
         have:=HQ.out
         show a + 64 = 64 * (q + 1)
         omega
        ·
         have e : addSt st (roundsN (mOf y n q) st 64) = blocksN (padded y n) (q + 1):=by rw [HST.out]; rfl
         rw [← e]; exact hF9
       case measure => simp [intOf]; omega
      ·
       have ea : a = N:=by omega
       have hd1 : decide ((a : Int) < (N : Int)) = false:=by simp; omega
       have hq : q = nBlocks n:=by have h1:=HQ.out; have h2:=HN.out; omega
       have hF : RF w wr gR gT gH gK N (txv y n) (hst (shaSt y n)):=by
        have e : shaSt y n = blocksN (padded y n) q:=by rw [hq]; rfl
        rw [e]; exact hF
       have HOK:=veil (show (shaSt y n).Ok from zic _ _)
       obtain ⟨sh,hsh⟩ : ∃ sh,sh = shaSt y n:=⟨_,rfl⟩
       rw [← hsh] at hF HOK
       have HSH:=veil hsh
       have hd2 : decide (a < N) = false:=by simp; omega
       clear ea haN hq hsh
       go_upto_region 44 with (fail)
       rw [zeros32]
       have hO:=zbk wr 32 26 (fun _ => .int .u8 0) rfl
       have hF1:=hF.alloc (.cells (arrOf 32 (fun _ => .int .u8 0)) 26)
       have hzz:=hF.lt
       generalize wr.alloc (.cells (arrOf 32 (fun _ => .int .u8 0)) 26) = wA at *
       generalize wr.heap.size = gO at *
       clear hF
       go_upto_block 12 with (fail)
       refine out_piece HOK.out hF1 hO hzz ?_
       intros
       rename_i wB hFB hOB
       have HA:=veil (blkOf hOB)
       have HN2:=veil (blkOf hFB.r)
       have hBB:=hFB.b
       obtain ⟨D,hD⟩ : ∃ D,D = arrOf 32 (fun p => .int .u8 (dByte sh p : Nat)):=⟨_,rfl⟩
       rw [← hD] at HA
       have hs : D.size = 32:=by rw [hD,zaw]
       have h1 : D.all (·.oneCell') = true:=by rw [hD]; exact zbr fun _ _ => rfl
       have HZ:=veil (And.intro hs (And.intro h1 (show (Tryz.prog.info? 26).map (·.size) = some D.size by rw [hs]; exact infoD)))
       have HD:=veil (show D = dgst y n by rw [hD,HSH.out]; rfl)
       clear hs h1 hD hOB hFB hF1 hO
       go_wp2_with (first
        | ((with_reducible refine zax 332 ?_); refine wpList_load_row rfl 26 _ rfl gO rfl 26 D (0,0) _ HA.out Tryz.underlying26 rfl HZ.out.2.2 ?_)
        | ((with_reducible refine zbh ?_); refine wpList_store_row rfl 26 _ _ rfl gR D rfl rfl 26 _ HN2.out HZ.out.2.2 (by rw [HZ.out.1,zaw]) HZ.out.2.1 ?_))
       exact bodyPost_ret (results_cell_row rfl _ _ gR 26 D (0,0) _ rfl (setRow_heap wB gR _ D 26 (0,0) HN2.out) Tryz.underlying26 rfl HZ.out.2.2) rfl ⟨by rw [HD.out],by rw [HGR.out]; exact zbp hBB (Nat.le_refl _) _⟩
end Go.Proofs.YtmfjigcdhijkjaaGreatDoor
namespace Go.Proofs.YtmfjigcdhijkjaaGreatDoor
open Go.ChangeShapes Go.WideShapes Go.ChangeAt Go.RowKit
theorem cellsWord : Tryz.prog.cellsOf 22 = 1:=by kernel_rfl
theorem cellsNum : Tryz.prog.cellsOf 24 = 4:=by kernel_rfl
def numD {H : Type} (X : Nat) : DataW H:=.agg [.lit (.int .u64 (wd X 0)),.lit (.int .u64 (wd X 1)),.lit (.int .u64 (wd X 2)),.lit (.int .u64 (wd X 3))]
theorem wf_u64 {x : Int} (h : (Lit.int .u64 x).wf = true) : 0 ≤ x ∧ x < 18446744073709551616:=by
 simp only [Lit.wf,Bool.and_eq_true,decide_eq_true_eq] at h
 have e1 : IntKind.u64.min = 0:=rfl
 have e2 : IntKind.u64.max = 18446744073709551615:=rfl
 omega
theorem wf_wd (X i : Nat) : (Lit.int .u64 (wd X i)).wf = true:=WalkArith.wf_u64 ⟨wd_lo X i,wd_le X i⟩
section
variable {H : Type} {enc : TypeId × Value → H}
theorem shut_num (W : World) (base : Nat) (sp : Nat → Bool) (hd : Bool) (X : Nat) : DataW.Trod enc Tryz.prog W base sp hd 24 (.agg #[.int .u64 (wd X 0),.int .u64 (wd X 1),.int .u64 (wd X 2),.int .u64 (wd X 3)]) (numD X) [] :=
 ⟨2,by simp [numD,DataW.trod,Value.cells,Tryz.underlying24,Tryz.underlying22,cellsNum,cellsWord,wf_wd,show List.range 4 = [0,1,2,3] from rfl]⟩
theorem open_num {W : World} {base : Nat} {v : Value} {d : DataW H} {p : List MemPlace} (hv : Value.okWide Tryz.prog W .any base 24 v) (h : DataW.Trod enc Tryz.prog W 0 (fun _ => true) true 24 v d p) :
  ∃ X,X < top ∧ v = .agg #[.int .u64 (wd X 0),.int .u64 (wd X 1),.int .u64 (wd X 2),.int .u64 (wd X 3)] ∧ d = numD X ∧ p = []:=by
 obtain ⟨cs,rfl,hsz,_⟩ : ∃ cs,v = .agg cs ∧ cs.size = Tryz.prog.cellsOf 24 ∧ Row.okWide Tryz.prog W .any base 24 cs:=by
  simpa [Value.okWide,Tryz.underlying24] using hv
 rw [cellsNum] at hsz
 obtain ⟨c0,c1,c2,c3,rfl⟩:=Joins.array4 hsz
 obtain ⟨fuel,hf⟩:=h
 obtain ⟨y0,y1,y2,y3,m,hx,hy0,hy1,hy2,hy3⟩:=trod_array4 Tryz.underlying24 cellsWord hf
 obtain ⟨x0,e0,rfl,w0⟩:=DataW.trod_int Tryz.underlying22 hy0
 obtain ⟨x1,e1,rfl,w1⟩:=DataW.trod_int Tryz.underlying22 hy1
 obtain ⟨x2,e2,rfl,w2⟩:=DataW.trod_int Tryz.underlying22 hy2
 obtain ⟨x3,e3,rfl,w3⟩:=DataW.trod_int Tryz.underlying22 hy3
 simp at e0 e1 e2 e3
 subst e0 e1 e2 e3
 simp only [Prod.mk.injEq] at hx
 obtain ⟨rfl,rfl⟩:=hx
 obtain ⟨a0,b0⟩:=wf_u64 w0
 obtain ⟨a1,b1⟩:=wf_u64 w1
 obtain ⟨a2,b2⟩:=wf_u64 w2
 obtain ⟨a3,b3⟩:=wf_u64 w3
 obtain ⟨g0,g1,g2,g3⟩:=wd_ofWords a0 b0 a1 b1 a2 b2 a3 b3
 refine ⟨ofWords x0 x1 x2 x3,ofWords_lt b0 b1 b2 b3,?_,?_,rfl⟩
 ·
  rw [g0,g1,g2,g3]
 ·
  unfold numD
  rw [g0,g1,g2,g3]
end
end Go.Proofs.YtmfjigcdhijkjaaGreatDoor
namespace Go.Proofs.YtmfjigcdhijkjaaGreatDoor
open Go.ChangeShapes Go.WideShapes Go.ChangeAt Go.RowKit
theorem cellsDig : Tryz.prog.cellsOf 26 = 32:=by kernel_rfl
theorem cellsB : Tryz.prog.cellsOf 5 = 1:=by kernel_rfl
def byteOf : Option Value → Nat
 | some (.int _ x) => x.toNat % 256
 | _ => 0
theorem byteOf_lt (v : Option Value) : byteOf v < 256:=by
 unfold byteOf
 split
 ·
  exact Nat.mod_lt _ (by decide)
 ·
  decide
section
variable {H : Type} {enc : TypeId × Value → H}
theorem open_dig {W : World} {base : Nat} {v : Value} {d : DataW H} {p : List MemPlace} (hv : Value.okWide Tryz.prog W .any base 26 v) (h : DataW.Trod enc Tryz.prog W 0 (fun _ => true) true 26 v d p) :
  ∃ y : Nat → Nat,(∀ j,y j < 256) ∧ v = .agg (arrOf 32 fun i => .int .u8 (y i : Nat)) ∧ p = []:=by
 obtain ⟨cs,rfl,hsz,_⟩ : ∃ cs,v = .agg cs ∧ cs.size = Tryz.prog.cellsOf 26 ∧ Row.okWide Tryz.prog W .any base 26 cs:=by
  simpa [Value.okWide,Tryz.underlying26] using hv
 rw [cellsDig] at hsz
 obtain ⟨fuel,hf⟩:=h
 obtain ⟨xs,m,_,hx,_,hn,hi⟩:=DataW.trod_array Tryz.underlying26 hf
 have hi : ∀ i,i < 32 → DataW.trod enc Tryz.prog W 0 (fun _ => true) true m 5 ((cs.toList.drop i).take 1) = xs[i]?:=fun i h => by
  have h1:=hi i h
  rw [cellsB,Nat.mul_one] at h1
  exact h1
 have each : ∀ i,i < 32 → cs[i]? = some (.int .u8 (byteOf cs[i]? : Nat)) ∧ ∀ z,xs[i]? = some z → z.2 = []:=fun i h => by
  have hc : cs[i]? = some (cs[i]'(by omega)):=Array.getElem?_eq_getElem (by omega)
  have hl : (cs.toList.drop i).take 1 = [cs[i]'(by omega)]:=by
   rw [List.drop_eq_getElem_cons (by simpa using (by omega : i < cs.size))]
   simp
  have hxi : xs[i]? = some (xs[i]'(by omega)):=List.getElem?_eq_getElem (by omega)
  have h1:=hi i h
  rw [hl,hxi] at h1
  obtain ⟨x,e,hz,wf⟩:=DataW.trod_int Tryz.underlying5 h1
  simp at e
  simp only [Lit.wf,Bool.and_eq_true,decide_eq_true_eq] at wf
  have e1 : IntKind.u8.min = 0:=rfl
  have e2 : IntKind.u8.max = 255:=rfl
  refine ⟨?_,fun z hz' => ?_⟩
  ·
   rw [hc,e]
   show some (Value.int .u8 x) = some (.int .u8 ((x.toNat % 256 : Nat) : Int))
   have : ((x.toNat % 256 : Nat) : Int) = x:=by omega
   rw [this]
  ·
   rw [hxi] at hz'
   obtain rfl:=Option.some.inj hz'
   rw [hz]
 refine ⟨fun i => byteOf cs[i]?,fun i => byteOf_lt _,?_,?_⟩
 ·
  congr 1
  exact eq_arrOf hsz fun i h => (each i h).1
 ·
  simp only [Prod.mk.injEq] at hx
  rw [hx.2]
  refine List.flatMap_eq_nil_iff.2 fun z hz => ?_
  obtain ⟨i,hi',rfl⟩:=List.getElem_of_mem hz
  exact (each i (by omega)).2 _ (List.getElem?_eq_getElem hi')
end
end Go.Proofs.YtmfjigcdhijkjaaGreatDoor
