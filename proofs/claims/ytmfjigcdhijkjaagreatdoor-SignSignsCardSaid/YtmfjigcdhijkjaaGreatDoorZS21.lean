/-
  Of NS3 NS4 NS5 NS6 NS7.
-/
import Derived.Deep.RegionWith
import Derived.Deep.Cut
import Derived.Deep.CutRange
import Derived.Deep.LoopGhost
import Derived.Test.YtmfjigcdhijkjaaGreatDoorZS1
import Derived.Test.YtmfjigcdhijkjaaGreatDoorZS18
import Derived.Test.YtmfjigcdhijkjaaGreatDoorZS15
import Derived.Test.YtmfjigcdhijkjaaGreatDoorZS11
import Derived.Test.YtmfjigcdhijkjaaGreatDoorZS5
import Derived.Test.YtmfjigcdhijkjaaGreatDoorZS6
set_option maxRecDepth 1000000
set_option maxHeartbeats 20000000
namespace Go.Proofs.YtmfjigcdhijkjaaGreatDoor
open Go.RowKit
open Go.Value renaming int → vI
open Go.IntKind renaming u64 → vU
open Go.Act renaming put → aP
open List renaming setIfInBounds_toArray → lA, set_cons_zero → lZ, set_cons_succ → lS
theorem row_of_setRow {w : World} {g r : Nat} {s : KV} {cs : Array Value} (h : SRow w g s) (hne : g ≠ r) : SRow (w.setRow r cs) g s:=World.rowIs.of_block h (zca w cs hne)
theorem But.farRow {w w' : World} {g r : Nat} {cs : Array Value} (h : But g w w') (hr : w.heap.size ≤ r) : But g w (w'.setRow r cs) :=
 ⟨h.os,h.tape,h.output,by simpa [World.setRow] using h.size,fun k hk hne => (zca w' cs (by omega)).trans (h.block k hk hne)⟩
theorem parts_nil (w : World) : Parts3 w none 0 (fun _ => none) (fun _ => 0) (fun _ => 0) (fun _ _ => 0) where
 row:=.inl rfl
 src:=fun r hr => by omega
 cap:=fun r hr => by omega
 lt:=fun _ _ => by decide
theorem mix_none (g : Nat) (hg : g ≠ 0) (s : KV) (hs : s.Ok) (w : World) (hK : KT w) (hS : SRow w g s) :
  Calls Tryz.prog 102 #[.pointer (some ⟨g,0,none⟩),.int .u8 0,.slice none 0 0] w fun e w' => e = .returned (.tuple #[]) ∧ SRow w' g (s.mix 0 none0 0) ∧ But g w w' :=
 nmix_calls g hg s hs 0 (by decide) none 0 0 (fun _ => none) (fun _ => 0) (fun _ => 0) (fun _ _ => 0) (by decide) (by decide) w hK hS (parts_nil w)
theorem next_calls (g : Nat) (hg : g ≠ 0) (s : KV) (hs : s.Ok) (w : World) (hK : KT w) (hS : SRow w g s) :
  Calls Tryz.prog 59 #[.pointer (some ⟨g,0,none⟩)] w fun e w' => e = .returned (nv (num32 s.step.v)) ∧ SRow w' g s.next ∧ But g w w':=by
 obtain ⟨X,hX⟩ : ∃ X,X = num32 s.step.v:=⟨_,rfl⟩
 rw [← hX]
 have HX:=veil hX
 have HK:=veil hK
 have HS:=veil hS
 have HG:=veil (And.intro hg hs)
 have hlt:=hS.lt
 clear hX hK hS hg hs
 go_enter Tryz.func59,Tryz.ntmps59
 go_upto_region 1 with (fail)
 have hn : (w.alloc (.cells #[vI vU 0,vI vU 0,vI vU 0,vI vU 0] 24)).heap[w.heap.size]? = some (.cells #[vI vU 0,vI vU 0,vI vU 0,vI vU 0] 24 (0,0)):=heap_alloc_last w _
 have H1:=veil (And.intro (HK.out.alloc (.cells #[vI vU 0,vI vU 0,vI vU 0,vI vU 0] 24)) (And.intro (HS.out.alloc (.cells #[vI vU 0,vI vU 0,vI vU 0,vI vU 0] 24)) (And.intro (But.alloc (But.refl g w) (.cells #[vI vU 0,vI vU 0,vI vU 0,vI vU 0] 24)) hn)))
 generalize w.alloc (.cells #[vI vU 0,vI vU 0,vI vU 0,vI vU 0] 24) = w1 at *
 have HQ:=veil (step_calls g s HG.out.2 w1 H1.out.1 H1.out.2.1)
 clear hn
 go_upto_region 2 with (refine HQ.out.mono ?_; rintro e w2 ⟨rfl,hS2,hB2⟩)
 have hn2:=(hB2.block w.heap.size (Array.getElem?_eq_some_iff.1 H1.out.2.2.2).1 (by intro e; injection e; omega)).trans H1.out.2.2.2
 have H2:=veil (And.intro (H1.out.1.grown hB2 (Ne.symm HG.out.1)) (And.intro hS2 (And.intro (H1.out.2.2.1.trans hB2) hn2)))
 clear hS2 hB2 hn2 H1 HQ
 have HOf:=veil (show Calls Tryz.prog 82 #[.slice (some ⟨g,32,none⟩) 32 32] w2 fun e w' => e = .returned (.tuple #[nv X,.nilIface]) ∧ Below w2.heap.size w2 w' from by rw [HX.out]; exact of_some g 32 32 32 s.step.v HG.out.2.step.v (by decide) w2 H2.out.2.1.lt H2.out.2.1.cellV)
 go_upto_region 3 with (first
  | (go_at_call 82; refine HOf.out.mono ?_; rintro e w3 ⟨rfl,hb3⟩)
  | ((with_reducible refine zbh ?_); refine wpList_store_row rfl 24 _ _ rfl w3.heap.size (nc X) rfl rfl 24 _ (heap_alloc_last w3 _) (iN X) (by rfl) (zbe X) ?_; rw [World.setRow_alloc_new]))
 have h4:=((H2.out.2.1.call hb3).alloc (.cells (nc X) 24))
 have hk4:=((H2.out.1.call hb3).alloc (.cells (nc X) 24))
 have hb4:=((H2.out.2.2.1.below hb3).alloc (.cells (nc X) 24))
 have hn4:=(Below.heap_alloc w3 (.cells (nc X) 24) _ (Nat.lt_of_lt_of_le (Array.getElem?_eq_some_iff.1 H2.out.2.2.2).1 hb3.size)).trans ((hb3.block _ (Array.getElem?_eq_some_iff.1 H2.out.2.2.2).1).trans H2.out.2.2.2)
 have hx4 : (w3.alloc (.cells (nc X) 24)).heap[w3.heap.size]? = some (.cells (nc X) 24 (0,0)):=heap_alloc_last w3 _
 have hne : g < w3.heap.size:=Nat.lt_of_lt_of_le H2.out.2.1.lt hb3.size
 have hne2 : w.heap.size ≠ w3.heap.size:=by have:=(Array.getElem?_eq_some_iff.1 H2.out.2.2.2).1; have:=hb3.size; omega
 have hlx : w3.heap.size < (w3.alloc (.cells (nc X) 24)).heap.size:=by simp
 generalize w3.alloc (.cells (nc X) 24) = w4 at *
 generalize w3.heap.size = gx at *
 have H4:=veil (And.intro hn4 hx4)
 have HB4:=veil hb4
 have HQ:=veil (mix_none g HG.out.1 s.step HG.out.2.step w4 hk4 h4)
 clear h4 hk4 hn4 hx4 hb3 H2 HOf hb4
 go_upto_region 4 with (go_at_call 102; refine HQ.out.mono ?_; rintro e w5 ⟨rfl,hS5,hB5⟩)
 have hn5:=(hB5.block _ (Array.getElem?_eq_some_iff.1 H4.out.1).1 (by intro e; injection e; omega)).trans H4.out.1
 have hx5:=(hB5.block _ (Array.getElem?_eq_some_iff.1 H4.out.2).1 (by intro e; injection e; omega)).trans H4.out.2
 have H5:=veil (And.intro hn5 hx5)
 have HB5:=veil (And.intro hS5 (HB4.out.trans hB5))
 clear hn5 hx5 hS5 hB5 HB4 H4 HQ
 go_wp2_with (first
  | ((with_reducible refine zax 17 ?_); refine wpList_load_row rfl 24 _ rfl gx rfl 24 (nc X) (0,0) _ H5.out.2 Tryz.underlying24 rfl (iN X) ?_)
  | ((with_reducible refine zbh ?_); refine wpList_store_row rfl 24 _ _ rfl w.heap.size (nc X) rfl rfl 24 _ H5.out.1 (iN X) (by rfl) (zbe X) ?_))
 have hfin : SRow w5 g s.next:=HB5.out.1
 exact bodyPost_ret (results_cell_row rfl _ _ w.heap.size 24 (nc X) (0,0) _ rfl (setRow_heap w5 w.heap.size _ (nc X) 24 (0,0) H5.out.1) Tryz.underlying24 rfl (iN X)) rfl ⟨rfl,row_of_setRow hfin (by omega),But.farRow HB5.out.2 (by omega)⟩
theorem pN_is (w : World) : Calls Tryz.prog 47 #[] w fun e w' => e = .returned (nv Pt.nn) ∧ Ext w w':=by
 obtain ⟨l0,l1,l2,l3⟩:=nn_words
 unfold nv nc
 rw [l0,l1,l2,l3]
 clear l0 l1 l2 l3
 go_enter Tryz.func47,Tryz.ntmps47
 go_wp2
 exact bodyPost_ret (results_cell_row rfl _ _ w.heap.size 24 #[vI vU 17562291160714782033,vI vU 13611842547513532036,vI vU 18446744073709551615,vI vU 18446744069414584320] (0,0) _ rfl (heap_alloc_last w _) Tryz.underlying24 rfl (by kernel_rfl)) rfl ⟨rfl,(Below.refl _ _).alloc (Nat.le_refl _) _⟩
theorem can_zero  (w : World) :
  Calls Tryz.prog 56 #[nv 0] w fun e w' => e = .returned (.bool false) ∧ Ext w w':=by
 unfold nv nc
 go_enter Tryz.func56,Tryz.ntmps56
 go_upto_region 1 with (fail)
 obtain ⟨hx,b0⟩:=blocks1 w (.cells #[vI vU (wd 0 0),vI vU (wd 0 1),vI vU (wd 0 2),vI vU (wd 0 3)] 24)
 generalize w.alloc (.cells #[vI vU (wd 0 0),vI vU (wd 0 1),vI vU (wd 0 2),vI vU (wd 0 3)] 24) = w1 at *
 have b0 : w1.heap[w.heap.size]? = some (.cells (nc 0) 24 (0,0)):=b0
 refine' zdb (m:=10) (A:=_) 10 (by kernel_rfl) (by kernel_rfl) ?h1 ?h2
 case h1 =>
  refine zaa (nv 0) rfl (zad rfl rfl b0 rfl uN rfl (iN _)) ?_
  refine zaa (nv 0) rfl (zba rfl rfl (bldN0 ·)) ?_;simp only [aP,lA,lZ,lS]
  refine zaa (.bool false) rfl (zcd rfl rfl rfl (gN _ _ _ _ _) neN) ?_
  refine zaa (.bool false) rfl (zah (.inl rfl) rfl) ?_;simp only [aP,lA,lZ,lS]
  refine zch rfl ?_
  refine zch rfl ?_;simp only [aP,lA,lZ,lS]
  refine zch rfl ?_
  refine zch rfl ?_;simp only [aP,lA,lZ,lS]
  refine zaa (.bool false) rfl (zbd rfl rfl rfl) ?_
  refine zaa (.bool false) rfl (zah (.inr rfl) rfl) ?_;simp only [aP,lA,lZ,lS]
  exact zak
 refine zck rfl (by kernel_rfl) ?_
 intro w2 hE
 refine NoPanic.normal ?_
 replace hx:=hx.trans hE
 clear hE
 go_wp2
 go_ret
 exact ⟨rfl,hx⟩
theorem can_in (X : Nat) (hX : X < top) (h0 : X ≠ 0) (hl : X < Pt.nn) (w : World) :
  Calls Tryz.prog 56 #[nv X] w fun e w' => e = .returned (.bool true) ∧ Ext w w':=by
 have kX:=veil hX
 have k0:=veil h0
 have kl:=veil hl
 clear hX h0 hl
 unfold nv nc
 go_enter Tryz.func56,Tryz.ntmps56
 go_upto_region 1 with (fail)
 obtain ⟨hx,b0⟩:=blocks1 w (.cells #[vI vU (wd X 0),vI vU (wd X 1),vI vU (wd X 2),vI vU (wd X 3)] 24)
 generalize w.alloc (.cells #[vI vU (wd X 0),vI vU (wd X 1),vI vU (wd X 2),vI vU (wd X 3)] 24) = w1 at *
 have b0 : w1.heap[w.heap.size]? = some (.cells (nc X) 24 (0,0)):=b0
 refine' zdb (m:=10) (A:=_) 10 (by kernel_rfl) (by kernel_rfl) ?h1 ?h2
 case h1 =>
  refine zaa (nv X) rfl (zad rfl rfl b0 rfl uN rfl (iN _)) ?_
  refine zaa (nv 0) rfl (zba rfl rfl (bldN0 ·)) ?_;simp only [aP,lA,lZ,lS]
  refine zaa (.bool true) rfl (zcd rfl rfl rfl (gN _ _ _ _ _) (neN0 kX.out k0.out ·)) ?_
  refine zaa (.bool true) rfl (zah (.inl rfl) rfl) ?_;simp only [aP,lA,lZ,lS]
  refine zat (nv X) rfl (zad rfl rfl b0 rfl uN rfl (iN _)) ?_
  refine zat (nv Pt.nn) rfl (zai (args:=[]) rfl rfl (fun W => zac Tryz.func47 rfl rfl _ W) (fun W hW => pN_is W)) ?_;simp only [aP,lA,lZ,lS]
  refine zat (.int .i64 (cmpN X Pt.nn)) rfl (zai (args:=[nv X,nv Pt.nn]) rfl rfl (fun W => zac Tryz.func46 rfl rfl _ W) (fun W hW => zgj X Pt.nn kX.out zcp W)) ?_
  refine zat (.bool true) rfl (zge rfl rfl (cmpL kl.out)) ?_;simp only [aP,lA,lZ,lS]
  refine zaa (.bool true) rfl (zbd rfl rfl rfl) ?_
  refine zaa (.bool true) rfl (zah (.inr rfl) rfl) ?_;simp only [aP,lA,lZ,lS]
  exact zak
 refine zck rfl (by kernel_rfl) ?_
 intro w2 hE
 refine NoPanic.normal ?_
 replace hx:=hx.trans hE
 clear hE
 go_wp2
 go_ret
 exact ⟨rfl,hx⟩
theorem can_out (X : Nat) (hX : X < top) (h0 : X ≠ 0) (hl : ¬ X < Pt.nn) (w : World) :
  Calls Tryz.prog 56 #[nv X] w fun e w' => e = .returned (.bool false) ∧ Ext w w':=by
 have kX:=veil hX
 have k0:=veil h0
 have kl:=veil hl
 clear hX h0 hl
 unfold nv nc
 go_enter Tryz.func56,Tryz.ntmps56
 go_upto_region 1 with (fail)
 obtain ⟨hx,b0⟩:=blocks1 w (.cells #[vI vU (wd X 0),vI vU (wd X 1),vI vU (wd X 2),vI vU (wd X 3)] 24)
 generalize w.alloc (.cells #[vI vU (wd X 0),vI vU (wd X 1),vI vU (wd X 2),vI vU (wd X 3)] 24) = w1 at *
 have b0 : w1.heap[w.heap.size]? = some (.cells (nc X) 24 (0,0)):=b0
 refine' zdb (m:=10) (A:=_) 10 (by kernel_rfl) (by kernel_rfl) ?h1 ?h2
 case h1 =>
  refine zaa (nv X) rfl (zad rfl rfl b0 rfl uN rfl (iN _)) ?_
  refine zaa (nv 0) rfl (zba rfl rfl (bldN0 ·)) ?_;simp only [aP,lA,lZ,lS]
  refine zaa (.bool true) rfl (zcd rfl rfl rfl (gN _ _ _ _ _) (neN0 kX.out k0.out ·)) ?_
  refine zaa (.bool true) rfl (zah (.inl rfl) rfl) ?_;simp only [aP,lA,lZ,lS]
  refine zat (nv X) rfl (zad rfl rfl b0 rfl uN rfl (iN _)) ?_
  refine zat (nv Pt.nn) rfl (zai (args:=[]) rfl rfl (fun W => zac Tryz.func47 rfl rfl _ W) (fun W hW => pN_is W)) ?_;simp only [aP,lA,lZ,lS]
  refine zat (.int .i64 (cmpN X Pt.nn)) rfl (zai (args:=[nv X,nv Pt.nn]) rfl rfl (fun W => zac Tryz.func46 rfl rfl _ W) (fun W hW => zgj X Pt.nn kX.out zcp W)) ?_
  refine zat (.bool false) rfl (zge rfl rfl (cmpG kl.out)) ?_;simp only [aP,lA,lZ,lS]
  refine zaa (.bool false) rfl (zbd rfl rfl rfl) ?_
  refine zaa (.bool false) rfl (zah (.inr rfl) rfl) ?_;simp only [aP,lA,lZ,lS]
  exact zak
 refine zck rfl (by kernel_rfl) ?_
 intro w2 hE
 refine NoPanic.normal ?_
 replace hx:=hx.trans hE
 clear hE
 go_wp2
 go_ret
 exact ⟨rfl,hx⟩
theorem can_calls (X : Nat) (hX : X < top) (w : World) : Calls Tryz.prog 56 #[nv X] w fun e w' => e = .returned (.bool (mayB X)) ∧ Ext w w':=by
 unfold mayB
 by_cases h0 : X = 0
 ·
  subst h0
  exact can_zero w
 ·
  by_cases hl : X < Pt.nn
  ·
   rw [decide_eq_true h0,decide_eq_true hl]
   exact can_in X hX h0 hl w
  ·
   rw [decide_eq_true h0,decide_eq_false hl]
   exact can_out X hX h0 hl w
theorem nn_odd : Pt.nn % 2 = 1 ∧ 2 < Pt.nn:=by decide +kernel
theorem nc_zero : #[Value.int .u64 0,vI vU 0,vI vU 0,vI vU 0] = nc 0:=by
 unfold nc
 rw [zey,zey,zey,zey]
theorem reduced_calls (y : Nat → Nat) (hy : ∀ j,y j < 256) (w : World) :
  Calls Tryz.prog 101 #[.agg (arrOf 32 fun i => .int .u8 (y i : Nat))] w fun e w' => e = .returned (nv (num32 y % Pt.nn)) ∧ Ext w w':=by
 obtain ⟨F,hF⟩ : ∃ F,F = arrOf 32 fun i => Value.int .u8 (y i : Nat):=⟨_,rfl⟩
 obtain ⟨X,hX⟩ : ∃ X,X = num32 y:=⟨_,rfl⟩
 obtain ⟨Z,hZ⟩ : ∃ Z,Z = X % Pt.nn:=⟨_,rfl⟩
 have hXt : X < top:=by rw [hX]; exact zgx hy
 rw [← hF,← hX,← hZ]
 have HF:=veil (And.intro hF (And.intro hX (And.intro hZ (And.intro hXt hy))))
 clear hF hX hZ hXt hy
 go_enter Tryz.func101,Tryz.ntmps101
 go_upto_region 1 with (fail)
 have hR : (w.alloc (.cells F 26)).rowIs w.heap.size 26 32 (fun i => .int .u8 (y i : Nat)):=by rw [HF.out.1]; exact zbk w 32 26 _ rfl
 have hz1 : (w.alloc (.cells F 26)).heap.size = w.heap.size + 1:=by simp
 have hE1 : Ext w (w.alloc (.cells F 26)):=Ext.alloc _ _
 generalize w.alloc (.cells F 26) = w1 at *
 have hR2:=hR.alloc (.cells #[vI vU 0,vI vU 0,vI vU 0,vI vU 0] 24)
 have hn2 : (w1.alloc (.cells #[vI vU 0,vI vU 0,vI vU 0,vI vU 0] 24)).heap[w.heap.size + 1]? = some (.cells #[vI vU 0,vI vU 0,vI vU 0,vI vU 0] 24 (0,0)):=by rw [← hz1]; exact heap_alloc_last w1 _
 have hE2:=hE1.trans (Ext.alloc w1 (.cells #[vI vU 0,vI vU 0,vI vU 0,vI vU 0] 24))
 generalize w1.alloc (.cells #[vI vU 0,vI vU 0,vI vU 0,vI vU 0] 24) = w2 at *
 have HOf:=veil (show Calls Tryz.prog 82 #[.slice (some ⟨w.heap.size,0,none⟩) 32 32] w2 fun e w' => e = .returned (.tuple #[nv X,.nilIface]) ∧ Ext w2 w' from by
  rw [HF.out.2.1]; exact of_some w.heap.size 0 32 32 y HF.out.2.2.2.2 (by decide) w2 hR2.lt (fun j hj => by rw [Nat.zero_add]; exact hR2.cell hj))
 have H2:=veil (And.intro hn2 hE2)
 clear hR hR2 hn2 hE2 hE1 hz1
 go_upto_region 2 with (first
  | (go_at_call 82; refine HOf.out.mono ?_; rintro e w3 ⟨rfl,hb3⟩)
  | ((with_reducible refine zbh ?_); refine wpList_store_row rfl 24 _ _ rfl w3.heap.size (nc X) rfl rfl 24 _ (heap_alloc_last w3 _) (iN X) (by rfl) (zbe X) ?_; rw [World.setRow_alloc_new]))
 have hx4 : (w3.alloc (.cells (nc X) 24)).heap[w3.heap.size]? = some (.cells (nc X) 24 (0,0)):=heap_alloc_last w3 _
 have hE4:=(hb3.trans (Ext.alloc w3 (.cells (nc X) 24)))
 have H4:=veil (And.intro (hE4.block H2.out.1) (And.intro hx4 (H2.out.2.trans hE4)))
 generalize w3.alloc (.cells (nc X) 24) = w4 at *
 generalize w3.heap.size = gx at *
 clear hx4 hE4 hb3 HOf H2
 have HN:=veil (pN_is w4)
 go_upto_region 3 with (first
  | (go_at_call 47; refine HN.out.mono ?_; rintro e w5 ⟨rfl,hb5⟩)
  | (go_at_call 74; refine (new_good Pt.nn nn_odd.1 nn_odd.2 zcp w5).mono ?_; rintro e w6 ⟨⟨b,N,Q,hok,hfb,hge,rfl⟩,hb6⟩))
 have hb6 : Ext w5 w6:=hb6
 have HA:=veil (show Calls Tryz.prog 83 #[.pointer (some ⟨b,0,none⟩),nv X,.agg #[vI vU 0,vI vU 0,vI vU 0,vI vU 0]] w6 fun e w' => e = .returned (nv Z) ∧ Ext w6 w' from by
  rw [nc_zero]
  exact zhc b X 0 Pt.nn N Q Z HF.out.2.2.2.1 zbu hok (by rw [HF.out.2.2.1,Nat.zero_mod,Nat.add_zero,Nat.mod_mod]) w6 hfb)
 have H6:=veil (And.intro ((hb5.trans hb6).block H4.out.1) (And.intro ((hb5.trans hb6).block H4.out.2.1) (H4.out.2.2.trans (hb5.trans hb6))))
 clear hok hfb hge hb5 hb6 H4 HN
 go_wp2_with (first
  | ((with_reducible refine zax 18 ?_); refine wpList_load_row rfl 24 _ rfl gx rfl 24 (nc X) (0,0) _ H6.out.2.1 Tryz.underlying24 rfl (iN X) ?_)
  | (go_at_call 83; refine HA.out.mono ?_; rintro e w7 ⟨rfl,hb7⟩)
  | ((with_reducible refine zbh ?_); refine wpList_store_row rfl 24 _ _ rfl (w.heap.size + 1) (nc Z) rfl rfl 24 _ (hb7.block H6.out.1) (iN Z) (by rfl) (zbe Z) ?_))
 exact bodyPost_ret (results_cell_row rfl _ _ (w.heap.size + 1) 24 (nc Z) (0,0) _ rfl (setRow_heap w7 (w.heap.size + 1) _ (nc Z) 24 (0,0) (hb7.block H6.out.1)) Tryz.underlying24 rfl (iN Z)) rfl ⟨rfl,zcf (H6.out.2.2.trans hb7) (by omega) _⟩
theorem zeros64N : (#[.int .u8 0,.int .u8 0,.int .u8 0,.int .u8 0,.int .u8 0,.int .u8 0,.int .u8 0,.int .u8 0,.int .u8 0,.int .u8 0,.int .u8 0,.int .u8 0,.int .u8 0,.int .u8 0,.int .u8 0,.int .u8 0,.int .u8 0,.int .u8 0,.int .u8 0,.int .u8 0,.int .u8 0,.int .u8 0,.int .u8 0,.int .u8 0,.int .u8 0,.int .u8 0,.int .u8 0,.int .u8 0,.int .u8 0,.int .u8 0,.int .u8 0,.int .u8 0,.int .u8 0,.int .u8 0,.int .u8 0,.int .u8 0,.int .u8 0,.int .u8 0,.int .u8 0,.int .u8 0,.int .u8 0,.int .u8 0,.int .u8 0,.int .u8 0,.int .u8 0,.int .u8 0,.int .u8 0,.int .u8 0,.int .u8 0,.int .u8 0,.int .u8 0,.int .u8 0,.int .u8 0,.int .u8 0,.int .u8 0,.int .u8 0,.int .u8 0,.int .u8 0,.int .u8 0,.int .u8 0,.int .u8 0,.int .u8 0,.int .u8 0,.int .u8 0] : Array Value) = arrOf 64 (fun _ => .int .u8 0):=rfl
def kvI (i : Nat) : KV:=⟨fun _ => 0,fun j => if j < i then 1 else 0⟩
theorem parts_pair {w : World} {ga gb t D M : Nat} (ha : w.rowIs ga 5 32 (fun j => .int .u8 (be D j : Nat))) (hb : w.rowIs gb 5 32 (fun j => .int .u8 (be M j : Nat))) :
  Parts3 (w.alloc (.cells #[.slice (some ⟨ga,0,none⟩) 32 32,.slice (some ⟨gb,0,none⟩) 32 32] t)) (some ⟨w.heap.size,0,none⟩) 2 (fun r => if r = 0 then some ⟨ga,0,none⟩ else some ⟨gb,0,none⟩) (fun _ => 32) (fun _ => 32) (fun r => if r = 0 then be D else be M) where
 row:=.inr ⟨_,0,rfl,by simp,fun r hr => by
  rw [Nat.zero_add,cell_of_row _ _ r _ t (0,0) (heap_alloc_last w _)]
  obtain rfl | rfl : r = 0 ∨ r = 1:=by omega
  ·
   rfl
  ·
   rfl⟩
 src:=fun r hr => by
  obtain rfl | rfl : r = 0 ∨ r = 1:=by omega
  ·
   exact .inr ⟨ga,0,rfl,by have:=ha.lt; simp; omega,by have:=ha.lt; simp; omega,fun j hj => by rw [Nat.zero_add]; exact (ha.alloc _).cell hj⟩
  ·
   exact .inr ⟨gb,0,rfl,by have:=hb.lt; simp; omega,by have:=hb.lt; simp; omega,fun j hj => by rw [Nat.zero_add]; exact (hb.alloc _).cell hj⟩
 cap:=fun _ _ => Nat.le_refl _
 lt:=fun r j => by
  show (if r = 0 then be D else be M) j < 256
  split
  ·
   exact be_lt D j
  ·
   exact be_lt M j
theorem nmix_two (g : Nat) (hg : g ≠ 0) (s : KV) (hs : s.Ok) (b : Nat) (hb : b < 256) (ga gb t D M : Nat) (w : World) (hK : KT w) (hS : SRow w g s)
  (hra : w.rowIs ga 5 32 (fun j => .int .u8 (be D j : Nat))) (hrb : w.rowIs gb 5 32 (fun j => .int .u8 (be M j : Nat))) :
  Calls Tryz.prog 102 #[.pointer (some ⟨g,0,none⟩),.int .u8 (b : Int),.slice (some ⟨w.heap.size,0,none⟩) 2 2] (w.alloc (.cells #[.slice (some ⟨ga,0,none⟩) 32 32,.slice (some ⟨gb,0,none⟩) 32 32] t)) fun e w' =>
   e = .returned (.tuple #[]) ∧ SRow w' g (s.mix b (two D M) 64) ∧ But g (w.alloc (.cells #[.slice (some ⟨ga,0,none⟩) 32 32,.slice (some ⟨gb,0,none⟩) 32 32] t)) w':=by
 have h:=nmix_calls g hg s hs b hb _ 2 2 _ _ _ _ (by decide) (show lenN (fun _ => 32) 2 ≤ 1000 by decide) _ (hK.alloc _) (hS.alloc _) (parts_pair (t:=t) hra hrb)
 have e : textN (fun _ => 32) (fun r => if r = 0 then be D else be M) 2 = two D M:=by
  show cat (cat (fun _ => 0) 0 (be D)) 32 (be M) = _
  rw [zhe]; rfl
 rw [e] at h
 exact h
theorem be_slice (X : Nat) (w : World) : Calls Tryz.prog 44 #[nv X] w fun e w' => ∃ g,e = .returned (.slice (some ⟨g,0,none⟩) 32 32) ∧ w.heap.size ≤ g ∧ w'.rowIs g 5 32 (fun j => .int .u8 (be X j : Nat)) ∧ Ext w w' :=
 (bytes_calls X w).mono fun _ _ ⟨g,he,hl,hr,hb⟩ => ⟨g,he,hl,hr,hb⟩
theorem newSource_calls (D : Nat) (y : Nat → Nat) (hy : ∀ j,y j < 256) (w : World) (hK : KT w) :
  Calls Tryz.prog 58 #[nv D,.agg (arrOf 32 fun i => .int .u8 (y i : Nat))] w fun e w' => ∃ g,e = .returned (.pointer (some ⟨g,0,none⟩)) ∧ w.heap.size ≤ g ∧ SRow w' g (kvS D (num32 y % Pt.nn)) ∧ Ext w w':=by
 obtain ⟨F,hF⟩ : ∃ F,F = arrOf 32 fun i => Value.int .u8 (y i : Nat):=⟨_,rfl⟩
 obtain ⟨M,hM⟩ : ∃ M,M = num32 y % Pt.nn:=⟨_,rfl⟩
 rw [← hF,← hM]
 have HR:=veil (show ∀ W,Calls Tryz.prog 101 #[.agg F] W fun e w' => e = .returned (nv M) ∧ Ext W w' from fun W => by rw [hF,hM]; exact reduced_calls y hy W)
 have HF:=veil (show F.size = 32 ∧ (Tryz.prog.info? 26).map (·.size) = some F.size from by rw [hF,zaw]; exact ⟨rfl,infoD⟩)
 have HK:=veil hK
 clear hF hM hK hy
 show Calls _ _ #[.agg (nc D),.agg F] w _
 obtain ⟨C,hC⟩ : ∃ C,C = nc D:=⟨_,rfl⟩
 rw [← hC]
 have HC:=veil hC
 clear hC
 go_enter Tryz.func58,Tryz.ntmps58
 go_upto_region 2 with (fail)
 rw [zeros64N]
 have hc1 : (w.alloc (.cells C 24)).heap[w.heap.size]? = some (.cells C 24 (0,0)):=heap_alloc_last w _
 have hz1 : (w.alloc (.cells C 24)).heap.size = w.heap.size + 1:=by simp
 have hE1 : Ext w (w.alloc (.cells C 24)):=Ext.alloc _ _
 generalize w.alloc (.cells C 24) = w1 at *
 have hf2 : (w1.alloc (.cells F 26)).heap[w.heap.size + 1]? = some (.cells F 26 (0,0)):=by rw [← hz1]; exact heap_alloc_last w1 _
 have hz2 : (w1.alloc (.cells F 26)).heap.size = w.heap.size + 1 + 1:=by simp [hz1]
 have hE2:=Ext.alloc w1 (.cells F 26)
 have hc2:=hE2.block hc1
 replace hE2:=hE1.trans hE2
 clear hc1 hE1 hz1
 generalize w1.alloc (.cells F 26) = w2 at *
 have hS3 : SRow (w2.alloc (.cells (arrOf 64 (fun _ => .int .u8 0)) 125)) (w.heap.size + 1 + 1) (kvI 0):=(zbk w2 64 125 (fun _ => Value.int .u8 0) hz2.symm).congr fun j hj => by
  unfold sb kvI
  split <;> simp
 have hE3:=Ext.alloc w2 (.cells (arrOf 64 (fun _ => .int .u8 0)) 125)
 have hc3:=hE3.block hc2
 have hf3:=hE3.block hf2
 replace hE3:=hE2.trans hE3
 clear hc2 hf2 hE2 hz2
 generalize w2.alloc (.cells (arrOf 64 (fun _ => .int .u8 0)) 125) = w3 at *
 generalize hg : w.heap.size + 1 + 1 = g at *
 have H3:=veil (And.intro hE3 (And.intro hc3 (And.intro hf3 (show w.heap.size + 1 < g by omega))))
 clear hE3 hc3 hf3 hg
 go_upto_region 3 with (fail)
 go_loopw [11] (fun v wr => ∃ i : Nat,i ≤ 32 ∧ v = .int .i64 (i : Int) ∧ SRow wr g (kvI i) ∧ But g w3 wr)
  (fun v _ => 32 - (intOf v).toNat)
 case atStart => exact ⟨0,by omega,rfl,hS3,But.refl _ _⟩
 case round =>
  clear hS3
  obtain ⟨i,hi,rfl,hS,hB⟩:=hrel
  by_cases hlt : i < 32
  ·
   have c0:=hS.cellV i hlt
   have f0:=World.rowIs.frozen hS (32 + i)
   go_wp2
   go_roundw
   case rel =>
    refine ⟨i + 1,by omega,by go_num,(World.rowIs.set hS (32 + i) _).congr fun j hj => ?_,hB.set _ _⟩
    unfold sb kvI
    by_cases h : j = 32 + i
    ·
     rw [if_pos h,if_neg (by omega)]
     show Value.int .u8 1 = .int .u8 (((if j - 32 < i + 1 then 1 else 0 : Nat)) : Int)
     rw [if_pos (by omega)]; rfl
    ·
     rw [if_neg h]
     by_cases h2 : j < 32
     ·
      rw [if_pos h2,if_pos h2]
     ·
      rw [if_neg h2,if_neg h2]
      by_cases h3 : j - 32 < i
      ·
       simp [h3,show j - 32 < i + 1 by omega]
      ·
       simp [h3,show ¬ j - 32 < i + 1 by omega]
   case measure => simp [intOf]; omega
  ·
   obtain rfl : i = 32:=by omega
   have hS0 : SRow wr g kv0:=World.rowIs.congr hS fun j hj => by
    unfold sb kvI kv0
    by_cases h2 : j < 32
    ·
     rw [if_pos h2,if_pos h2]
    ·
     rw [if_neg h2,if_neg h2]
     simp [show j - 32 < 32 by omega]
   have hc:=(hB.block _ (Array.getElem?_eq_some_iff.1 H3.out.2.1).1 (by have:=H3.out.2.2.2; intro e; injection e; omega)).trans H3.out.2.1
   have hf:=(hB.block _ (Array.getElem?_eq_some_iff.1 H3.out.2.2.1).1 (by have:=H3.out.2.2.2; intro e; injection e; omega)).trans H3.out.2.2.1
   have hE : Ext w wr:=Below.trans H3.out.1 (But.new hB (by have:=H3.out.2.2.2; omega) H3.out.1.size)
   have HI:=veil (show (Tryz.prog.info? 24).map (·.size) = some C.size from by rw [HC.out]; exact iN D)
   have KB1:=veil (fun W => be_slice D W)
   rw [show nv D = .agg C from by rw [HC.out]; rfl] at KB1
   have KB2:=veil (fun W => be_slice M W)
   go_upto_region 7 with (fail)
   go_cut [7,8] from 20 to 24 (fun v7 v8 wx => ∃ ga gb,wr.heap.size ≤ ga ∧ wr.heap.size ≤ gb ∧ v7 = .slice (some ⟨ga,0,none⟩) 32 32 ∧ v8 = .slice (some ⟨gb,0,none⟩) 32 32 ∧ wx.rowIs ga 5 32 (fun j => .int .u8 (be D j : Nat)) ∧ wx.rowIs gb 5 32 (fun j => .int .u8 (be M j : Nat)) ∧ Ext wr wx)
   case first =>
    refine wp_region_noPanic ?_
    refine wp_region_held_drew (S:=fun W => Ext wr W) (by kernel_rfl) (Ext.drew _) (fun hH => ?_)
    refine wpAnyH_take (i:=0) (v:=.agg C) rfl (by kernel_rfl) (by kernel_rfl) (by decide +kernel) (fun _ _ _ h => h) (yif_load (by rfl) rfl rfl hc Tryz.underlying24 rfl HI.out) hH ?_
    refine wpAnyH_take (i:=2) (v:=.agg F) rfl (by kernel_rfl) (by kernel_rfl) (by decide +kernel) (fun _ _ _ h => h) (yif_load (by rfl) rfl rfl hf Tryz.underlying26 rfl HF.out.2) hH ?_
    refine wpAnyH_ready (rs:=[1]) (by decide +kernel) (by simp) ?_
    refine AllReadyH.cons rfl (fun K hK => ?_) AllReadyH.nil
    go_simp
    refine (KB1.out _).mono ?_
    rintro e w4 ⟨ga,rfl,hla,hra,hE4⟩
    replace hla:=Nat.le_trans (Below.size hH) hla
    refine hK.out _ _ (hH.trans hE4) (fun hH => ?_)
    clear hK K hE4
    refine wpAnyH_ready (rs:=[3]) (by decide +kernel) (by simp) ?_
    refine AllReadyH.cons rfl (fun K hK => ?_) AllReadyH.nil
    go_simp
    refine (HR.out _).mono ?_
    rintro e w5 ⟨rfl,hE5⟩
    refine hK.out _ _ (hH.trans hE5) (fun hH => ?_)
    replace hra:=Ext.row hra hE5
    clear hK K hE5
    refine wpAnyH_ready (rs:=[4]) (by decide +kernel) (by simp) ?_
    refine AllReadyH.cons rfl (fun K hK => ?_) AllReadyH.nil
    go_simp
    refine (KB2.out _).mono ?_
    rintro e w6 ⟨gb,rfl,hlb,hrb,hE6⟩
    replace hlb:=Nat.le_trans (Below.size hH) hlb
    refine hK.out _ _ (hH.trans hE6) (fun hH => ?_)
    replace hra:=Ext.row hra hE6
    clear hK K hE6
    refine wpAnyH_take (i:=5) (v:=.slice (some ⟨ga,0,none⟩) 32 32) rfl (by kernel_rfl) (by kernel_rfl) (by decide +kernel) (fun _ _ _ h => h) (Or.inl ⟨by rfl,fun W hSw => (by dsimp only at hSw; go_simp)⟩) hH ?_
    refine wpAnyH_take (i:=6) (v:=.slice (some ⟨gb,0,none⟩) 32 32) rfl (by kernel_rfl) (by kernel_rfl) (by decide +kernel) (fun _ _ _ h => h) (Or.inl ⟨by rfl,fun W hSw => (by dsimp only at hSw; go_simp)⟩) hH ?_
    refine wpAnyH_done (by decide +kernel) ?_ _
    refine NoPanic.normal ?_
    simp only [Act.put,List.setIfInBounds_toArray,List.set_cons_zero,List.set_cons_succ,List.getElem_toArray,List.getElem_cons_zero,List.getElem_cons_succ]
    go_wp2_with fail
    go_meet
    case rel => exact ⟨ga,gb,hla,hlb,rfl,rfl,hra,hrb,hH⟩
   case rest =>
    obtain ⟨ga,gb,hla,hlb,rfl,rfl,hra,hrb,hEx⟩:=hcut
    have hlg:=hS0.lt
    have hgw : w.heap.size < g:=by have:=H3.out.2.2.2; omega
    have H:=veil (And.intro (HK.out.call (hE.trans hEx)) (And.intro (hS0.call hEx) (And.intro hra (And.intro hrb (hE.trans hEx)))))
    have HN:=veil (show g ≠ 0 ∧ ga ≠ g ∧ gb ≠ g ∧ w.heap.size ≤ g from ⟨by omega,by omega,by omega,by omega⟩)
    clear hE hEx hS0 hc hf HI KB1 KB2 hS hB hi hlt H3 HR HF HK hra hrb hla hlb hlg hgw
    have HQ:=veil (show Calls Tryz.prog 102 #[.pointer (some ⟨g,0,none⟩),.int .u8 0,.slice (some ⟨wc.heap.size,0,none⟩) 2 2] (wc.alloc (.cells #[.slice (some ⟨ga,0,none⟩) 32 32,.slice (some ⟨gb,0,none⟩) 32 32] 46)) _ from
     nmix_two g HN.out.1 kv0 kv0_ok 0 (by decide) ga gb 46 D M wc H.out.1 H.out.2.1 H.out.2.2.1 H.out.2.2.2.1)
    go_upto_region 9 with (go_at_call 102; refine HQ.out.mono ?_; rintro e w4 ⟨rfl,hS4,hB4⟩)
    have hB4:=(But.alloc (But.refl g wc) (.cells #[.slice (some ⟨ga,0,none⟩) 32 32,.slice (some ⟨gb,0,none⟩) 32 32] 46)).trans hB4
    have H4:=veil (And.intro (H.out.1.grown hB4 (Ne.symm HN.out.1)) (And.intro hS4 (And.intro (zez H.out.2.2.1 hB4 HN.out.2.1) (And.intro (zez H.out.2.2.2.1 hB4 HN.out.2.2.1) (Below.trans H.out.2.2.2.2 (But.new hB4 HN.out.2.2.2 H.out.2.2.2.2.size))))))
    clear H HQ hS4 hB4
    have HQ:=veil (show Calls Tryz.prog 102 #[.pointer (some ⟨g,0,none⟩),.int .u8 1,.slice (some ⟨w4.heap.size,0,none⟩) 2 2] (w4.alloc (.cells #[.slice (some ⟨ga,0,none⟩) 32 32,.slice (some ⟨gb,0,none⟩) 32 32] 46)) _ from
     nmix_two g HN.out.1 _ (kv0_ok.mix _ _ _) 1 (by decide) ga gb 46 D M w4 H4.out.1 H4.out.2.1 H4.out.2.2.1 H4.out.2.2.2.1)
    go_upto_region 10 with (go_at_call 102; refine HQ.out.mono ?_; rintro e w5 ⟨rfl,hS5,hB5⟩)
    have hB5:=(But.alloc (But.refl g w4) (.cells #[.slice (some ⟨ga,0,none⟩) 32 32,.slice (some ⟨gb,0,none⟩) 32 32] 46)).trans hB5
    have H5:=veil (And.intro hS5 (Below.trans H4.out.2.2.2.2 (But.new hB5 HN.out.2.2.2 H4.out.2.2.2.2.size)))
    clear H4 HQ hS5 hB5
    go_wp2
    go_ret
    exact ⟨g,rfl,HN.out.2.2.2,H5.out.1,H5.out.2⟩
theorem pre_step {D M many i : Nat} (h : ∀ j,j < i → (outN D M j).length < many) (hi : (outN D M i).length < many) : ∀ j,j < i + 1 → (outN D M j).length < many:=fun j hj => by
 rcases Nat.lt_or_ge j i with e | e
 ·
  exact h j e
 ·
  have : j = i:=by omega
  subst this
  exact hi
theorem But.belowAt {w w' w'' : World} {g B : Nat} (h : But g w w') (hb : Below B w' w'') (hB : w.heap.size ≤ B) : But g w w'' :=
 ⟨hb.os.trans h.os,hb.tape.trans h.tape,hb.output.trans h.output,Nat.le_trans h.size hb.size,fun k hk hne => (hb.block k (by omega)).trans (h.block k hk hne)⟩
theorem firstOf_calls (D M many g : Nat) (hm : many ≤ 16) (hg : g ≠ 0) (w : World) (hK : KT w) (hS : SRow w g (kvS D M)) :
  Calls Tryz.prog 57 #[.func (.func 59) #[.pointer (some ⟨g,0,none⟩)] #[],.int .i64 (many : Int)] w fun e w' => (∃ s,Ends D M many s ∧
   ((¬ (outN D M s).length < many ∧ ∃ v,e = .returned (.tuple #[v,.nilIface]) ∧ OwnN w' w.heap.size v (outN D M s)) ∨
    ((outN D M s).length < many ∧ e = .returned (.tuple #[.slice none 0 0,.iface 39 (.int .i64 4)])))) ∧ But g w w':=by
 have HK:=veil hK
 have HG:=veil (And.intro hg hm)
 have hlt:=hS.lt
 have h0 : (0 : Int) ≤ (many : Int):=by omega
 have h16 : (many : Int) ≤ 16:=by omega
 obtain ⟨i4,hi4,hz4,hsz4,hby4⟩:=zhb infoN32
 obtain ⟨w1,hr,hO1,hgr⟩:=run_make_own (P:=Tryz.prog) w w.heap.size 50 24 i4 _ 4 Tryz.underlying50 hi4 hz4 hsz4 .i64 .i64 many (by rw [hby4]; omega) (by unfold maxLen; omega) (Nat.le_refl _)
 have hE1 : Ext w w1:=zct (Below.refl _ _) hgr (Nat.le_refl _) (fun k e => by cases e)
 have hS1:=hS.call hE1
 have hB1 : But g w w1:=But.of_below hE1
 have hO1 : OwnN w1 w.heap.size (.slice (some ⟨w.heap.size,0,none⟩) 0 many) []:=hO1
 clear hi4 hz4 hsz4 hby4 hgr hE1 hS hK hg
 go_enter Tryz.func57,Tryz.ntmps57
 go_upto_region 3 with (fail)
 clear hr
 go_loopw [6,7] (fun v6 v7 wr => ∃ i : Nat,i ≤ 100 ∧ v7 = .int .i64 (i : Int) ∧ (∀ j,j < i → (outN D M j).length < many) ∧ OwnN wr w.heap.size v6 (outN D M i) ∧ SRow wr g (kvN D M i) ∧ But g w wr)
  (fun _ v7 _ => 100 - (intOf v7).toNat)
 case atStart => exact ⟨0,by omega,rfl,fun j hj => by omega,hO1,hS1,hB1⟩
 case round =>
  clear hO1 hS1 hB1
  obtain ⟨i,hi,rfl,hpre,hO,hS,hB⟩:=hrel
  have hlw:=(show g < w.heap.size by assumption)
  obtain ⟨A,c,rfl,hnc⟩:=hO.form
  obtain ⟨n,hn⟩ : ∃ n,n = (outN D M i).length:=⟨_,rfl⟩
  rw [← hn] at hO hnc
  have HN:=veil hn
  have HP:=veil hpre
  clear hpre
  by_cases hlt : n < many
  ·
   have hd : decide ((n : Int) < (many : Int)) = true:=by simp; omega
   by_cases h100 : i = 100
   ·
    subst h100
    rw [← hn]
    have hEnd:=veil (show Ends D M many 100 ∧ (outN D M 100).length < many from ⟨⟨by omega,HP.out,.inl rfl⟩,by rw [← hn]; exact hlt⟩)
    clear hn hO hS
    go_wp2
    go_ret2
    exact ⟨⟨100,hEnd.out.1,.inr ⟨hEnd.out.2,rfl⟩⟩,hB⟩
   ·
    rw [← hn]
    have hx : ((i : Int) == 100) = false:=by simp; omega
    obtain ⟨X,hX⟩ : ∃ X,X = numN D M i:=⟨_,rfl⟩
    obtain ⟨m,hmX⟩ : ∃ m,m = mayB X:=⟨_,rfl⟩
    have HX:=veil (And.intro hX (And.intro hmX (show X < top from by rw [hX]; exact numN_lt D M i)))
    have hlg:=hS.lt
    have KN:=veil (show Calls Tryz.prog 59 #[.pointer (some ⟨g,0,none⟩)] wr fun e w' => e = .returned (nv X) ∧ SRow w' g (kvN D M (i + 1)) ∧ But g wr w' from by
     rw [hX]; exact next_calls g HG.out.1 (kvN D M i) (kvN_ok D M i) wr (HK.out.grown hB (Ne.symm HG.out.1)) hS)
    have HO:=veil hO
    have HB:=veil hB
    have HL:=veil (show (outN D M i).length < many from by rw [← hn]; exact hlt)
    have hi99 : i < 100:=by omega
    clear hn hO hX hmX hB hS hnc hO1 h100 hi
    go_upto_region 8 with (first
     | (go_at_call 59; refine KN.out.mono ?_; rintro e w2 ⟨rfl,hS2,hB2⟩)
     | ((with_reducible refine zbh ?_); refine wpList_store_row rfl 24 _ _ rfl w2.heap.size (nc X) rfl rfl 24 _ (heap_alloc_last w2 _) (iN X) (by rfl) (zbe X) ?_; rw [World.setRow_alloc_new]))
    have hE3 : Ext w2 (w2.alloc (.cells (nc X) 24)):=Ext.alloc _ _
    have hx3 : (w2.alloc (.cells (nc X) 24)).heap[w2.heap.size]? = some (.cells (nc X) 24 (0,0)):=heap_alloc_last w2 _
    generalize w2.alloc (.cells (nc X) 24) = w3 at *
    generalize w2.heap.size = gx at *
    have KC:=veil (can_calls X HX.out.2.2 w3)
    rw [← HX.out.2.1] at KC
    have HO3:=veil ((HO.out.but hB2 hlw).ext hE3)
    have H3:=veil (And.intro (hS2.call hE3) (And.intro ((HB.out.trans hB2).below hE3) hx3))
    clear hS2 hB2 hE3 hx3 HO HB KN hlg hx hd
    have hl1000 : (outN D M i).length ≤ 1000:=by have:=HL.out; omega
    cases m with
    | false =>
     go_wp2_with (first
      | ((with_reducible refine zax 22 ?_); refine wpList_load_row rfl 24 _ rfl gx rfl 24 (nc X) (0,0) _ H3.out.2.2 Tryz.underlying24 rfl (iN X) ?_)
      | (go_at_call 56; refine KC.out.mono ?_; rintro e w4 ⟨rfl,hE4⟩))
     have hout : outN D M (i + 1) = outN D M i:=by
      show (if mayB (numN D M i) = true then _ else _) = _
      rw [← HX.out.1,← HX.out.2.1]; rfl
     go_roundw
     case rel => exact ⟨i + 1,by omega,by go_num,pre_step HP.out HL.out,by rw [hout]; exact HO3.out.ext hE4,H3.out.1.call hE4,H3.out.2.1.below hE4⟩
     case measure => simp [intOf]; omega
    | true =>
     have hnc4 : (nc X).size = 4:=rfl
     go_wp2_with (first
      | ((with_reducible refine zax 22 ?_); refine wpList_load_row rfl 24 _ rfl gx rfl 24 (nc X) (0,0) _ H3.out.2.2 Tryz.underlying24 rfl (iN X) ?_)
      | (go_at_call 56; refine KC.out.mono ?_; rintro e w4 ⟨rfl,hE4⟩)
      | ((with_reducible refine zax 25 ?_); refine wpList_load_row rfl 24 _ rfl gx rfl 24 (nc X) (0,0) _ (hE4.block H3.out.2.2) Tryz.underlying24 rfl (iN X) ?_)
      | (at_builtin; refine wpl_append_num rfl _ _ rfl w.heap.size (.slice A n c) (outN D M i) rfl ((HO3.out.ext hE4).ext (Ext.alloc _ (.cells (nc X) 24))) w4.heap.size X rfl (heap_alloc_last w4 _) hl1000 (Nat.le_trans H3.out.2.1.size (Nat.le_trans hE4.size (by simp))) ?_; intro v6 w6 hO6 hg6))
     have hout : outN D M (i + 1) = outN D M i ++ [X]:=by
      show (if mayB (numN D M i) = true then _ else _) = _
      rw [← HX.out.1,← HX.out.2.1]; rfl
     have hb6 : Below w.heap.size (w4.alloc (.cells (nc X) 24)) w6:=zct (Below.refl _ _) hg6 (Nat.le_trans H3.out.2.1.size (Nat.le_trans hE4.size (by simp))) (fun k e => (HO3.out.lt e).1)
     have hS6 : SRow w6 g (kvN D M (i + 1)):=World.rowIs.of_block ((H3.out.1.call hE4).alloc (.cells (nc X) 24)) (hb6.block g hlw)
     have hB6 : But g w w6:=((H3.out.2.1.below hE4).alloc (.cells (nc X) 24)).belowAt hb6 (Nat.le_refl _)
     clear hb6 hg6 H3
     go_roundw
     case rel => exact ⟨i + 1,by omega,by go_num,pre_step HP.out HL.out,by rw [hout]; exact hO6,hS6,hB6⟩
     case measure => simp [intOf]; omega
  ·
   have hd : decide ((n : Int) < (many : Int)) = false:=by simp; omega
   have hEnd:=veil (show Ends D M many i ∧ ¬ (outN D M i).length < many from ⟨⟨hi,HP.out,.inr (by rw [← hn]; exact hlt)⟩,by rw [← hn]; exact hlt⟩)
   rw [← hn]
   have HO:=veil hO
   clear hn hS hO
   go_wp2
   go_ret2
   exact ⟨⟨i,hEnd.out.1,.inl ⟨hEnd.out.2,_,rfl,HO.out⟩⟩,hB⟩
def Res (D M many : Nat) (W : World) (base : Nat) (v ev : Value) : Prop :=
 ∃ s,Ends D M many s ∧ ((¬ (outN D M s).length < many ∧ ev = .nilIface ∧ OwnN W base v (outN D M s)) ∨ ((outN D M s).length < many ∧ v = .slice none 0 0 ∧ ev = .iface 39 (.int .i64 4)))
theorem Res.ext {D M many base : Nat} {W W' : World} {v ev : Value} (h : Res D M many W base v ev) (k : Ext W W') : Res D M many W' base v ev:=by
 obtain ⟨s,hE,h⟩:=h
 exact ⟨s,hE,h.imp (fun ⟨a,b,c⟩ => ⟨a,b,c.ext k⟩) id⟩
theorem Res.base_le {D M many base base' : Nat} {W : World} {v ev : Value} (h : Res D M many W base v ev) (k : base' ≤ base) : Res D M many W base' v ev:=by
 obtain ⟨s,hE,h⟩:=h
 exact ⟨s,hE,h.imp (fun ⟨a,b,c⟩ => ⟨a,b,c.base_le k⟩) id⟩
theorem firstOf_res (D M many g : Nat) (hm : many ≤ 16) (hg : g ≠ 0) (w : World) (hK : KT w) (hS : SRow w g (kvS D M)) :
  Calls Tryz.prog 57 #[.func (.func 59) #[.pointer (some ⟨g,0,none⟩)] #[],.int .i64 (many : Int)] w fun e w' => ∃ v ev,e = .returned (.tuple #[v,ev]) ∧ Res D M many w' w.heap.size v ev ∧ But g w w' :=
 (firstOf_calls D M many g hm hg w hK hS).mono fun e w' ⟨⟨s,hE,h⟩,hB⟩ => by
  rcases h with ⟨hn,v,rfl,hO⟩ | ⟨hn,rfl⟩
  ·
   exact ⟨v,_,rfl,⟨s,hE,.inl ⟨hn,rfl,hO⟩⟩,hB⟩
  ·
   exact ⟨_,_,rfl,⟨s,hE,.inr ⟨hn,rfl,rfl⟩⟩,hB⟩
theorem list_good (D : Nat) (hD : D < top) (y : Nat → Nat) (hy : ∀ j,y j < 256) (many : Nat) (hm : many ≤ 16) (hb : mayB D = true) (w : World) (hK : KT w) :
  Calls Tryz.prog 18 #[nv D,.agg (arrOf 32 fun i => .int .u8 (y i : Nat)),.int .i64 (many : Int)] w fun e w' => ∃ v ev,e = .returned (.tuple #[v,ev]) ∧ Res D (num32 y % Pt.nn) many w' w.heap.size v ev ∧ Ext w w':=by
 obtain ⟨M,hM⟩ : ∃ M,M = num32 y % Pt.nn:=⟨_,rfl⟩
 have KN:=veil (fun W hK => newSource_calls D y hy W hK)
 rw [← hM] at KN ⊢
 obtain ⟨F,hF⟩ : ∃ F,F = arrOf 32 fun i => Value.int .u8 (y i : Nat):=⟨_,rfl⟩
 rw [← hF] at KN ⊢
 have HF:=veil (show F.size = 32 ∧ (Tryz.prog.info? 26).map (·.size) = some F.size from by rw [hF,zaw]; exact ⟨rfl,infoD⟩)
 have KC:=veil (fun W => can_calls D hD W)
 rw [hb] at KC
 have HK:=veil hK
 have HM:=veil hm
 have h0 : decide ((many : Int) < 0) = false:=decide_eq_false (by omega)
 have h16 : decide (16 < (many : Int)) = false:=decide_eq_false (by omega)
 clear hF hM hD hb hK hy hm
 obtain ⟨C,hC⟩ : ∃ C,C = nc D:=⟨_,rfl⟩
 rw [show nv D = .agg C from by rw [hC]; rfl] at KC KN ⊢
 have HC:=veil (show (Tryz.prog.info? 24).map (·.size) = some C.size from by rw [hC]; exact iN D)
 clear hC
 go_enter Tryz.func18,Tryz.ntmps18
 go_upto_region 1 with (fail)
 have hc1 : (w.alloc (.cells C 24)).heap[w.heap.size]? = some (.cells C 24 (0,0)):=heap_alloc_last w _
 have hz1 : (w.alloc (.cells C 24)).heap.size = w.heap.size + 1:=by simp
 have hE1:=Ext.alloc w (.cells C 24)
 generalize w.alloc (.cells C 24) = w1 at *
 have hf2 : (w1.alloc (.cells F 26)).heap[w.heap.size + 1]? = some (.cells F 26 (0,0)):=by rw [← hz1]; exact heap_alloc_last w1 _
 have hc2:=(Ext.alloc w1 (.cells F 26)).block hc1
 have hE2:=hE1.trans (Ext.alloc w1 (.cells F 26))
 generalize w1.alloc (.cells F 26) = w2 at *
 have H2:=veil (And.intro hc2 (And.intro hf2 (And.intro hE2 (HK.out.call hE2))))
 clear hc1 hz1 hE1 hf2 hc2 hE2 HK
 go_upto_region 3 with (first
  | ((with_reducible refine zax 8 ?_); refine wpList_load_row rfl 24 _ rfl w.heap.size rfl 24 C (0,0) _ H2.out.1 Tryz.underlying24 rfl HC.out ?_)
  | (go_at_call 56; refine (KC.out _).mono ?_; rintro e w4 ⟨rfl,hE4⟩))
 have H4:=veil (And.intro (hE4.block H2.out.1) (And.intro (hE4.block H2.out.2.1) (And.intro (H2.out.2.2.1.trans hE4) (H2.out.2.2.2.call hE4))))
 clear H2 hE4 h0 h16
 go_wp2_with (first
  | ((with_reducible refine zax 20 ?_); refine wpList_load_row rfl 24 _ rfl w.heap.size rfl 24 C (0,0) _ H4.out.1 Tryz.underlying24 rfl HC.out ?_)
  | ((with_reducible refine zax 21 ?_); refine wpList_load_row rfl 26 _ rfl (w.heap.size + 1) rfl 26 F (0,0) _ H4.out.2.1 Tryz.underlying26 rfl HF.out.2 ?_)
  | (go_at_call 58; refine (KN.out _ H4.out.2.2.2).mono ?_; rintro e w5 ⟨g,rfl,hgw,hS5,hE5⟩)
  | (go_at_call 57; refine (firstOf_res D M many g HM.out (by have:=H4.out.2.2.2.lt; omega) w5 (H4.out.2.2.2.call hE5) hS5).mono ?_; rintro e w6 ⟨v,ev,rfl,hR,hB⟩))
 go_ret2
 have hE : Ext w w6:=Below.trans (H4.out.2.2.1.trans hE5) (But.new hB (Nat.le_trans H4.out.2.2.1.size hgw) (H4.out.2.2.1.trans hE5).size)
 exact ⟨v,ev,rfl,hR.base_le (H4.out.2.2.1.trans hE5).size,hE⟩
end Go.Proofs.YtmfjigcdhijkjaaGreatDoor
