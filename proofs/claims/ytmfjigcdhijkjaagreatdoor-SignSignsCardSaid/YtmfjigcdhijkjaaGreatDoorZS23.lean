/-
  Of U7.
-/
import Derived.Lib.SmallJoins
import Derived.Test.YtmfjigcdhijkjaaGreatDoorZS11
import Derived.Test.YtmfjigcdhijkjaaGreatDoorZS4
import Derived.Test.YtmfjigcdhijkjaaGreatDoorZS22
import Derived.Test.YtmfjigcdhijkjaaGreatDoorZS10
set_option maxRecDepth 1000000
set_option maxHeartbeats 20000000
namespace Go.Proofs.YtmfjigcdhijkjaaGreatDoor
open Go.RowKit
open Go.Value renaming int → vI
open Go.IntKind renaming u64 → vU
open Go.Act renaming put → aP
open List renaming setIfInBounds_toArray → lA, set_cons_zero → lZ, set_cons_succ → lS
theorem bldEx (W : World) : (Instr.build 24 [(0,.int .u64 8902035550577321761),(1,.int .u64 5643225679381699346),(2,.int .u64 7736094919201248915),(3,.int .u64 14533021268895757590)].toArray).run Tryz.prog W = .ok (nv exD) W:=by
 obtain ⟨h0,h1,h2,h3⟩:=ex_words
 unfold nv nc
 rw [h0,h1,h2,h3]
 simp [Instr.build,go_sem]
def smpC : Array Value:=#[.int .u8 115,.int .u8 97,.int .u8 109,.int .u8 112,.int .u8 108,.int .u8 101]
theorem smp_lt (j : Nat) : smp j < 256:=by
 unfold smp
 rw [List.getD_eq_getElem?_getD]
 cases e : smpL[j]? with
 | none => simp
 | some v =>
  have h : smpL.all (· < 256) = true:=by decide
  have:=List.all_eq_true.1 h v (List.mem_of_getElem? e)
  simpa using this
theorem zfx (W : World) : (Instr.buildSlice 46 6 [(0,.int .u8 115),(1,.int .u8 97),(2,.int .u8 109),(3,.int .u8 112),(4,.int .u8 108),(5,.int .u8 101)].toArray).run Tryz.prog W = .ok (.slice (some ⟨W.heap.size,0,none⟩) 6 6) (W.alloc (.cells smpC 5)):=by
 simp [Instr.buildSlice,go_sem,smpC]
theorem zdy {W W' : World} {g : Nat} {t : Nat} {k : Nat × Nat} (hb : W.heap[g]? = some (.cells smpC t k)) (hE : Ext W W') (hK : KT W') :
  Calls Tryz.prog 13 #[.slice (some ⟨g,0,none⟩) 6 6] W' fun e w' => e = .returned (dgv exH) ∧ Ext W' w':=by
 have hb':=hE.block hb
 have hlt:=(Array.getElem?_eq_some_iff.1 hb').1
 have hS : Src W' (some ⟨g,0,none⟩) 6 smp W'.heap.size:=.inr ⟨_,0,rfl,hlt,Nat.ne_of_lt hlt,fun j hj => by
  rw [Nat.zero_add,cell_of_row W' g j _ _ _ hb',show smpC = arrOf 6 (fun j => .int .u8 (smp j : Nat)) from rfl]
  exact zcy _ hj⟩
 exact sum_calls (some ⟨g,0,none⟩) 6 6 smp smp_lt (by decide) (by decide) W' hK hS
theorem sOf_mod (d e k : Nat) : Pt.sOf d (e % Pt.nn) k = Pt.sOf d e k:=by
 unfold Pt.sOf
 rw [Nat.mod_mod]
theorem ex_sig : sigOf exD (num32 exH) (outN exD (num32 exH % Pt.nn) 16) = some (Pt.exR,Pt.exS):=by
 obtain ⟨r,hr⟩:=ex_first
 have hl : ¬ (outN exD exM 16).length < 16:=by
  rcases ex_16.fin with h | h
  ·
   exact absurd h (by decide)
  ·
   exact h
 have e1 : Pt.rOf exX = Pt.exR:=Pt.ex_rOf
 have e2 : Pt.sOf exD (num32 exH) exX = Pt.exS:=by
  rw [← sOf_mod,ex_mod]
  exact Pt.ex_sOf
 have m1 : mayB Pt.exR = true:=by decide +kernel
 have m2 : mayB Pt.exS = true:=by decide +kernel
 rw [ex_mod]
 unfold sigOf
 rw [if_neg hl,hr,pick_yes (by rw [e1]; exact m1) (by rw [e2]; exact m2),e1,e2]
theorem ex_b0 : ptB Pt.exR Pt.exS 0 = .int .u8 239:=by kernel_rfl
theorem ex_b1 : ptB Pt.exR Pt.exS 1 = .int .u8 212:=by kernel_rfl
theorem ex_b32 : ptB Pt.exR Pt.exS 32 = .int .u8 247:=by kernel_rfl
theorem ex_b63 : ptB Pt.exR Pt.exS 63 = .int .u8 168:=by kernel_rfl
theorem ex_sign (h : ∀ D y w,KT w → mayB D = true → (∀ j,y j < 256) → Calls Tryz.prog 7 #[nv D,dgv y] w fun e w' => ∃ s o,Ends D (num32 y % Pt.nn) 16 s ∧ sigOf D (num32 y) (outN D (num32 y % Pt.nn) s) = o ∧ e = .returned (.tuple #[sgv o,if o.isSome then .nilIface else .iface 39 (.int .i64 4)]) ∧ Ext w w') (W : World) (hK : KT W) :
  Calls Tryz.prog 7 #[nv exD,dgv exH] W fun e w' => e = .returned (.tuple #[gv Pt.exR Pt.exS,.nilIface]) ∧ Ext W w' :=
 (h exD exH W hK ex_mayD exH_lt).mono fun e w' ⟨s,o,hE,ho,he,hx⟩ => by
  have hE2 : Ends exD (num32 exH % Pt.nn) 16 16:=by rw [ex_mod]; exact ex_16
  obtain rfl:=hE.same hE2
  rw [ex_sig] at ho
  subst ho
  exact ⟨he,hx⟩
theorem up7_calls (hS : ∀ W,KT W → Calls Tryz.prog 7 #[nv exD,dgv exH] W fun e w' => e = .returned (.tuple #[gv Pt.exR Pt.exS,.nilIface]) ∧ Ext W w')
  (hB : ∀ W,Calls Tryz.prog 14 #[gv Pt.exR Pt.exS] W fun e w' => (∃ v,e = .returned v ∧ Own w' W.heap.size 5 v 64 (ptB Pt.exR Pt.exS)) ∧ Ext W w') (w : World) (hK : KT w) :
  Calls Tryz.prog 5 #[] w fun e w' => e = .returned (.bool true) ∧ Ext w w':=by
 have kS:=veil hS
 have kB:=veil hB
 have kK:=veil hK
 clear hK hB hS
 go_enter Tryz.func5,Tryz.ntmps5
 go_upto_region 1 with (fail)
 have hx:=Ext.refl w
 refine' zan (m:=1) (A:=_) (by kernel_rfl) ?h1 ?h2
 case h1 =>
  refine zaa (nv exD) rfl (zba (vs:=[(0,.int .u64 8902035550577321761),(1,.int .u64 5643225679381699346),(2,.int .u64 7736094919201248915),(3,.int .u64 14533021268895757590)]) rfl rfl (bldEx ·)) ?_;simp only [aP,lA,lZ,lS]
  exact zak
 refine zcm _ _ rfl rfl rfl rfl rfl rfl rfl (hzN ·) (fun _ => rfl) (fun _ => rfl) (iN _) rfl (zbe _) ?_
 intro gd w2 hgd bd hE
 replace hx:=hx.trans hE
 clear hE
 simp only [aP,lA,lZ,lS]
 clear hgd
 go_upto_region 2 with (fail)
 refine' lit_mono (A:=_) (T:=fun p W' => W'.heap[p]? = some (Obj.cells (gc Pt.exR Pt.exS) 35 (0,0)) ∧ Ext w2 W') ?hr ?hk
 case hr =>
  have hgd : gd < w2.heap.size:=(Array.getElem?_eq_some_iff.1 bd).1
  refine wp_region_any (by kernel_rfl) ?_
  have hE:=Ext.drew w2
  replace bd:=hE.block bd
  obtain ⟨v0,hv0⟩ : ∃ v0,v0 = World.drew w2:=⟨_,rfl⟩
  rw [← hv0] at hE bd
  show wpAny _ _ _ _ 11 (Array.replicate 11 false) _ (World.drew w2)
  rw [← hv0]
  clear hv0
  refine zcg (rs:=[0,1,8]) (by decide +kernel) (by simp) ?_
  refine all_cons (p:=_) ?_ (all_cons (p:=_) ?_ (all_cons (p:=_) ?_ (zda)))
  ·
   refine zik (d:=some 7) (v:=nv exD) rfl rfl rfl (zad rfl rfl bd rfl uN rfl (iN _)) ?_
   intro v1 hv
   simp only [aP,lA,lZ,lS]
   replace hE:=hE.trans hv
   replace bd:=hv.block bd
   clear hv
   refine zcg (rs:=[1,8]) (by decide +kernel) (by simp) ?_
   refine all_cons (p:=_) ?_ (all_cons (p:=_) ?_ (zda))
   ·
    refine zgv (d:=some 8) (vs:=[(0,.int .u8 115),(1,.int .u8 97),(2,.int .u8 109),(3,.int .u8 112),(4,.int .u8 108),(5,.int .u8 101)]) rfl rfl rfl rfl rfl (zfx ·) ?_
    intro g v2 hg hv hb
    simp only [aP,lA,lZ,lS]
    have hgw : w2.heap.size ≤ g:=Nat.le_trans (Below.size hE) hg
    replace hE:=hE.trans hv
    replace bd:=hv.block bd
    clear hv hg
    refine zcg (rs:=[2,8]) (by decide +kernel) (by simp) ?_
    refine all_cons (p:=_) ?_ (all_cons (p:=_) ?_ (zda))
    ·
     refine zeb (d:=some 9) rfl rfl rfl rfl rfl hb Tryz.underlying46 Tryz.underlying5 ?_
     intro v3 hv hb'
     simp only [aP,lA,lZ,lS]
     replace bd : v3.heap[_]? = _:=(hv.block _ (Array.getElem?_eq_some_iff.1 bd).1 (by intro e; injection e; omega)).trans bd
     replace hE:=zef hE hv hgw
     clear hv hb
     refine zci (n:=9) _ _ _ _ ?_
     refine' any_rest (m:=7) (n:=9) (k:=3) (c:=4) (g:=4) (A:=_) zcn (by kernel_rfl) (by kernel_rfl) (by kernel_rfl) (by kernel_rfl) ?h1_1 ?h2_1
     case h1_1 =>
      refine zaa (dgv exH) rfl (zai (args:=[.slice (some ⟨g,0,none⟩) 6 6]) rfl rfl (fun W => zac Tryz.func13 rfl rfl _ W) (fun W hW => zdy hb' hW (kK.out.call ((hx.trans hE).trans hW)))) ?_
      refine zaa (.tuple #[gv Pt.exR Pt.exS,.nilIface]) rfl (zai (args:=[nv exD,dgv exH]) rfl rfl (fun W => zac Tryz.func7 rfl rfl _ W) (fun W hW => kS.out W (kK.out.call ((hx.trans hE).trans hW)))) ?_;simp only [aP,lA,lZ,lS]
      refine zaa (.tuple #[gv Pt.exR Pt.exS,.nilIface]) rfl (zah (.inl rfl) rfl) ?_
      refine zaa (gv Pt.exR Pt.exS) rfl (zbb rfl rfl rfl) ?_;simp only [aP,lA,lZ,lS]
      exact zak
     case h2_1 =>
      refine zfy (v:=.nilIface) (vx:=.nilIface) _ _ _ _ rfl rfl rfl rfl rfl rfl rfl rfl rfl rfl rfl rfl rfl rfl rfl rfl (by decide) (by kernel_rfl) (by kernel_rfl) (by kernel_rfl) (by kernel_rfl) (by kernel_rfl) (by kernel_rfl) (by kernel_rfl) rfl rfl rfl rfl rfl rfl (hzG ·) (zcw rfl rfl rfl) (fun _ => zcw rfl rfl rfl) (fun _ => rfl) (fun _ => rfl) (fun _ => rfl) (fun _ => rfl) (fun _ => rfl) (iSg _ _) rfl (zce _ _) ?_
      intro p W' _ hp hW'
      exact zfk g p rfl ⟨hp,hE.trans hW'⟩
    ·
     refine zgw (d:=some 2) rfl rfl rfl rfl (hzG ·) ?_
     intro p v3 hg hv hp
     simp only [aP,lA,lZ,lS]
     have hne : p ≠ g:=by have:=(Array.getElem?_eq_some_iff.1 hb).1; omega
     replace hb:=hv.block hb
     have hpw : w2.heap.size ≤ p:=Nat.le_trans (Below.size hE) hg
     replace hE:=hE.trans hv
     replace bd:=hv.block bd
     clear hv hg
     refine zcg (rs:=[2]) (by decide +kernel) (by simp) ?_
     refine all_cons (p:=_) ?_ (zda)
     ·
      refine zeb (d:=some 9) rfl rfl rfl rfl rfl hb Tryz.underlying46 Tryz.underlying5 ?_
      intro v4 hv hb'
      simp only [aP,lA,lZ,lS]
      replace bd : v4.heap[_]? = _:=(hv.block _ (Array.getElem?_eq_some_iff.1 bd).1 (by intro e; injection e; omega)).trans bd
      replace hp : v4.heap[_]? = _:=(hv.block _ (Array.getElem?_eq_some_iff.1 hp).1 (by intro e; injection e; omega)).trans hp
      replace hE:=zef hE hv hgw
      clear hv hb
      refine zci (n:=9) _ _ _ _ ?_
      refine' zdq (m:=7) (n:=9) (k:=3) (c:=4) (g:=3) (A:=_) (L:=(marked 7 0 (Array.replicate 11 false)).setIfInBounds 8 true) zcn (by kernel_rfl) (by kernel_rfl) (by kernel_rfl) ?h1_2 ?h2_2
      case h1_2 =>
       refine zaa (dgv exH) rfl (zai (args:=[.slice (some ⟨g,0,none⟩) 6 6]) rfl rfl (fun W => zac Tryz.func13 rfl rfl _ W) (fun W hW => zdy hb' hW (kK.out.call ((hx.trans hE).trans hW)))) ?_
       refine zaa (.tuple #[gv Pt.exR Pt.exS,.nilIface]) rfl (zai (args:=[nv exD,dgv exH]) rfl rfl (fun W => zac Tryz.func7 rfl rfl _ W) (fun W hW => kS.out W (kK.out.call ((hx.trans hE).trans hW)))) ?_;simp only [aP,lA,lZ,lS]
       refine zaa (.tuple #[gv Pt.exR Pt.exS,.nilIface]) rfl (zah (.inl rfl) rfl) ?_
       refine zaa (gv Pt.exR Pt.exS) rfl (zbb rfl rfl rfl) ?_;simp only [aP,lA,lZ,lS]
       exact zak
      case h2_2 =>
       refine zdu (m:=7) (w:=w2) (v:=.nilIface) (vx:=.nilIface) (L1:=marked 10 0 (Array.replicate 11 false)) (zs:=#[vI vU 0,vI vU 0,vI vU 0,vI vU 0,vI vU 0,vI vU 0,vI vU 0,vI vU 0]) _ _ _ rfl rfl rfl rfl rfl rfl rfl rfl rfl rfl rfl (by kernel_rfl) (by kernel_rfl) (by kernel_rfl) (by kernel_rfl) (by kernel_rfl) (by kernel_rfl) (by kernel_rfl) (zcw rfl rfl rfl) rfl rfl rfl rfl rfl (iSg _ _) rfl (zce _ _) hE hpw hp ?_
       intro W' hp hW'
       exact zfk g p rfl ⟨hp,hW'⟩
   ·
    refine zgw (d:=some 2) rfl rfl rfl rfl (hzG ·) ?_
    intro p v2 hg hv hp
    simp only [aP,lA,lZ,lS]
    have hpw : w2.heap.size ≤ p:=Nat.le_trans (Below.size hE) hg
    replace hE:=hE.trans hv
    replace bd:=hv.block bd
    clear hv hg
    refine zcg (rs:=[1]) (by decide +kernel) (by simp) ?_
    refine all_cons (p:=_) ?_ (zda)
    ·
     refine zgv (d:=some 8) (vs:=[(0,.int .u8 115),(1,.int .u8 97),(2,.int .u8 109),(3,.int .u8 112),(4,.int .u8 108),(5,.int .u8 101)]) rfl rfl rfl rfl rfl (zfx ·) ?_
     intro g v3 hg hv hb
     simp only [aP,lA,lZ,lS]
     have hne : p ≠ g:=by have:=(Array.getElem?_eq_some_iff.1 hp).1; omega
     replace hp:=hv.block hp
     have hgw : w2.heap.size ≤ g:=Nat.le_trans (Below.size hE) hg
     replace hE:=hE.trans hv
     replace bd:=hv.block bd
     clear hv hg
     refine zcg (rs:=[2]) (by decide +kernel) (by simp) ?_
     refine all_cons (p:=_) ?_ (zda)
     ·
      refine zeb (d:=some 9) rfl rfl rfl rfl rfl hb Tryz.underlying46 Tryz.underlying5 ?_
      intro v4 hv hb'
      simp only [aP,lA,lZ,lS]
      replace bd : v4.heap[_]? = _:=(hv.block _ (Array.getElem?_eq_some_iff.1 bd).1 (by intro e; injection e; omega)).trans bd
      replace hp : v4.heap[_]? = _:=(hv.block _ (Array.getElem?_eq_some_iff.1 hp).1 (by intro e; injection e; omega)).trans hp
      replace hE:=zef hE hv hgw
      clear hv hb
      refine zci (n:=9) _ _ _ _ ?_
      refine' zdq (m:=7) (n:=9) (k:=3) (c:=4) (g:=3) (A:=_) (L:=(marked 7 0 (Array.replicate 11 false)).setIfInBounds 8 true) zcn (by kernel_rfl) (by kernel_rfl) (by kernel_rfl) ?h1_3 ?h2_3
      case h1_3 =>
       refine zaa (dgv exH) rfl (zai (args:=[.slice (some ⟨g,0,none⟩) 6 6]) rfl rfl (fun W => zac Tryz.func13 rfl rfl _ W) (fun W hW => zdy hb' hW (kK.out.call ((hx.trans hE).trans hW)))) ?_
       refine zaa (.tuple #[gv Pt.exR Pt.exS,.nilIface]) rfl (zai (args:=[nv exD,dgv exH]) rfl rfl (fun W => zac Tryz.func7 rfl rfl _ W) (fun W hW => kS.out W (kK.out.call ((hx.trans hE).trans hW)))) ?_;simp only [aP,lA,lZ,lS]
       refine zaa (.tuple #[gv Pt.exR Pt.exS,.nilIface]) rfl (zah (.inl rfl) rfl) ?_
       refine zaa (gv Pt.exR Pt.exS) rfl (zbb rfl rfl rfl) ?_;simp only [aP,lA,lZ,lS]
       exact zak
      case h2_3 =>
       refine zdu (m:=7) (w:=w2) (v:=.nilIface) (vx:=.nilIface) (L1:=marked 10 0 (Array.replicate 11 false)) (zs:=#[vI vU 0,vI vU 0,vI vU 0,vI vU 0,vI vU 0,vI vU 0,vI vU 0,vI vU 0]) _ _ _ rfl rfl rfl rfl rfl rfl rfl rfl rfl rfl rfl (by kernel_rfl) (by kernel_rfl) (by kernel_rfl) (by kernel_rfl) (by kernel_rfl) (by kernel_rfl) (by kernel_rfl) (zcw rfl rfl rfl) rfl rfl rfl rfl rfl (iSg _ _) rfl (zce _ _) hE hpw hp ?_
       intro W' hp hW'
       exact zfk g p rfl ⟨hp,hW'⟩
  ·
   refine zgv (d:=some 8) (vs:=[(0,.int .u8 115),(1,.int .u8 97),(2,.int .u8 109),(3,.int .u8 112),(4,.int .u8 108),(5,.int .u8 101)]) rfl rfl rfl rfl rfl (zfx ·) ?_
   intro g v1 hg hv hb
   simp only [aP,lA,lZ,lS]
   have hgw : w2.heap.size ≤ g:=Nat.le_trans (Below.size hE) hg
   replace hE:=hE.trans hv
   replace bd:=hv.block bd
   clear hv hg
   refine zcg (rs:=[0,2,8]) (by decide +kernel) (by simp) ?_
   refine all_cons (p:=_) ?_ (all_cons (p:=_) ?_ (all_cons (p:=_) ?_ (zda)))
   ·
    refine zik (d:=some 7) (v:=nv exD) rfl rfl rfl (zad rfl rfl bd rfl uN rfl (iN _)) ?_
    intro v2 hv
    simp only [aP,lA,lZ,lS]
    replace hE:=hE.trans hv
    replace bd:=hv.block bd
    replace hb:=hv.block hb
    clear hv
    refine zcg (rs:=[2,8]) (by decide +kernel) (by simp) ?_
    refine all_cons (p:=_) ?_ (all_cons (p:=_) ?_ (zda))
    ·
     refine zeb (d:=some 9) rfl rfl rfl rfl rfl hb Tryz.underlying46 Tryz.underlying5 ?_
     intro v3 hv hb'
     simp only [aP,lA,lZ,lS]
     replace bd : v3.heap[_]? = _:=(hv.block _ (Array.getElem?_eq_some_iff.1 bd).1 (by intro e; injection e; omega)).trans bd
     replace hE:=zef hE hv hgw
     clear hv hb
     refine zci (n:=9) _ _ _ _ ?_
     refine' any_rest (m:=7) (n:=9) (k:=3) (c:=4) (g:=4) (A:=_) zcn (by kernel_rfl) (by kernel_rfl) (by kernel_rfl) (by kernel_rfl) ?h1_4 ?h2_4
     case h1_4 =>
      refine zaa (dgv exH) rfl (zai (args:=[.slice (some ⟨g,0,none⟩) 6 6]) rfl rfl (fun W => zac Tryz.func13 rfl rfl _ W) (fun W hW => zdy hb' hW (kK.out.call ((hx.trans hE).trans hW)))) ?_
      refine zaa (.tuple #[gv Pt.exR Pt.exS,.nilIface]) rfl (zai (args:=[nv exD,dgv exH]) rfl rfl (fun W => zac Tryz.func7 rfl rfl _ W) (fun W hW => kS.out W (kK.out.call ((hx.trans hE).trans hW)))) ?_;simp only [aP,lA,lZ,lS]
      refine zaa (.tuple #[gv Pt.exR Pt.exS,.nilIface]) rfl (zah (.inl rfl) rfl) ?_
      refine zaa (gv Pt.exR Pt.exS) rfl (zbb rfl rfl rfl) ?_;simp only [aP,lA,lZ,lS]
      exact zak
     case h2_4 =>
      refine zfy (v:=.nilIface) (vx:=.nilIface) _ _ _ _ rfl rfl rfl rfl rfl rfl rfl rfl rfl rfl rfl rfl rfl rfl rfl rfl (by decide) (by kernel_rfl) (by kernel_rfl) (by kernel_rfl) (by kernel_rfl) (by kernel_rfl) (by kernel_rfl) (by kernel_rfl) rfl rfl rfl rfl rfl rfl (hzG ·) (zcw rfl rfl rfl) (fun _ => zcw rfl rfl rfl) (fun _ => rfl) (fun _ => rfl) (fun _ => rfl) (fun _ => rfl) (fun _ => rfl) (iSg _ _) rfl (zce _ _) ?_
      intro p W' _ hp hW'
      exact zfk g p rfl ⟨hp,hE.trans hW'⟩
    ·
     refine zgw (d:=some 2) rfl rfl rfl rfl (hzG ·) ?_
     intro p v3 hg hv hp
     simp only [aP,lA,lZ,lS]
     have hne : p ≠ g:=by have:=(Array.getElem?_eq_some_iff.1 hb).1; omega
     replace hb:=hv.block hb
     have hpw : w2.heap.size ≤ p:=Nat.le_trans (Below.size hE) hg
     replace hE:=hE.trans hv
     replace bd:=hv.block bd
     clear hv hg
     refine zcg (rs:=[2]) (by decide +kernel) (by simp) ?_
     refine all_cons (p:=_) ?_ (zda)
     ·
      refine zeb (d:=some 9) rfl rfl rfl rfl rfl hb Tryz.underlying46 Tryz.underlying5 ?_
      intro v4 hv hb'
      simp only [aP,lA,lZ,lS]
      replace bd : v4.heap[_]? = _:=(hv.block _ (Array.getElem?_eq_some_iff.1 bd).1 (by intro e; injection e; omega)).trans bd
      replace hp : v4.heap[_]? = _:=(hv.block _ (Array.getElem?_eq_some_iff.1 hp).1 (by intro e; injection e; omega)).trans hp
      replace hE:=zef hE hv hgw
      clear hv hb
      refine zci (n:=9) _ _ _ _ ?_
      refine' zdq (m:=7) (n:=9) (k:=3) (c:=4) (g:=3) (A:=_) (L:=(marked 7 0 (Array.replicate 11 false)).setIfInBounds 8 true) zcn (by kernel_rfl) (by kernel_rfl) (by kernel_rfl) ?h1_5 ?h2_5
      case h1_5 =>
       refine zaa (dgv exH) rfl (zai (args:=[.slice (some ⟨g,0,none⟩) 6 6]) rfl rfl (fun W => zac Tryz.func13 rfl rfl _ W) (fun W hW => zdy hb' hW (kK.out.call ((hx.trans hE).trans hW)))) ?_
       refine zaa (.tuple #[gv Pt.exR Pt.exS,.nilIface]) rfl (zai (args:=[nv exD,dgv exH]) rfl rfl (fun W => zac Tryz.func7 rfl rfl _ W) (fun W hW => kS.out W (kK.out.call ((hx.trans hE).trans hW)))) ?_;simp only [aP,lA,lZ,lS]
       refine zaa (.tuple #[gv Pt.exR Pt.exS,.nilIface]) rfl (zah (.inl rfl) rfl) ?_
       refine zaa (gv Pt.exR Pt.exS) rfl (zbb rfl rfl rfl) ?_;simp only [aP,lA,lZ,lS]
       exact zak
      case h2_5 =>
       refine zdu (m:=7) (w:=w2) (v:=.nilIface) (vx:=.nilIface) (L1:=marked 10 0 (Array.replicate 11 false)) (zs:=#[vI vU 0,vI vU 0,vI vU 0,vI vU 0,vI vU 0,vI vU 0,vI vU 0,vI vU 0]) _ _ _ rfl rfl rfl rfl rfl rfl rfl rfl rfl rfl rfl (by kernel_rfl) (by kernel_rfl) (by kernel_rfl) (by kernel_rfl) (by kernel_rfl) (by kernel_rfl) (by kernel_rfl) (zcw rfl rfl rfl) rfl rfl rfl rfl rfl (iSg _ _) rfl (zce _ _) hE hpw hp ?_
       intro W' hp hW'
       exact zfk g p rfl ⟨hp,hW'⟩
   ·
    refine zeb (d:=some 9) rfl rfl rfl rfl rfl hb Tryz.underlying46 Tryz.underlying5 ?_
    intro v2 hv hb'
    simp only [aP,lA,lZ,lS]
    replace bd : v2.heap[_]? = _:=(hv.block _ (Array.getElem?_eq_some_iff.1 bd).1 (by intro e; injection e; omega)).trans bd
    replace hE:=zef hE hv hgw
    clear hv hb
    refine zci (n:=9) _ _ _ _ ?_
    refine' zdq (m:=7) (n:=9) (k:=0) (c:=1) (g:=8) (A:=_) (L:=_) zcn (by kernel_rfl) rfl (by kernel_rfl) ?h1_6 ?h2_6
    case h1_6 =>
     refine zaa (nv exD) rfl (zad rfl rfl bd rfl uN rfl (iN _)) ?_;simp only [aP,lA,lZ,lS]
     exact zak
    case h2_6 =>
     refine' any_rest (m:=7) (n:=9) (k:=3) (c:=4) (g:=4) (A:=_) zcn (by kernel_rfl) (by kernel_rfl) (by kernel_rfl) (by kernel_rfl) ?h1_7 ?h2_7
     case h1_7 =>
      refine zaa (dgv exH) rfl (zai (args:=[.slice (some ⟨g,0,none⟩) 6 6]) rfl rfl (fun W => zac Tryz.func13 rfl rfl _ W) (fun W hW => zdy hb' hW (kK.out.call ((hx.trans hE).trans hW)))) ?_
      refine zaa (.tuple #[gv Pt.exR Pt.exS,.nilIface]) rfl (zai (args:=[nv exD,dgv exH]) rfl rfl (fun W => zac Tryz.func7 rfl rfl _ W) (fun W hW => kS.out W (kK.out.call ((hx.trans hE).trans hW)))) ?_;simp only [aP,lA,lZ,lS]
      refine zaa (.tuple #[gv Pt.exR Pt.exS,.nilIface]) rfl (zah (.inl rfl) rfl) ?_
      refine zaa (gv Pt.exR Pt.exS) rfl (zbb rfl rfl rfl) ?_;simp only [aP,lA,lZ,lS]
      exact zak
     case h2_7 =>
      refine zfy (v:=.nilIface) (vx:=.nilIface) _ _ _ _ rfl rfl rfl rfl rfl rfl rfl rfl rfl rfl rfl rfl rfl rfl rfl rfl (by decide) (by kernel_rfl) (by kernel_rfl) (by kernel_rfl) (by kernel_rfl) (by kernel_rfl) (by kernel_rfl) (by kernel_rfl) rfl rfl rfl rfl rfl rfl (hzG ·) (zcw rfl rfl rfl) (fun _ => zcw rfl rfl rfl) (fun _ => rfl) (fun _ => rfl) (fun _ => rfl) (fun _ => rfl) (fun _ => rfl) (iSg _ _) rfl (zce _ _) ?_
      intro p W' _ hp hW'
      exact zfk g p rfl ⟨hp,hE.trans hW'⟩
   ·
    refine zgw (d:=some 2) rfl rfl rfl rfl (hzG ·) ?_
    intro p v2 hg hv hp
    simp only [aP,lA,lZ,lS]
    have hne : p ≠ g:=by have:=(Array.getElem?_eq_some_iff.1 hb).1; omega
    replace hb:=hv.block hb
    have hpw : w2.heap.size ≤ p:=Nat.le_trans (Below.size hE) hg
    replace hE:=hE.trans hv
    replace bd:=hv.block bd
    clear hv hg
    refine zcg (rs:=[0,2]) (by decide +kernel) (by simp) ?_
    refine all_cons (p:=_) ?_ (all_cons (p:=_) ?_ (zda))
    ·
     refine zik (d:=some 7) (v:=nv exD) rfl rfl rfl (zad rfl rfl bd rfl uN rfl (iN _)) ?_
     intro v3 hv
     simp only [aP,lA,lZ,lS]
     replace hE:=hE.trans hv
     replace bd:=hv.block bd
     replace hb:=hv.block hb
     replace hp:=hv.block hp
     clear hv
     refine zcg (rs:=[2]) (by decide +kernel) (by simp) ?_
     refine all_cons (p:=_) ?_ (zda)
     ·
      refine zeb (d:=some 9) rfl rfl rfl rfl rfl hb Tryz.underlying46 Tryz.underlying5 ?_
      intro v4 hv hb'
      simp only [aP,lA,lZ,lS]
      replace bd : v4.heap[_]? = _:=(hv.block _ (Array.getElem?_eq_some_iff.1 bd).1 (by intro e; injection e; omega)).trans bd
      replace hp : v4.heap[_]? = _:=(hv.block _ (Array.getElem?_eq_some_iff.1 hp).1 (by intro e; injection e; omega)).trans hp
      replace hE:=zef hE hv hgw
      clear hv hb
      refine zci (n:=9) _ _ _ _ ?_
      refine' zdq (m:=7) (n:=9) (k:=3) (c:=4) (g:=3) (A:=_) (L:=(marked 7 0 (Array.replicate 11 false)).setIfInBounds 8 true) zcn (by kernel_rfl) (by kernel_rfl) (by kernel_rfl) ?h1_8 ?h2_8
      case h1_8 =>
       refine zaa (dgv exH) rfl (zai (args:=[.slice (some ⟨g,0,none⟩) 6 6]) rfl rfl (fun W => zac Tryz.func13 rfl rfl _ W) (fun W hW => zdy hb' hW (kK.out.call ((hx.trans hE).trans hW)))) ?_
       refine zaa (.tuple #[gv Pt.exR Pt.exS,.nilIface]) rfl (zai (args:=[nv exD,dgv exH]) rfl rfl (fun W => zac Tryz.func7 rfl rfl _ W) (fun W hW => kS.out W (kK.out.call ((hx.trans hE).trans hW)))) ?_;simp only [aP,lA,lZ,lS]
       refine zaa (.tuple #[gv Pt.exR Pt.exS,.nilIface]) rfl (zah (.inl rfl) rfl) ?_
       refine zaa (gv Pt.exR Pt.exS) rfl (zbb rfl rfl rfl) ?_;simp only [aP,lA,lZ,lS]
       exact zak
      case h2_8 =>
       refine zdu (m:=7) (w:=w2) (v:=.nilIface) (vx:=.nilIface) (L1:=marked 10 0 (Array.replicate 11 false)) (zs:=#[vI vU 0,vI vU 0,vI vU 0,vI vU 0,vI vU 0,vI vU 0,vI vU 0,vI vU 0]) _ _ _ rfl rfl rfl rfl rfl rfl rfl rfl rfl rfl rfl (by kernel_rfl) (by kernel_rfl) (by kernel_rfl) (by kernel_rfl) (by kernel_rfl) (by kernel_rfl) (by kernel_rfl) (zcw rfl rfl rfl) rfl rfl rfl rfl rfl (iSg _ _) rfl (zce _ _) hE hpw hp ?_
       intro W' hp hW'
       exact zfk g p rfl ⟨hp,hW'⟩
    ·
     refine zeb (d:=some 9) rfl rfl rfl rfl rfl hb Tryz.underlying46 Tryz.underlying5 ?_
     intro v3 hv hb'
     simp only [aP,lA,lZ,lS]
     replace bd : v3.heap[_]? = _:=(hv.block _ (Array.getElem?_eq_some_iff.1 bd).1 (by intro e; injection e; omega)).trans bd
     replace hp : v3.heap[_]? = _:=(hv.block _ (Array.getElem?_eq_some_iff.1 hp).1 (by intro e; injection e; omega)).trans hp
     replace hE:=zef hE hv hgw
     clear hv hb
     refine zci (n:=9) _ _ _ _ ?_
     refine' zdq (m:=7) (n:=9) (k:=0) (c:=1) (g:=7) (A:=_) (L:=_) zcn (by kernel_rfl) rfl (by kernel_rfl) ?h1_9 ?h2_9
     case h1_9 =>
      refine zaa (nv exD) rfl (zad rfl rfl bd rfl uN rfl (iN _)) ?_;simp only [aP,lA,lZ,lS]
      exact zak
     case h2_9 =>
      refine' zdq (m:=7) (n:=9) (k:=3) (c:=4) (g:=3) (A:=_) (L:=(marked 7 0 (Array.replicate 11 false)).setIfInBounds 8 true) zcn (by kernel_rfl) (by kernel_rfl) (by kernel_rfl) ?h1_10 ?h2_10
      case h1_10 =>
       refine zaa (dgv exH) rfl (zai (args:=[.slice (some ⟨g,0,none⟩) 6 6]) rfl rfl (fun W => zac Tryz.func13 rfl rfl _ W) (fun W hW => zdy hb' hW (kK.out.call ((hx.trans hE).trans hW)))) ?_
       refine zaa (.tuple #[gv Pt.exR Pt.exS,.nilIface]) rfl (zai (args:=[nv exD,dgv exH]) rfl rfl (fun W => zac Tryz.func7 rfl rfl _ W) (fun W hW => kS.out W (kK.out.call ((hx.trans hE).trans hW)))) ?_;simp only [aP,lA,lZ,lS]
       refine zaa (.tuple #[gv Pt.exR Pt.exS,.nilIface]) rfl (zah (.inl rfl) rfl) ?_
       refine zaa (gv Pt.exR Pt.exS) rfl (zbb rfl rfl rfl) ?_;simp only [aP,lA,lZ,lS]
       exact zak
      case h2_10 =>
       refine zdu (m:=7) (w:=w2) (v:=.nilIface) (vx:=.nilIface) (L1:=marked 10 0 (Array.replicate 11 false)) (zs:=#[vI vU 0,vI vU 0,vI vU 0,vI vU 0,vI vU 0,vI vU 0,vI vU 0,vI vU 0]) _ _ _ rfl rfl rfl rfl rfl rfl rfl rfl rfl rfl rfl (by kernel_rfl) (by kernel_rfl) (by kernel_rfl) (by kernel_rfl) (by kernel_rfl) (by kernel_rfl) (by kernel_rfl) (zcw rfl rfl rfl) rfl rfl rfl rfl rfl (iSg _ _) rfl (zce _ _) hE hpw hp ?_
       intro W' hp hW'
       exact zfk g p rfl ⟨hp,hW'⟩
  ·
   refine zgw (d:=some 2) rfl rfl rfl rfl (hzG ·) ?_
   intro p v1 hg hv hp
   simp only [aP,lA,lZ,lS]
   have hpw : w2.heap.size ≤ p:=Nat.le_trans (Below.size hE) hg
   replace hE:=hE.trans hv
   replace bd:=hv.block bd
   clear hv hg
   refine zcg (rs:=[0,1]) (by decide +kernel) (by simp) ?_
   refine all_cons (p:=_) ?_ (all_cons (p:=_) ?_ (zda))
   ·
    refine zik (d:=some 7) (v:=nv exD) rfl rfl rfl (zad rfl rfl bd rfl uN rfl (iN _)) ?_
    intro v2 hv
    simp only [aP,lA,lZ,lS]
    replace hE:=hE.trans hv
    replace bd:=hv.block bd
    replace hp:=hv.block hp
    clear hv
    refine zcg (rs:=[1]) (by decide +kernel) (by simp) ?_
    refine all_cons (p:=_) ?_ (zda)
    ·
     refine zgv (d:=some 8) (vs:=[(0,.int .u8 115),(1,.int .u8 97),(2,.int .u8 109),(3,.int .u8 112),(4,.int .u8 108),(5,.int .u8 101)]) rfl rfl rfl rfl rfl (zfx ·) ?_
     intro g v3 hg hv hb
     simp only [aP,lA,lZ,lS]
     have hne : p ≠ g:=by have:=(Array.getElem?_eq_some_iff.1 hp).1; omega
     replace hp:=hv.block hp
     have hgw : w2.heap.size ≤ g:=Nat.le_trans (Below.size hE) hg
     replace hE:=hE.trans hv
     replace bd:=hv.block bd
     clear hv hg
     refine zcg (rs:=[2]) (by decide +kernel) (by simp) ?_
     refine all_cons (p:=_) ?_ (zda)
     ·
      refine zeb (d:=some 9) rfl rfl rfl rfl rfl hb Tryz.underlying46 Tryz.underlying5 ?_
      intro v4 hv hb'
      simp only [aP,lA,lZ,lS]
      replace bd : v4.heap[_]? = _:=(hv.block _ (Array.getElem?_eq_some_iff.1 bd).1 (by intro e; injection e; omega)).trans bd
      replace hp : v4.heap[_]? = _:=(hv.block _ (Array.getElem?_eq_some_iff.1 hp).1 (by intro e; injection e; omega)).trans hp
      replace hE:=zef hE hv hgw
      clear hv hb
      refine zci (n:=9) _ _ _ _ ?_
      refine' zdq (m:=7) (n:=9) (k:=3) (c:=4) (g:=3) (A:=_) (L:=(marked 7 0 (Array.replicate 11 false)).setIfInBounds 8 true) zcn (by kernel_rfl) (by kernel_rfl) (by kernel_rfl) ?h1_11 ?h2_11
      case h1_11 =>
       refine zaa (dgv exH) rfl (zai (args:=[.slice (some ⟨g,0,none⟩) 6 6]) rfl rfl (fun W => zac Tryz.func13 rfl rfl _ W) (fun W hW => zdy hb' hW (kK.out.call ((hx.trans hE).trans hW)))) ?_
       refine zaa (.tuple #[gv Pt.exR Pt.exS,.nilIface]) rfl (zai (args:=[nv exD,dgv exH]) rfl rfl (fun W => zac Tryz.func7 rfl rfl _ W) (fun W hW => kS.out W (kK.out.call ((hx.trans hE).trans hW)))) ?_;simp only [aP,lA,lZ,lS]
       refine zaa (.tuple #[gv Pt.exR Pt.exS,.nilIface]) rfl (zah (.inl rfl) rfl) ?_
       refine zaa (gv Pt.exR Pt.exS) rfl (zbb rfl rfl rfl) ?_;simp only [aP,lA,lZ,lS]
       exact zak
      case h2_11 =>
       refine zdu (m:=7) (w:=w2) (v:=.nilIface) (vx:=.nilIface) (L1:=marked 10 0 (Array.replicate 11 false)) (zs:=#[vI vU 0,vI vU 0,vI vU 0,vI vU 0,vI vU 0,vI vU 0,vI vU 0,vI vU 0]) _ _ _ rfl rfl rfl rfl rfl rfl rfl rfl rfl rfl rfl (by kernel_rfl) (by kernel_rfl) (by kernel_rfl) (by kernel_rfl) (by kernel_rfl) (by kernel_rfl) (by kernel_rfl) (zcw rfl rfl rfl) rfl rfl rfl rfl rfl (iSg _ _) rfl (zce _ _) hE hpw hp ?_
       intro W' hp hW'
       exact zfk g p rfl ⟨hp,hW'⟩
   ·
    refine zgv (d:=some 8) (vs:=[(0,.int .u8 115),(1,.int .u8 97),(2,.int .u8 109),(3,.int .u8 112),(4,.int .u8 108),(5,.int .u8 101)]) rfl rfl rfl rfl rfl (zfx ·) ?_
    intro g v2 hg hv hb
    simp only [aP,lA,lZ,lS]
    have hne : p ≠ g:=by have:=(Array.getElem?_eq_some_iff.1 hp).1; omega
    replace hp:=hv.block hp
    have hgw : w2.heap.size ≤ g:=Nat.le_trans (Below.size hE) hg
    replace hE:=hE.trans hv
    replace bd:=hv.block bd
    clear hv hg
    refine zcg (rs:=[0,2]) (by decide +kernel) (by simp) ?_
    refine all_cons (p:=_) ?_ (all_cons (p:=_) ?_ (zda))
    ·
     refine zik (d:=some 7) (v:=nv exD) rfl rfl rfl (zad rfl rfl bd rfl uN rfl (iN _)) ?_
     intro v3 hv
     simp only [aP,lA,lZ,lS]
     replace hE:=hE.trans hv
     replace bd:=hv.block bd
     replace hb:=hv.block hb
     replace hp:=hv.block hp
     clear hv
     refine zcg (rs:=[2]) (by decide +kernel) (by simp) ?_
     refine all_cons (p:=_) ?_ (zda)
     ·
      refine zeb (d:=some 9) rfl rfl rfl rfl rfl hb Tryz.underlying46 Tryz.underlying5 ?_
      intro v4 hv hb'
      simp only [aP,lA,lZ,lS]
      replace bd : v4.heap[_]? = _:=(hv.block _ (Array.getElem?_eq_some_iff.1 bd).1 (by intro e; injection e; omega)).trans bd
      replace hp : v4.heap[_]? = _:=(hv.block _ (Array.getElem?_eq_some_iff.1 hp).1 (by intro e; injection e; omega)).trans hp
      replace hE:=zef hE hv hgw
      clear hv hb
      refine zci (n:=9) _ _ _ _ ?_
      refine' zdq (m:=7) (n:=9) (k:=3) (c:=4) (g:=3) (A:=_) (L:=(marked 7 0 (Array.replicate 11 false)).setIfInBounds 8 true) zcn (by kernel_rfl) (by kernel_rfl) (by kernel_rfl) ?h1_12 ?h2_12
      case h1_12 =>
       refine zaa (dgv exH) rfl (zai (args:=[.slice (some ⟨g,0,none⟩) 6 6]) rfl rfl (fun W => zac Tryz.func13 rfl rfl _ W) (fun W hW => zdy hb' hW (kK.out.call ((hx.trans hE).trans hW)))) ?_
       refine zaa (.tuple #[gv Pt.exR Pt.exS,.nilIface]) rfl (zai (args:=[nv exD,dgv exH]) rfl rfl (fun W => zac Tryz.func7 rfl rfl _ W) (fun W hW => kS.out W (kK.out.call ((hx.trans hE).trans hW)))) ?_;simp only [aP,lA,lZ,lS]
       refine zaa (.tuple #[gv Pt.exR Pt.exS,.nilIface]) rfl (zah (.inl rfl) rfl) ?_
       refine zaa (gv Pt.exR Pt.exS) rfl (zbb rfl rfl rfl) ?_;simp only [aP,lA,lZ,lS]
       exact zak
      case h2_12 =>
       refine zdu (m:=7) (w:=w2) (v:=.nilIface) (vx:=.nilIface) (L1:=marked 10 0 (Array.replicate 11 false)) (zs:=#[vI vU 0,vI vU 0,vI vU 0,vI vU 0,vI vU 0,vI vU 0,vI vU 0,vI vU 0]) _ _ _ rfl rfl rfl rfl rfl rfl rfl rfl rfl rfl rfl (by kernel_rfl) (by kernel_rfl) (by kernel_rfl) (by kernel_rfl) (by kernel_rfl) (by kernel_rfl) (by kernel_rfl) (zcw rfl rfl rfl) rfl rfl rfl rfl rfl (iSg _ _) rfl (zce _ _) hE hpw hp ?_
       intro W' hp hW'
       exact zfk g p rfl ⟨hp,hW'⟩
    ·
     refine zeb (d:=some 9) rfl rfl rfl rfl rfl hb Tryz.underlying46 Tryz.underlying5 ?_
     intro v3 hv hb'
     simp only [aP,lA,lZ,lS]
     replace bd : v3.heap[_]? = _:=(hv.block _ (Array.getElem?_eq_some_iff.1 bd).1 (by intro e; injection e; omega)).trans bd
     replace hp : v3.heap[_]? = _:=(hv.block _ (Array.getElem?_eq_some_iff.1 hp).1 (by intro e; injection e; omega)).trans hp
     replace hE:=zef hE hv hgw
     clear hv hb
     refine zci (n:=9) _ _ _ _ ?_
     refine' zdq (m:=7) (n:=9) (k:=0) (c:=1) (g:=7) (A:=_) (L:=_) zcn (by kernel_rfl) rfl (by kernel_rfl) ?h1_13 ?h2_13
     case h1_13 =>
      refine zaa (nv exD) rfl (zad rfl rfl bd rfl uN rfl (iN _)) ?_;simp only [aP,lA,lZ,lS]
      exact zak
     case h2_13 =>
      refine' zdq (m:=7) (n:=9) (k:=3) (c:=4) (g:=3) (A:=_) (L:=(marked 7 0 (Array.replicate 11 false)).setIfInBounds 8 true) zcn (by kernel_rfl) (by kernel_rfl) (by kernel_rfl) ?h1_14 ?h2_14
      case h1_14 =>
       refine zaa (dgv exH) rfl (zai (args:=[.slice (some ⟨g,0,none⟩) 6 6]) rfl rfl (fun W => zac Tryz.func13 rfl rfl _ W) (fun W hW => zdy hb' hW (kK.out.call ((hx.trans hE).trans hW)))) ?_
       refine zaa (.tuple #[gv Pt.exR Pt.exS,.nilIface]) rfl (zai (args:=[nv exD,dgv exH]) rfl rfl (fun W => zac Tryz.func7 rfl rfl _ W) (fun W hW => kS.out W (kK.out.call ((hx.trans hE).trans hW)))) ?_;simp only [aP,lA,lZ,lS]
       refine zaa (.tuple #[gv Pt.exR Pt.exS,.nilIface]) rfl (zah (.inl rfl) rfl) ?_
       refine zaa (gv Pt.exR Pt.exS) rfl (zbb rfl rfl rfl) ?_;simp only [aP,lA,lZ,lS]
       exact zak
      case h2_14 =>
       refine zdu (m:=7) (w:=w2) (v:=.nilIface) (vx:=.nilIface) (L1:=marked 10 0 (Array.replicate 11 false)) (zs:=#[vI vU 0,vI vU 0,vI vU 0,vI vU 0,vI vU 0,vI vU 0,vI vU 0,vI vU 0]) _ _ _ rfl rfl rfl rfl rfl rfl rfl rfl rfl rfl rfl (by kernel_rfl) (by kernel_rfl) (by kernel_rfl) (by kernel_rfl) (by kernel_rfl) (by kernel_rfl) (by kernel_rfl) (zcw rfl rfl rfl) rfl rfl rfl rfl rfl (iSg _ _) rfl (zce _ _) hE hpw hp ?_
       intro W' hp hW'
       exact zfk g p rfl ⟨hp,hW'⟩
 case hk =>
  rintro g p w3 ⟨hp,hE⟩
  replace hx:=hx.trans hE
  clear hE bd
  go_upto_region 3 with (fail)
  refine wp_region_lit ?_
  refine zid rfl rfl rfl hp rfl Tryz.underlying35 rfl (iSg _ _) ?_
  simp only [aP,lA,lZ,lS]
  refine wpl_fun (R:=fun v W' => Own W' w3.heap.size 5 v 64 (ptB Pt.exR Pt.exS) ∧ Ext w3 W') rfl rfl rfl (fun W => zac Tryz.func14 rfl rfl _ W) ((kB.out w3).mono fun e W' ⟨⟨v,he,ho⟩,hE⟩ => ⟨v,he,ho,hE⟩) ?_
  rintro v w4 ⟨ho,hE⟩
  simp only [aP,lA,lZ,lS]
  replace hx:=hx.trans hE
  clear hE hp
  obtain ⟨g5,c5,rfl,_,_,hpre⟩:=ho.pre (by decide)
  have c0 : w4.cell? ⟨g5,0,none⟩ = some (.int .u8 239):=(hpre.cell (by decide)).trans (congrArg some ex_b0)
  have c1 : w4.cell? ⟨g5,1,none⟩ = some (.int .u8 212):=(hpre.cell (by decide)).trans (congrArg some ex_b1)
  have c2 : w4.cell? ⟨g5,32,none⟩ = some (.int .u8 247):=(hpre.cell (by decide)).trans (congrArg some ex_b32)
  have c3 : w4.cell? ⟨g5,63,none⟩ = some (.int .u8 168):=(hpre.cell (by decide)).trans (congrArg some ex_b63)
  clear hpre ho kB kS kK
  go_wp2
  go_ret
  exact ⟨rfl,hx⟩
end Go.Proofs.YtmfjigcdhijkjaaGreatDoor
