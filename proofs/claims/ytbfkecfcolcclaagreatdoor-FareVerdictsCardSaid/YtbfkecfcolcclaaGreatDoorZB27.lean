/-
  Of KR KS UH UI Pl Pm Y0 Y1 Y5 Y7 KJ.
-/
import Derived.Deep.LoopGhost
import Derived.Deep.RegionWith
import Derived.Deep.Cut
import Derived.Deep.CutRange
import Derived.Deep.MidRow
import Derived.Laws.OwnMore
import Derived.Lib.AppendZeros
import Derived.Deep.AppendLies
import Derived.Deep.RegionHeld3
import Derived.Test.YtbfkecfcolcclaaGreatDoorZB19
import Derived.Test.YtbfkecfcolcclaaGreatDoorZB9
import Derived.Test.YtbfkecfcolcclaaGreatDoorZB14
import Derived.Test.YtbfkecfcolcclaaGreatDoorZB26
import Derived.Test.YtbfkecfcolcclaaGreatDoorZB15
import Derived.Test.YtbfkecfcolcclaaGreatDoorZB18
import Derived.Test.YtbfkecfcolcclaaGreatDoorZB5
import Derived.Test.YtbfkecfcolcclaaGreatDoorZB3
import Derived.Test.YtbfkecfcolcclaaGreatDoorZB1
import Derived.Test.YtbfkecfcolcclaaGreatDoorZB10
import Derived.Test.YtbfkecfcolcclaaGreatDoorZB16
import Derived.Test.YtbfkecfcolcclaaGreatDoorZB11
import Derived.Test.YtbfkecfcolcclaaGreatDoorZB2
import Derived.Test.YtbfkecfcolcclaaGreatDoorZB12
import Derived.Test.YtbfkecfcolcclaaGreatDoorZB4
set_option maxRecDepth 1000000
set_option maxHeartbeats 20000000
namespace Go.Proofs.YtbfkecfcolcclaaGreatDoor
open Go.RowKit
open Go.Value renaming int → vI
open Go.IntKind renaming u64 → vU
open Go.Act renaming put → aP
open List renaming setIfInBounds_toArray → lA, set_cons_zero → lZ, set_cons_succ → lS
theorem texts_len {bs : List Nat} {many : Nat} {l : List (List Nat)} (h : textsB bs many = some l) {i : Nat} (hi : i < l.length) : (l.getD i []).length ≤ 65535:=by
 unfold textsB at h
 cases hg : getFs bs with
 | none => rw [hg] at h; cases h
 | some fs =>
  rw [hg] at h
  simp only at h
  split at h
  ·
   injection h with h
   subst h
   rw [zcd] at hi
   rw [zdt]
   exact (mayFs_ok (zjt hg).2 hi).2.2.1
  ·
   cases h
theorem texts_parts {bs : List Nat} {l : List (List Nat)} (h : textsB bs 2 = some l) : partsB bs = if (l.getD 1 []).length = 64 then some (l.getD 0 [],sigR (l.getD 1 []),sigS (l.getD 1 [])) else none:=by
 unfold textsB at h
 unfold partsB
 cases hg : getFs bs with
 | none => rw [hg] at h; cases h
 | some fs =>
  rw [hg] at h
  simp only at h ⊢
  split at h
  ·
   rename_i hk
   injection h with h
   subst h
   simp only [zdt]
   by_cases hq : (bsF fs 1).length = 64
   ·
    rw [if_pos hq,if_pos]
    exact ⟨hk.1,hk.2 0 (by decide),hk.2 1 (by decide),hq⟩
   ·
    rw [if_neg hq,if_neg]
    exact fun hn => hq hn.2.2.2
  ·
   cases h
theorem texts_parts_none {bs : List Nat} (h : textsB bs 2 = none) : partsB bs = none:=by
 unfold textsB at h
 unfold partsB
 cases hg : getFs bs with
 | none => rfl
 | some fs =>
  rw [hg] at h
  simp only at h ⊢
  split at h
  ·
   cases h
  ·
   rename_i hn
   rw [if_neg]
   refine fun hk => hn ⟨hk.1,fun i hi => ?_⟩
   match i,hi with
   | 0,_ => exact hk.2.1
   | 1,_ => exact hk.2.2.1
theorem ob_no {A : Option Addr} {m c : Nat} {bs : List Nat} (hm : m = bs.length) (hmc : m ≤ c) (hle : m ≤ 100000000) (h : obB bs = none) (w : World) (hS : Bs w A bs) :
  Calls Tryz.prog 63 #[.slice A m c] w fun e w' => e = .returned (.tuple #[.agg (tkC ⟨0,0,0,0,0⟩),.iface 38 (.int .i64 2)]) ∧ Ext w w' :=
 (zgr A m c bs hm hmc hle w hS).mono fun _ _ ⟨T,ev,he,hE,hA⟩ => by
  rcases hA with ⟨_,rfl,rfl⟩ | ⟨t,h1,_⟩
  ·
   exact ⟨he,hE⟩
  ·
   rw [h] at h1; cases h1
theorem ob_yes {A : Option Addr} {m c : Nat} {bs : List Nat} {t : Tk} (hm : m = bs.length) (hmc : m ≤ c) (hle : m ≤ 100000000) (h : obB bs = some t) (w : World) (hS : Bs w A bs) :
  Calls Tryz.prog 63 #[.slice A m c] w fun e w' => e = .returned (.tuple #[.agg (tkC t),.nilIface]) ∧ Ext w w' :=
 (zgr A m c bs hm hmc hle w hS).mono fun _ _ ⟨T,ev,he,hE,hA⟩ => by
  rcases hA with ⟨h1,_⟩ | ⟨t',h1,rfl,rfl⟩
  ·
   rw [h] at h1; cases h1
  ·
   rw [h] at h1
   injection h1 with h1
   subst h1
   exact ⟨he,hE⟩
theorem open9_calls (C : CodeL) (A : Option Addr) (m c : Nat) (bs : List Nat) (hm : m = bs.length) (hmc : m ≤ c) (hle : m ≤ 100000000) (w : World) (hS : Bs w A bs) :
  Calls Tryz.prog 32 #[.slice A m c] w fun e w' => ∃ T G ev,e = .returned (.tuple #[.agg T,.agg G,ev]) ∧ Ext w w' ∧ OpenC bs T G ev:=by
 have KG:=veil (fun W (hW : Bs W A bs) => tget_calls A m c bs 2 hm hmc hle (by decide) W hW)
 have k2:=neNil2
 have k3:=neNilN
 have HB:=veil hS
 clear hm hmc hle hS
 go_enter Tryz.func32,Tryz.ntmps32
 go_upto_region 1 with (fail)
 obtain ⟨g2,hg2⟩ : ∃ g,g = w.heap.size:=⟨_,rfl⟩
 obtain ⟨g3,hg3⟩ : ∃ g,g = w.heap.size + 1:=⟨_,rfl⟩
 obtain ⟨w0,hw0⟩ : ∃ W,W = (w.alloc (.cells TZ 24)).alloc (.cells Z8 69):=⟨_,rfl⟩
 have h2:=(zat w (.cells TZ 24) (.cells Z8 69)).1
 have h3:=(zat w (.cells TZ 24) (.cells Z8 69)).2
 have hE0:=zdy w (.cells TZ 24) (.cells Z8 69)
 rw [← hw0,← hg2] at h2
 rw [← hw0,← hg3] at h3
 rw [← hw0] at hE0
 have H0:=veil (And.intro hE0 (And.intro h2 (And.intro h3 (And.intro (show w.heap.size ≤ g2 by omega) (show g2 < g3 by omega)))))
 unfold TZ Z8 at hw0
 rw [← hw0,← hg3,← hg2]
 clear hw0 hg3 hg2 hE0 h2 h3
 go_upto_region 2 with (go_at_call 62; refine (KG.out w0 (HB.out.ext H0.out.1)).mono ?_; rintro e w1 ⟨x,ev,rfl,hE1,hA⟩)
 have H1:=veil (And.intro (H0.out.1.trans hE1) (And.intro (hE1.block H0.out.2.1) (And.intro (hE1.block H0.out.2.2.1) H0.out.2.2.2)))
 clear hE1 H0 KG
 rcases hA with ⟨hn,⟨A2,c2,rfl⟩,rfl⟩ | ⟨l,hs,hl2,hV,rfl⟩
 ·
  have hr:=zfw (texts_parts_none hn)
  clear hn
  go_wp2_with (first
   | ((with_reducible refine zac ?_); refine wpList_store_row rfl 24 _ _ rfl g2 TZ rfl rfl 24 _ H1.out.2.1 iTZ rfl zbr ?_)
   | ((with_reducible refine zac ?_); refine wpList_store_row rfl 69 _ _ rfl g3 Z8 rfl rfl 69 _ (zcg TZ H1.out.2.2.1 H1.out.2.2.2.2) iZ8 rfl zdv ?_))
  have hF:=zbx (T:=TZ) (G:=Z8) H1.out.1 H1.out.2.1 H1.out.2.2.1 ⟨H1.out.2.2.2.1,H1.out.2.2.2.2⟩
  refine bodyPost_ret (zay rfl _ _ g2 g3 24 69 TZ Z8 (0,0) (0,0) _ _ rfl hF.2.1 Tryz.underlying24 rfl iTZ rfl hF.2.2 Tryz.underlying69 rfl iZ8) rfl ⟨_,_,_,rfl,hF.1,.inl ⟨hr,tz_tk,z8_gc,rfl⟩⟩
 ·
  have hpt:=texts_parts hs
  have hx0:=texts_len hs (i:=0) (by omega)
  obtain ⟨_,AL,cl,rfl,hcl,hx⟩:=hV
  rw [hl2] at hx hcl ⊢
  obtain ⟨b,o,hAL,hb,hx⟩:=hx.resolve_left (by decide)
  obtain ⟨A0,k0,c0,hk0,hB0⟩:=hx 0 (by decide)
  obtain ⟨A1,k1,c1,hk1,hB1⟩:=hx 1 (by decide)
  obtain ⟨x0,hx0e⟩ : ∃ x,x = l.getD 0 []:=⟨_,rfl⟩
  obtain ⟨x1,hx1e⟩ : ∃ x,x = l.getD 1 []:=⟨_,rfl⟩
  rw [← hx0e,← hx1e] at hpt
  rw [← hx0e] at c0 hk0 hB0 hx0
  rw [← hx1e] at c1 hk1 hB1
  obtain ⟨L0,hL0⟩ : ∃ L,L = x0.length:=⟨_,rfl⟩
  obtain ⟨L1,hL1⟩ : ∃ L,L = x1.length:=⟨_,rfl⟩
  rw [← hL0] at c0 hk0 hx0
  rw [← hL1] at c1 hk1 hpt
  have HP:=veil hpt
  have HL1:=veil (And.intro hL1 hk1)
  rw [Nat.add_zero] at c0
  subst hAL
  clear hx hs hx0e hx1e hpt
  cases hob : obB x0 with
  | none =>
   have KO:=veil (fun W (hW : Bs W A0 x0) => ob_no hL0 hk0 (by omega) hob W hW)
   have hr : openB bs = none:=by
    have h:=HP.out
    split at h
    ·
     rw [openB_ob h,hob]; rfl
    ·
     exact zfw h
   have HR:=veil hr
   have HB0:=veil hB0
   clear hob hr HP hB0 hB1 hk0 hk1 hx0 hL0 hL1
   go_upto_region 5 with (first
    | (go_at_call 63; refine (KO.out _ HB0.out).mono ?_; rintro e w2 ⟨rfl,hE2⟩)
    | ((with_reducible refine zac ?_); refine wpList_store_row rfl 24 _ _ rfl w2.heap.size (tkC ⟨0,0,0,0,0⟩) rfl rfl 24 _ (zab w2 _) (iTk _) rfl (zbd _) ?_; rw [World.setRow_alloc_new]))
   have hE3:=hE2.trans (Ext.alloc w2 (.cells (tkC ⟨0,0,0,0,0⟩) 24))
   generalize w2.alloc (.cells (tkC ⟨0,0,0,0,0⟩) 24) = w3 at *
   have H3:=veil (And.intro (H1.out.1.trans hE3) (And.intro (hE3.block H1.out.2.1) (And.intro (hE3.block H1.out.2.2.1) trivial)))
   clear hE3 c0 c1 hE2
   go_wp2_with (first
    | ((with_reducible refine zac ?_); refine wpList_store_row rfl 24 _ _ rfl g2 TZ rfl rfl 24 _ H3.out.2.1 iTZ rfl zbr ?_)
    | ((with_reducible refine zac ?_); refine wpList_store_row rfl 69 _ _ rfl g3 Z8 rfl rfl 69 _ (zcg TZ H3.out.2.2.1 H1.out.2.2.2.2) iZ8 rfl zdv ?_))
   have hF:=zbx (T:=TZ) (G:=Z8) H3.out.1 H3.out.2.1 H3.out.2.2.1 ⟨H1.out.2.2.2.1,H1.out.2.2.2.2⟩
   refine bodyPost_ret (zay rfl _ _ g2 g3 24 69 TZ Z8 (0,0) (0,0) _ _ rfl hF.2.1 Tryz.underlying24 rfl iTZ rfl hF.2.2 Tryz.underlying69 rfl iZ8) rfl ⟨_,_,_,rfl,hF.1,.inl ⟨HR.out,tz_tk,z8_gc,rfl⟩⟩
  | some t =>
   have KO:=veil (fun W (hW : Bs W A0 x0) => ob_yes hL0 hk0 (by omega) hob W hW)
   have HOB:=veil hob
   have HB0:=veil (And.intro hB0 hB1)
   clear hob hB0 hB1 hk0 hk1 hx0 hL0 hL1
   go_upto_region 5 with (first
    | (go_at_call 63; refine (KO.out _ HB0.out.1).mono ?_; rintro e w2 ⟨rfl,hE2⟩)
    | ((with_reducible refine zac ?_); refine wpList_store_row rfl 24 _ _ rfl w2.heap.size (tkC t) rfl rfl 24 _ (zab w2 _) (iTk _) rfl (zbd _) ?_; rw [World.setRow_alloc_new]))
   have hE3:=hE2.trans (Ext.alloc w2 (.cells (tkC t) 24))
   have h7:=zab w2 (.cells (tkC t) 24)
   generalize w2.alloc (.cells (tkC t) 24) = w3 at *
   generalize w2.heap.size = g7 at *
   have H3:=veil (And.intro (H1.out.1.trans hE3) (And.intro (hE3.block H1.out.2.1) (And.intro (hE3.block H1.out.2.2.1) (And.intro h7 hE3))))
   replace c1:=(hE3.cell hb).trans c1
   clear hE3 h7 c0 hE2 KO
   by_cases h64 : L1 = 64
   ·
    have KP:=veil (fun W (hW : Bs W A1 x1) => C.parse_64 A1 L1 k1 x1 W HL1.out.1 h64 HL1.out.2 hW)
    have hp:=HP.out
    rw [if_pos h64] at hp
    have hr : openB bs = some (t,sigR x1,sigS x1):=by rw [openB_ob hp,HOB.out]; rfl
    have HR:=veil hr
    clear hp hr h64 HP HOB HL1
    go_upto_region 8 with (first
     | (go_at_call 64; refine (KP.out _ (HB0.out.2.ext H3.out.2.2.2.2)).mono ?_; rintro e w4 ⟨rfl,hE4⟩)
     | ((with_reducible refine zac ?_); refine wpList_store_row rfl 69 _ _ rfl w4.heap.size (gc (sigR x1) (sigS x1)) rfl rfl 69 _ (zab w4 _) (iSg _ _) rfl (zcm _ _) ?_; rw [World.setRow_alloc_new]))
    have hE5:=hE4.trans (Ext.alloc w4 (.cells (gc (sigR x1) (sigS x1)) 69))
    have h8:=zab w4 (.cells (gc (sigR x1) (sigS x1)) 69)
    have h38 : g3 < w4.heap.size:=by
     have h:=(Array.getElem?_eq_some_iff.mp (hE4.block H3.out.2.2.1)).1
     omega
    generalize w4.alloc (.cells (gc (sigR x1) (sigS x1)) 69) = w5 at *
    generalize w4.heap.size = g8 at *
    have H7:=veil (And.intro (H3.out.1.trans hE5) (And.intro (hE5.block H3.out.2.1) (And.intro (hE5.block H3.out.2.2.1) (And.intro h8 (And.intro (hE5.block H3.out.2.2.2.1) (And.intro H1.out.2.2.2.1 (And.intro H1.out.2.2.2.2 h38)))))))
    clear hE5 h8 h38 hE4 c1 hb H3 H1 HB0 KP
    go_upto_region 10 with (fail)
    have n26 : g8 ≠ g2:=by have h:=H7.out.2.2.2.2.2.2; omega
    have n32 : g3 ≠ g2:=by have h:=H7.out.2.2.2.2.2.2; omega
    refine wp_tree (by kernel_rfl) fun Q' hQ' => ?_
    refine G_two (i:=0) (j:=1) (by kernel_rfl) ?_ ?_
    ·
     refine G_val _ rfl rfl rfl (fun W hW => zaw rfl rfl (hW.block H7.out.2.2.2.2.1) Tryz.underlying24 rfl (iTk t)) ?_
     simp only [aP,lA,lZ,lS]
     refine G_two (i:=1) (j:=2) (by kernel_rfl) ?_ ?_
     ·
      refine G_val _ rfl rfl rfl (fun W hW => zaw rfl rfl (hW.block (H7.out.2.2.2.1)) Tryz.underlying69 rfl (iSg _ _)) ?_
      simp only [aP,lA,lZ,lS]
      refine G_one (j:=2) (by kernel_rfl) ?_
      refine zcs (cells:=tkC t) _ rfl rfl rfl rfl rfl rfl H7.out.2.1 (iTk t) rfl (zbd t) ?_
      intro W8 hB8 h8
      refine G_one (j:=3) (by kernel_rfl) ?_
      refine zcs (cells:=gc (sigR x1) (sigS x1)) _ rfl rfl rfl rfl rfl rfl (zez hB8 H7.out.2.2.1 n32) (iSg _ _) rfl (zcm _ _) ?_
      intro W9 hB9 h9
      refine G_one (j:=4) (by kernel_rfl) ?_
      refine G_val _ rfl rfl rfl (fun W hW => zbv rfl rfl W) ?_
      simp only [aP,lA,lZ,lS]
      refine G_end (by kernel_rfl) hQ' fun W10 hE10 => ?_
      have hF:=zfd H7.out.1 ⟨H7.out.2.2.2.2.2.1,H7.out.2.2.2.2.2.2.1⟩ hB8 h8 hB9 h9 hE10
      clear hB8 h8 hB9 h9 hE10 n26 n32
      go_wp2
      refine bodyPost_ret (zay rfl _ _ g2 g3 24 69 (tkC t) (gc (sigR x1) (sigS x1)) (0,0) (0,0) _ _ rfl hF.2.1 Tryz.underlying24 rfl (iTk t) rfl hF.2.2 Tryz.underlying69 rfl (iSg _ _)) rfl ⟨_,_,_,rfl,hF.1,.inr ⟨_,_,_,HR.out,rfl,rfl,rfl⟩⟩
     ·
      refine zcs (cells:=tkC t) _ rfl rfl rfl rfl rfl rfl H7.out.2.1 (iTk t) rfl (zbd t) ?_
      intro W8 hB8 h8
      refine G_one (j:=1) (by kernel_rfl) ?_
      refine G_val _ rfl rfl rfl (fun W hW => zaw rfl rfl (hW.block (zez hB8 H7.out.2.2.2.1 n26)) Tryz.underlying69 rfl (iSg _ _)) ?_
      simp only [aP,lA,lZ,lS]
      refine G_one (j:=3) (by kernel_rfl) ?_
      refine zcs (cells:=gc (sigR x1) (sigS x1)) _ rfl rfl rfl rfl rfl rfl (zez hB8 H7.out.2.2.1 n32) (iSg _ _) rfl (zcm _ _) ?_
      intro W9 hB9 h9
      refine G_one (j:=4) (by kernel_rfl) ?_
      refine G_val _ rfl rfl rfl (fun W hW => zbv rfl rfl W) ?_
      simp only [aP,lA,lZ,lS]
      refine G_end (by kernel_rfl) hQ' fun W10 hE10 => ?_
      have hF:=zfd H7.out.1 ⟨H7.out.2.2.2.2.2.1,H7.out.2.2.2.2.2.2.1⟩ hB8 h8 hB9 h9 hE10
      clear hB8 h8 hB9 h9 hE10 n26 n32
      go_wp2
      refine bodyPost_ret (zay rfl _ _ g2 g3 24 69 (tkC t) (gc (sigR x1) (sigS x1)) (0,0) (0,0) _ _ rfl hF.2.1 Tryz.underlying24 rfl (iTk t) rfl hF.2.2 Tryz.underlying69 rfl (iSg _ _)) rfl ⟨_,_,_,rfl,hF.1,.inr ⟨_,_,_,HR.out,rfl,rfl,rfl⟩⟩
    ·
     refine G_val _ rfl rfl rfl (fun W hW => zaw rfl rfl (hW.block (H7.out.2.2.2.1)) Tryz.underlying69 rfl (iSg _ _)) ?_
     simp only [aP,lA,lZ,lS]
     refine G_one (j:=0) (by kernel_rfl) ?_
     refine G_val _ rfl rfl rfl (fun W hW => zaw rfl rfl (hW.block H7.out.2.2.2.2.1) Tryz.underlying24 rfl (iTk t)) ?_
     simp only [aP,lA,lZ,lS]
     refine G_one (j:=2) (by kernel_rfl) ?_
     refine zcs (cells:=tkC t) _ rfl rfl rfl rfl rfl rfl H7.out.2.1 (iTk t) rfl (zbd t) ?_
     intro W8 hB8 h8
     refine G_one (j:=3) (by kernel_rfl) ?_
     refine zcs (cells:=gc (sigR x1) (sigS x1)) _ rfl rfl rfl rfl rfl rfl (zez hB8 H7.out.2.2.1 n32) (iSg _ _) rfl (zcm _ _) ?_
     intro W9 hB9 h9
     refine G_one (j:=4) (by kernel_rfl) ?_
     refine G_val _ rfl rfl rfl (fun W hW => zbv rfl rfl W) ?_
     simp only [aP,lA,lZ,lS]
     refine G_end (by kernel_rfl) hQ' fun W10 hE10 => ?_
     have hF:=zfd H7.out.1 ⟨H7.out.2.2.2.2.2.1,H7.out.2.2.2.2.2.2.1⟩ hB8 h8 hB9 h9 hE10
     clear hB8 h8 hB9 h9 hE10 n26 n32
     go_wp2
     refine bodyPost_ret (zay rfl _ _ g2 g3 24 69 (tkC t) (gc (sigR x1) (sigS x1)) (0,0) (0,0) _ _ rfl hF.2.1 Tryz.underlying24 rfl (iTk t) rfl hF.2.2 Tryz.underlying69 rfl (iSg _ _)) rfl ⟨_,_,_,rfl,hF.1,.inr ⟨_,_,_,HR.out,rfl,rfl,rfl⟩⟩
   ·
    have KP:=veil (fun W => C.parse_odd A1 L1 k1 W h64)
    have hp:=HP.out
    rw [if_neg h64] at hp
    have hr:=zfw hp
    have HR:=veil hr
    clear hp hr h64 HP HOB HL1 HB0
    go_upto_region 8 with (first
     | (go_at_call 64; refine (KP.out _).mono ?_; rintro e w4 ⟨rfl,hE4⟩)
     | ((with_reducible refine zac ?_); refine wpList_store_row rfl 69 _ _ rfl w4.heap.size (gc 0 0) rfl rfl 69 _ (zab w4 _) (iSg _ _) rfl (zcm _ _) ?_; rw [World.setRow_alloc_new]))
    have hE5:=hE4.trans (Ext.alloc w4 (.cells (gc 0 0) 69))
    generalize w4.alloc (.cells (gc 0 0) 69) = w5 at *
    have H5:=veil (And.intro (H3.out.1.trans hE5) (And.intro (hE5.block H3.out.2.1) (And.intro (hE5.block H3.out.2.2.1) trivial)))
    clear hE5 hE4 c1
    go_wp2_with (first
     | ((with_reducible refine zac ?_); refine wpList_store_row rfl 24 _ _ rfl g2 TZ rfl rfl 24 _ H5.out.2.1 iTZ rfl zbr ?_)
     | ((with_reducible refine zac ?_); refine wpList_store_row rfl 69 _ _ rfl g3 Z8 rfl rfl 69 _ (zcg TZ H5.out.2.2.1 H1.out.2.2.2.2) iZ8 rfl zdv ?_))
    have hF:=zbx (T:=TZ) (G:=Z8) H5.out.1 H5.out.2.1 H5.out.2.2.1 ⟨H1.out.2.2.2.1,H1.out.2.2.2.2⟩
    refine bodyPost_ret (zay rfl _ _ g2 g3 24 69 TZ Z8 (0,0) (0,0) _ _ rfl hF.2.1 Tryz.underlying24 rfl iTZ rfl hF.2.2 Tryz.underlying69 rfl iZ8) rfl ⟨_,_,_,rfl,hF.1,.inl ⟨HR.out,tz_tk,z8_gc,rfl⟩⟩
theorem openC_all {bs : List Nat} {T G : Array Value} {ev : Value} (h : OpenC bs T G ev) : ∃ t r s,T = tkC t ∧ G = gc r s ∧ ((openB bs = none ∧ ev = .iface 38 (.int .i64 2)) ∨ (openB bs = some (t,r,s) ∧ ev = .nilIface)):=by
 rcases h with ⟨h,rfl,rfl,rfl⟩ | ⟨t,r,s,h,rfl,rfl,rfl⟩
 ·
  exact ⟨_,_,_,rfl,rfl,.inl ⟨h,rfl⟩⟩
 ·
  exact ⟨_,_,_,rfl,rfl,.inr ⟨h,rfl⟩⟩
theorem bodyA_ok {w' : World} {t : Tk} {x ev : Value} (h : BodyA w' t x ev) (hm : mayT t = true) : ∃ A c,x = .slice A 55 c ∧ 55 ≤ c ∧ Bs w' A (tkB t) ∧ ev = .nilIface:=by
 rcases h with ⟨h,_⟩ | ⟨_,⟨A,c,e,hc,hB⟩,he⟩
 ·
  rw [hm] at h; cases h
 ·
  exact ⟨A,c,e,hc,hB,he⟩
theorem check9_calls (C : CodeL) (X Y : Nat) (f : Bool) (hX : X < top) (hY : Y < top) (A : Option Addr) (m c : Nat) (bs : List Nat) (hm : m = bs.length) (hmc : m ≤ c) (hle : m ≤ 100000000) (w : World) (hK : KT w) (hS : Bs w A bs) :
  Calls Tryz.prog 34 #[.slice A m c,qv X Y f] w fun e w' => e = .returned (.tuple #[tkV (checkB lowL X Y f bs).1,errV (checkB lowL X Y f bs).2]) ∧ Ext w w':=by
 have KO:=veil (fun W => open9_calls C A m c bs hm hmc hle W)
 have k2:=neNil2
 have k3:=neNilN
 have HB:=veil (And.intro hS hK)
 have HX:=veil (And.intro hX hY)
 obtain ⟨Q,hC⟩ : ∃ C,C = qc X Y f:=⟨_,rfl⟩
 have HC:=veil (And.intro hC (And.intro (show (Tryz.prog.info? 60).map (·.size) = some Q.size by rw [hC]; exact iT X Y f) (show Q.all (·.oneCell') = true by rw [hC]; exact zgm X Y f)))
 unfold qv
 rw [← hC]
 clear hm hmc hle hS hX hY hC hK
 go_enter Tryz.func34,Tryz.ntmps34
 go_upto_region 1 with (fail)
 obtain ⟨g3,hg3⟩ : ∃ g,g = w.heap.size:=⟨_,rfl⟩
 obtain ⟨g4,hg4⟩ : ∃ g,g = w.heap.size + 1:=⟨_,rfl⟩
 obtain ⟨w0,hw0⟩ : ∃ W,W = (w.alloc (.cells Q 60)).alloc (.cells TZ 24):=⟨_,rfl⟩
 have h3:=(zat w (.cells Q 60) (.cells TZ 24)).1
 have h4:=(zat w (.cells Q 60) (.cells TZ 24)).2
 have hE0:=zdy w (.cells Q 60) (.cells TZ 24)
 rw [← hw0,← hg3] at h3
 rw [← hw0,← hg4] at h4
 rw [← hw0] at hE0
 have H0:=veil (And.intro hE0 (And.intro h3 (And.intro h4 (And.intro (show w.heap.size ≤ g4 by omega) (HB.out.1.ext hE0)))))
 unfold TZ at hw0
 rw [← hw0,← hg4,← hg3]
 clear hw0 hg3 hg4 hE0 h3 h4
 go_upto_region 2 with (first
  | (go_at_call 32; refine (KO.out w0 H0.out.2.2.2.2).mono ?_; rintro e w1 ⟨T,G,ev,rfl,hE1,hA⟩; obtain ⟨t,r,s,rfl,rfl,hY⟩:=openC_all hA)
  | ((with_reducible refine zac ?_); refine wpList_store_row rfl 24 _ _ rfl w1.heap.size (tkC t) rfl rfl 24 _ (zat w1 _ _).1 (iTk t) rfl (zbd t) ?_)
  | ((with_reducible refine zac ?_); refine wpList_store_row rfl 69 _ _ rfl (w1.heap.size + 1) (gc r s) rfl rfl 69 _ (zcg _ (zat w1 _ _).2 (Nat.lt_succ_self _)) (iSg r s) rfl (zcm r s) ?_))
 have hF:=zbx (T:=tkC t) (G:=gc r s) (zdy w1 (.cells TZ 24) (.cells Z8 69)) (zat w1 _ _).1 (zat w1 _ _).2 ⟨Nat.le_refl _,Nat.lt_succ_self _⟩
 have hE0:=H0.out.1.trans hE1
 have h31:=(hE1.trans hF.1).block H0.out.2.1
 have h41:=(hE1.trans hF.1).block H0.out.2.2.1
 have hE2:=hE0.trans hF.1
 have h6:=hF.2.1
 have h7:=hF.2.2
 clear hF hE0 hE1 hA
 obtain ⟨g6,hg6⟩ : ∃ g,g = w1.heap.size:=⟨_,rfl⟩
 obtain ⟨g7,hg7⟩ : ∃ g,g = w1.heap.size + 1:=⟨_,rfl⟩
 rw [← hg7,← hg6] at hE2 h6 h7 h31 h41 ⊢
 obtain ⟨w2,hw2⟩ : ∃ W,W = (((w1.alloc (.cells TZ 24)).alloc (.cells Z8 69)).setRow g6 (tkC t)).setRow g7 (gc r s):=⟨_,rfl⟩
 rw [← hw2] at hE2 h6 h7 h31 h41
 unfold TZ Z8 at hw2
 rw [← hw2]
 have H2:=veil (And.intro hE2 (And.intro h31 (And.intro h41 (And.intro h6 (And.intro h7 H0.out.2.2.2.1)))))
 have HY:=veil hY
 clear hw2 hg6 hg7 hE2 h31 h41 h6 h7 hY KO H0
 rcases HY.out with ⟨hp,rfl⟩ | ⟨hp,rfl⟩
 ·
  have hr:=checkB_none (L:=lowL) (X:=X) (Y:=Y) (f:=f) hp
  clear HY hp
  go_wp2_with ((with_reducible refine zac ?_); refine wpList_store_row rfl 24 _ _ rfl g4 TZ rfl rfl 24 _ H2.out.2.2.1 iTZ rfl zbr ?_)
  refine bodyPost_ret (zaj rfl _ _ g4 24 TZ (0,0) _ rfl (setRow_heap w2 g4 _ TZ 24 (0,0) H2.out.2.2.1) Tryz.underlying24 rfl iTZ) rfl ⟨by rw [hr]; rfl,zae H2.out.1 H2.out.2.2.2.2.2 _⟩
 ·
  have hr : checkB lowL X Y f bs = if vfL X Y f (dgL (tkB t)) r s = true then (t,0) else (⟨0,0,0,0,0⟩,8):=zex (L:=lowL) (X:=X) (Y:=Y) (f:=f) hp
  have hso:=zgi HB.out.1.1 hp
  have HR:=veil hr
  have HO:=veil hso
  have KB:=veil (fun W => body9_calls t W)
  unfold tkV at KB
  clear HY hp hr hso
  go_upto_region 5 with (first
   | ((with_reducible refine zaa 22 ?_); refine wpList_load_row rfl 24 _ rfl g6 rfl 24 (tkC t) (0,0) _ H2.out.2.2.2.1 Tryz.underlying24 rfl (iTk t) ?_)
   | (go_at_call 65; refine (KB.out _).mono ?_; rintro e w4 ⟨x,ev,rfl,hE4,hA⟩; obtain ⟨A2,c2,rfl,hc2,hB4,rfl⟩:=bodyA_ok hA HO.out.2.1))
  have H4:=veil (And.intro (H2.out.1.trans hE4) (And.intro (hE4.block H2.out.2.1) (And.intro (hE4.block H2.out.2.2.1) (And.intro (hE4.block H2.out.2.2.2.1) (And.intro (hE4.block H2.out.2.2.2.2.1) (And.intro H2.out.2.2.2.2.2 hB4))))))
  clear hE4 hB4 H2 KB hA
  obtain ⟨v,hv⟩ : ∃ v,v = vfL X Y f (dgL (tkB t)) r s:=⟨_,rfl⟩
  have KS:=veil (fun W (hW : Ext w4 W) => C.sum A2 55 c2 (tkB t) W (kt_now HB.out.2 (H4.out.1.trans hW)) (tkB_length t).symm hc2 (by decide) (H4.out.2.2.2.2.2.2.ext hW))
  have KV : Hid (∀ W : World,Calls Tryz.prog 66 #[.agg Q,dgv (dgL (tkB t)),.agg (gc r s)] W fun e w' => e = .returned (.bool v) ∧ Ext W w'):=veil (fun W => by
   have h:=C.ver X Y f (dgL (tkB t)) r s W HX.out.1 HX.out.2 (by have:=HO.out.2.2.2.1; exact this) (by have:=HO.out.2.2.2.2; exact this) (dgL_lt _)
   unfold qv gv at h
   rw [← HC.out.1,← hv] at h
   exact h)
  have HV:=veil hv
  clear hv
  refine zds 6 [(true,[0,1,2,3,4,5])] (by kernel_rfl) (by kernel_rfl) fun Q' hQ' => ?_
  refine' zbs (A:=_) _ rfl (by kernel_rfl) ?h1 ?h2
  case h1 =>
   intro D hD hN
   have K1:=veil (fun x : Gw D => hD.calls (v:=dgv (dgL (tkB t))) (fun W hW => KS.out W hW) x)
   have K2:=veil (fun x : Gw D => hD.calls (v:=.bool v) (fun W _ => KV.out W) x)
   simp only [pickI,consO,List.getElem?_cons_zero,List.getElem?_cons_succ]
   go_big_quiet_want
   refine zch (.agg Q) (fun x => zaw rfl rfl (hD.block H4.out.2.1 x) Tryz.underlying60 rfl HC.out.2.1) ?_
   simp only [aP,lA,lZ,lS]
   go_big_quiet_on
   iterate 2 (go_big_quiet_step (exact K1.out _))
   go_big_quiet_want
   refine zch (.agg (gc r s)) (fun x => zaw rfl rfl (hD.block H4.out.2.2.2.2.1 x) Tryz.underlying69 rfl (iSg r s)) ?_
   simp only [aP,lA,lZ,lS]
   go_big_quiet_on
   iterate 2 (go_big_quiet_step (exact K2.out _))
   exact zcx
  refine zcu hQ' fun w5 hE5 => ?_
  have H5:=veil (And.intro (H4.out.1.trans hE5) (And.intro (hE5.block H4.out.2.2.1) (And.intro (hE5.block H4.out.2.2.2.1) H4.out.2.2.2.2.2.1)))
  clear hE5 H4 KS KV
  cases v with
  | false =>
   have hr : checkB lowL X Y f bs = (⟨0,0,0,0,0⟩,8):=by rw [HR.out,← HV.out]; rfl
   go_wp2_with ((with_reducible refine zac ?_); refine wpList_store_row rfl 24 _ _ rfl g4 TZ rfl rfl 24 _ H5.out.2.1 iTZ rfl zbr ?_)
   refine bodyPost_ret (zaj rfl _ _ g4 24 TZ (0,0) _ rfl (setRow_heap w5 g4 _ TZ 24 (0,0) H5.out.2.1) Tryz.underlying24 rfl iTZ) rfl ⟨by rw [hr]; rfl,zae H5.out.1 H5.out.2.2.2 _⟩
  | true =>
   have hr : checkB lowL X Y f bs = (t,0):=by rw [HR.out,← HV.out]; rfl
   go_wp2_with (first
    | ((with_reducible refine zaa 34 ?_); refine wpList_load_row rfl 24 _ rfl g6 rfl 24 (tkC t) (0,0) _ H5.out.2.2.1 Tryz.underlying24 rfl (iTk t) ?_)
    | ((with_reducible refine zac ?_); refine wpList_store_row rfl 24 _ _ rfl g4 (tkC t) rfl rfl 24 _ H5.out.2.1 (iTk t) rfl (zbd t) ?_))
   refine bodyPost_ret (zaj rfl _ _ g4 24 (tkC t) (0,0) _ rfl (setRow_heap w5 g4 _ (tkC t) 24 (0,0) H5.out.2.1) Tryz.underlying24 rfl (iTk t)) rfl ⟨by rw [hr]; rfl,zae H5.out.1 H5.out.2.2.2 _⟩
theorem kcheck_calls (C : CodeL) (v : Value) (l : List Ky) (at_ : Int) (A : Option Addr) (m c : Nat) (bs : List Nat) (w : World) (hK : KT w) (hF : Ks w v l) (hT : TopK l) (hL : l.length ≤ 1000000000) (hm : m = bs.length) (hmc : m ≤ c) (hle : m ≤ 100000000) (hS : Bs w A bs) :
  Calls Tryz.prog 17 #[v,.slice A m c,.int .i64 at_] w fun e w' => e = .returned (.tuple #[tkV (checkC lowL l bs at_).1,errV (checkC lowL l bs at_).2]) ∧ Ext w w':=by
 have KM:=veil (fun W (hW : Ks W v l) => may10_calls v l W hW hT hL)
 have KO:=veil (fun W => open9_calls C A m c bs hm hmc hle W)
 have KF:=veil (fun id W (hW : Ks W v l) => find_calls v l id at_ W hW hL)
 have KC:=veil (fun X Y f hX hY W hKW => check9_calls C X Y f hX hY A m c bs hm hmc hle W hKW)
 have k2:=neNil2
 have k3:=neNilN
 have HB:=veil (And.intro hF (And.intro hS (And.intro hK hT)))
 obtain ⟨R,hR⟩ : ∃ R,R = checkC lowL l bs at_:=⟨_,rfl⟩
 rw [← hR]
 unfold checkC at hR
 clear hm hmc hle hS hF hT hL hK
 go_enter Tryz.func17,Tryz.ntmps17
 go_upto_region 1 with (fail)
 obtain ⟨g,hg⟩ : ∃ g,g = w.heap.size:=⟨_,rfl⟩
 obtain ⟨w0,hw0⟩ : ∃ W,W = w.alloc (.cells TZ 24):=⟨_,rfl⟩
 have h0:=zab w (.cells TZ 24)
 have hE0:=Ext.alloc w (.cells TZ 24)
 rw [← hw0] at hE0
 rw [← hw0,← hg] at h0
 have H0:=veil (And.intro hE0 (And.intro h0 (show w.heap.size ≤ g by omega)))
 unfold TZ at hw0
 rw [← hw0,← hg]
 clear hw0 hg h0 hE0
 generalize mayK l = r at *
 cases r with
 | false =>
  obtain rfl : R = (⟨0,0,0,0,0⟩,1):=hR
  go_upto_region 2 with (go_at_call 31; refine (KM.out _ (HB.out.1.ext H0.out.1)).mono ?_; rintro e w1 ⟨rfl,hE1⟩)
  have H1:=veil (And.intro (H0.out.1.trans hE1) (hE1.block H0.out.2.1))
  clear hE1
  go_wp2_with ((with_reducible refine zac ?_); refine wpList_store_row rfl 24 _ _ rfl g TZ rfl rfl 24 _ H1.out.2 iTZ rfl zbr ?_)
  refine bodyPost_ret (zaj rfl _ _ g 24 TZ (0,0) _ rfl (setRow_heap w1 g _ TZ 24 (0,0) H1.out.2) Tryz.underlying24 rfl iTZ) rfl ⟨rfl,zae H1.out.1 H0.out.2.2 _⟩
 | true =>
  have hR : R = kcheckB lowL l bs at_:=hR
  have HR:=veil hR
  clear hR
  go_upto_region 3 with (go_at_call 31; refine (KM.out _ (HB.out.1.ext H0.out.1)).mono ?_; rintro e w1 ⟨rfl,hE1⟩)
  have H1:=veil (And.intro (H0.out.1.trans hE1) (hE1.block H0.out.2.1))
  clear hE1 KM
  go_upto_region 4 with (first
   | (go_at_call 32; refine (KO.out w1 (HB.out.2.1.ext H1.out.1)).mono ?_; rintro e w2 ⟨T,G,ev,rfl,hE2,hA⟩; obtain ⟨t,r,s,rfl,rfl,hY⟩:=openC_all hA)
   | ((with_reducible refine zac ?_); refine wpList_store_row rfl 24 _ _ rfl w2.heap.size (tkC t) rfl rfl 24 _ (zat w2 _ _).1 (iTk t) rfl (zbd t) ?_)
   | ((with_reducible refine zac ?_); refine wpList_store_row rfl 69 _ _ rfl (w2.heap.size + 1) (gc r s) rfl rfl 69 _ (zcg _ (zat w2 _ _).2 (Nat.lt_succ_self _)) (iSg r s) rfl (zcm r s) ?_))
  have hF:=zbx (T:=tkC t) (G:=gc r s) (zdy w2 (.cells TZ 24) (.cells Z8 69)) (zat w2 _ _).1 (zat w2 _ _).2 ⟨Nat.le_refl _,Nat.lt_succ_self _⟩
  have hE3:=H1.out.1.trans (hE2.trans hF.1)
  have hb3:=(hE2.trans hF.1).block H1.out.2
  have h8:=hF.2.1
  clear hF hE2 hA
  obtain ⟨g8,hg8⟩ : ∃ g,g = w2.heap.size:=⟨_,rfl⟩
  obtain ⟨g9,hg9⟩ : ∃ g,g = w2.heap.size + 1:=⟨_,rfl⟩
  rw [← hg9,← hg8] at hE3 hb3 h8 ⊢
  obtain ⟨w3,hw3⟩ : ∃ W,W = (((w2.alloc (.cells TZ 24)).alloc (.cells Z8 69)).setRow g8 (tkC t)).setRow g9 (gc r s):=⟨_,rfl⟩
  rw [← hw3] at hE3 hb3 h8
  unfold TZ Z8 at hw3
  rw [← hw3]
  have H3:=veil (And.intro hE3 (And.intro hb3 h8))
  have HY:=veil hY
  clear hw3 hg8 hg9 hE3 hb3 h8 hY KO H1
  rcases HY.out with ⟨hp,rfl⟩ | ⟨hp,rfl⟩
  ·
   have hr : R = (⟨0,0,0,0,0⟩,2):=HR.out.trans (zec hp)
   subst hr
   clear HY hp
   go_wp2_with ((with_reducible refine zac ?_); refine wpList_store_row rfl 24 _ _ rfl g TZ rfl rfl 24 _ H3.out.2.1 iTZ rfl zbr ?_)
   refine bodyPost_ret (zaj rfl _ _ g 24 TZ (0,0) _ rfl (setRow_heap w3 g _ TZ 24 (0,0) H3.out.2.1) Tryz.underlying24 rfl iTZ) rfl ⟨rfl,zae H3.out.1 H0.out.2.2 _⟩
  ·
   have hr : R = match findK l t.k at_ with
    | none => (⟨0,0,0,0,0⟩,4)
    | some k => checkB lowL k.x k.y k.f bs:=HR.out.trans (zdb hp)
   obtain ⟨_,_,_,_,c4⟩:=cells_tk9 H3.out.2.2
   have KF2:=veil (KF.out t.k w3 (HB.out.1.ext H3.out.1))
   have hFK : ∀ k,findK l t.k at_ = some k → k.x < top ∧ k.y < top:=fun k hk => HB.out.2.2.2 k (findK_cnt hk).2
   have HFK:=veil hFK
   have HRR:=veil hr
   clear HY hp hr KF hFK
   generalize t.k = id at *
   generalize findK l id at_ = F at *
   go_upto_region 7 with (first
    | (go_at_call 33; refine KF2.out.mono ?_; rintro e w4 ⟨rfl,hE4⟩)
    | ((with_reducible refine zaa 11 ?_); refine zcq (zs:=PZ) _ _ rfl rfl rfl rfl rfl rfl (fun _ => rfl) (fun _ => rfl) (fun _ => rfl) (qO_info F) (qO_size F) (qO_one F) ?_; intro g11 W5 hg11 h11 hE5))
   have hE45:=hE4.trans hE5
   have H5:=veil (And.intro (H3.out.1.trans hE45) (And.intro (hE45.block H3.out.2.1) h11))
   clear hE4 hE5 hE45 h11 c4 KF2 H3
   cases F with
   | none =>
    obtain rfl : R = (⟨0,0,0,0,0⟩,4):=HRR.out
    go_wp2_with ((with_reducible refine zac ?_); refine wpList_store_row rfl 24 _ _ rfl g TZ rfl rfl 24 _ H5.out.2.1 iTZ rfl zbr ?_)
    refine bodyPost_ret (zaj rfl _ _ g 24 TZ (0,0) _ rfl (setRow_heap W5 g _ TZ 24 (0,0) H5.out.2.1) Tryz.underlying24 rfl iTZ) rfl ⟨rfl,zae H5.out.1 H0.out.2.2 _⟩
   | some k =>
    have hr : R = checkB lowL k.x k.y k.f bs:=HRR.out
    have hkt:=HFK.out k rfl
    have KC2:=veil (KC.out k.x k.y k.f hkt.1 hkt.2 W5 (kt_now HB.out.2.2.1 H5.out.1) (HB.out.2.1.ext H5.out.1))
    rw [← hr] at KC2
    clear hr HRR HFK hkt KC
    obtain ⟨Tk0,n0⟩:=R
    unfold qv tkV at KC2
    have hst:=fun (W : World) (hW : Ext W5 W) => hW.block H5.out.2.1
    have HST:=veil hst
    clear hst
    simp only [Option.isSome] at *
    go_wp2_with (first
     | ((with_reducible refine zaa 41 ?_); refine wpList_load_row rfl 60 _ rfl g11 rfl 60 (qc k.x k.y k.f) (0,0) _ H5.out.2.2 Tryz.underlying60 rfl (iT k.x k.y k.f) ?_)
     | (go_at_call 34; refine KC2.out.mono ?_; rintro e w6 ⟨rfl,hE6⟩; have HE6:=veil hE6)
     | ((with_reducible refine zac ?_); refine wpList_store_row rfl 24 _ _ rfl g (tkC Tk0) rfl rfl 24 _ (HST.out _ HE6.out) (iTk Tk0) rfl (zbd Tk0) ?_))
    refine bodyPost_ret (zaj rfl _ _ g 24 (tkC Tk0) (0,0) _ rfl (setRow_heap w6 g _ (tkC Tk0) 24 (0,0) (HST.out _ HE6.out)) Tryz.underlying24 rfl (iTk Tk0)) rfl ⟨rfl,zae (H5.out.1.trans HE6.out) H0.out.2.2 _⟩
theorem kcheck_nil (w : World) : Calls Tryz.prog 17 #[.slice none 0 0,.slice none 0 0,.int .i64 0] w fun e w' => e = .returned (.tuple #[.agg (tkC ⟨0,0,0,0,0⟩),.iface 38 (.int .i64 2)]) ∧ Ext w w':=by
 have KM : Hid (∀ W : World,Calls Tryz.prog 31 #[.slice none 0 0] W fun e w' => e = .returned (.bool true) ∧ Ext W w'):=veil (fun W => may10_calls _ [] W (Ls.nil W none 0) (fun k hk => by cases hk) (by decide))
 have KO:=veil (fun W => open_nil_calls W)
 have k2:=neNil2
 go_enter Tryz.func17,Tryz.ntmps17
 go_upto_region 1 with (fail)
 obtain ⟨g,hg⟩ : ∃ g,g = w.heap.size:=⟨_,rfl⟩
 obtain ⟨w0,hw0⟩ : ∃ W,W = w.alloc (.cells TZ 24):=⟨_,rfl⟩
 have h0:=zab w (.cells TZ 24)
 have hE0:=Ext.alloc w (.cells TZ 24)
 rw [← hw0] at hE0
 rw [← hw0,← hg] at h0
 have H0:=veil (And.intro hE0 (And.intro h0 (show w.heap.size ≤ g by omega)))
 unfold TZ at hw0
 rw [← hw0,← hg]
 clear hw0 hg h0 hE0
 go_upto_region 3 with (go_at_call 31; refine (KM.out _).mono ?_; rintro e w1 ⟨rfl,hE1⟩)
 have H1:=veil (And.intro (H0.out.1.trans hE1) (hE1.block H0.out.2.1))
 clear hE1 KM
 go_upto_region 4 with (first
  | (go_at_call 32; refine (KO.out w1).mono ?_; rintro e w2 ⟨rfl,hE2⟩)
  | ((with_reducible refine zac ?_); refine wpList_store_row rfl 24 _ _ rfl w2.heap.size (tkC ⟨0,0,0,0,0⟩) rfl rfl 24 _ (zat w2 _ _).1 (iTk _) rfl (zbd _) ?_)
  | ((with_reducible refine zac ?_); refine wpList_store_row rfl 69 _ _ rfl (w2.heap.size + 1) (gc 0 0) rfl rfl 69 _ (zcg _ (zat w2 _ _).2 (Nat.lt_succ_self _)) (iSg 0 0) rfl (zcm 0 0) ?_))
 have hF:=zbx (T:=tkC ⟨0,0,0,0,0⟩) (G:=gc 0 0) (zdy w2 (.cells TZ 24) (.cells Z8 69)) (zat w2 _ _).1 (zat w2 _ _).2 ⟨Nat.le_refl _,Nat.lt_succ_self _⟩
 have hE3:=H1.out.1.trans (hE2.trans hF.1)
 have hb3:=(hE2.trans hF.1).block H1.out.2
 clear hF hE2
 obtain ⟨g8,hg8⟩ : ∃ g,g = w2.heap.size:=⟨_,rfl⟩
 obtain ⟨g9,hg9⟩ : ∃ g,g = w2.heap.size + 1:=⟨_,rfl⟩
 rw [← hg9,← hg8] at hE3 hb3 ⊢
 obtain ⟨w3,hw3⟩ : ∃ W,W = (((w2.alloc (.cells TZ 24)).alloc (.cells Z8 69)).setRow g8 (tkC ⟨0,0,0,0,0⟩)).setRow g9 (gc 0 0):=⟨_,rfl⟩
 rw [← hw3] at hE3 hb3
 unfold TZ Z8 at hw3
 rw [← hw3]
 have H3:=veil (And.intro hE3 hb3)
 clear hw3 hg8 hg9 hE3 hb3 KO H1
 go_wp2_with ((with_reducible refine zac ?_); refine wpList_store_row rfl 24 _ _ rfl g TZ rfl rfl 24 _ H3.out.2 iTZ rfl zbr ?_)
 refine bodyPost_ret (zaj rfl _ _ g 24 TZ (0,0) _ rfl (setRow_heap w3 g _ TZ 24 (0,0) H3.out.2) Tryz.underlying24 rfl iTZ) rfl ⟨rfl,zae H3.out.1 H0.out.2.2 _⟩
theorem kt_keep (w w' : World) (h : KT w) (k : Ext w w') : KT w':=kt_now h k
theorem code4 {L : Low} {K : List Ky} {bs : List Nat} {a : Int} : (kcheckB L K bs a).2 = 0 ∨ (kcheckB L K bs a).2 = 2 ∨ (kcheckB L K bs a).2 = 4 ∨ (kcheckB L K bs a).2 = 8:=by
 cases ho : openB bs with
 | none => rw [zec ho]; exact .inr (.inl rfl)
 | some v =>
  obtain ⟨t,r,s⟩:=v
  rw [zdb ho]
  cases hf : findK K t.k a with
  | none => exact .inr (.inr (.inl rfl))
  | some k =>
   show (checkB L k.x k.y k.f bs).2 = 0 ∨ (checkB L k.x k.y k.f bs).2 = 2 ∨ (checkB L k.x k.y k.f bs).2 = 4 ∨ (checkB L k.x k.y k.f bs).2 = 8
   rw [zex ho]
   split
   ·
    exact .inl rfl
   ·
    exact .inr (.inr (.inr rfl))
theorem checkC_two {L : Low} {K : List Ky} {bs : List Nat} {a : Int} {t : Tk} {k : Nat} (h : checkC L K bs a = (t,k)) :
  (mayK K = false ∧ k = 1) ∨ (mayK K = true ∧ kcheckB L K bs a = (t,k) ∧ (k = 0 ∨ k = 2 ∨ k = 4 ∨ k = 8)):=by
 unfold checkC at h
 split at h
 ·
  rename_i c
  have:=code4 (L:=L) (K:=K) (bs:=bs) (a:=a)
  rw [h] at this
  exact .inr ⟨c,h,this⟩
 ·
  rename_i c
  exact .inl ⟨by simpa using c,(congrArg Prod.snd h).symm⟩
theorem eqN_1 (w : World) : (binOp .eql 32 (.iface 38 (.int .i64 1)) .nilIface).run Tryz.prog w = .ok (.bool false) w:=by kernel_rfl
theorem eqN_2 (w : World) : (binOp .eql 32 (.iface 38 (.int .i64 2)) .nilIface).run Tryz.prog w = .ok (.bool false) w:=by kernel_rfl
theorem eqN_4 (w : World) : (binOp .eql 32 (.iface 38 (.int .i64 4)) .nilIface).run Tryz.prog w = .ok (.bool false) w:=by kernel_rfl
theorem eqN_8 (w : World) : (binOp .eql 32 (.iface 38 (.int .i64 8)) .nilIface).run Tryz.prog w = .ok (.bool false) w:=by kernel_rfl
theorem eqA_1 (w : World) : (binOp .eql 32 (.iface 38 (.int .i64 1)) (.iface 38 (.int .i64 1))).run Tryz.prog w = .ok (.bool true) w:=by kernel_rfl
theorem eqA_2 (w : World) : (binOp .eql 32 (.iface 38 (.int .i64 2)) (.iface 38 (.int .i64 1))).run Tryz.prog w = .ok (.bool false) w:=by kernel_rfl
theorem eqA_4 (w : World) : (binOp .eql 32 (.iface 38 (.int .i64 4)) (.iface 38 (.int .i64 1))).run Tryz.prog w = .ok (.bool false) w:=by kernel_rfl
theorem eqA_8 (w : World) : (binOp .eql 32 (.iface 38 (.int .i64 8)) (.iface 38 (.int .i64 1))).run Tryz.prog w = .ok (.bool false) w:=by kernel_rfl
theorem eqF_2 (w : World) : (binOp .eql 32 (.iface 38 (.int .i64 2)) (.iface 38 (.int .i64 2))).run Tryz.prog w = .ok (.bool true) w:=by kernel_rfl
theorem eqF_4 (w : World) : (binOp .eql 32 (.iface 38 (.int .i64 4)) (.iface 38 (.int .i64 2))).run Tryz.prog w = .ok (.bool false) w:=by kernel_rfl
theorem eqF_8 (w : World) : (binOp .eql 32 (.iface 38 (.int .i64 8)) (.iface 38 (.int .i64 2))).run Tryz.prog w = .ok (.bool false) w:=by kernel_rfl
theorem argV_r {K : List Ky} {R : List Rv} {l : List Pd} {z a : Int} (h : mayRs R = false) : argV K R l z a = false:=by unfold argV; rw [h]; simp
theorem argV_l {K : List Ky} {R : List Rv} {l : List Pd} {z a : Int} (h : mayP l = false) : argV K R l z a = false:=by unfold argV; rw [h]; simp
theorem argV_p {K : List Ky} {R : List Rv} {l : List Pd} {z a : Int} (h : placeB z a = false) : argV K R l z a = false:=by unfold argV; rw [h]; simp
theorem argV_k {K : List Ky} {R : List Rv} {l : List Pd} {z a : Int} (h : mayK K = false) : argV K R l z a = false:=by unfold argV; rw [h]; simp
theorem argV_all {K : List Ky} {R : List Rv} {l : List Pd} {z a : Int} (h1 : mayK K = true) (h2 : mayRs R = true) (h3 : mayP l = true) (h4 : placeB z a = true) : argV K R l z a = true:=by unfold argV; rw [h1,h2,h3,h4]; rfl
theorem verdict14_calls (C : CodeL) (vk vr v : Value) (K : List Ky) (Q : List Rv) (l : List Pw) (A : Option Addr) (m c : Nat) (bs : List Nat) (z a : Int) (w : World) (hI : KT w) (hK : Ks w vk K) (hT : TopK K) (hKl : K.length ≤ 60) (hQ : Rs w vr Q) (hQl : Q.length ≤ 300) (hF : Ps14 w v l) (hL : fewP (pds l) = true) (hm : m = bs.length) (hmc : m ≤ c) (hle : m ≤ 5000) (hS : Bs w A bs) :
  Calls Tryz.prog 12 #[vk,vr,v,.slice A m c,.int .i64 z,.int .i64 a] w fun e w' => ∃ r ev,e = .returned (.tuple #[.int .i64 r,ev]) ∧ Ext w w' ∧ VerdA lowL K Q (pds l) bs z a r ev:=by
 have hb : Byt bs:=hS.1
 have KMR:=veil (fun W (h : Ext w W) => zgu vr Q W (hQ.ext h) (by omega))
 have KML:=veil (fun W (h : Ext w W) => zev v l W (hF.ext h) hL)
 have KP:=veil (fun W => zfc z a W)
 have KC:=veil (fun W (h : Ext w W) => kcheck_calls C vk K a A m c bs W (kt_now hI h) (hK.ext h) hT (by omega) hm hmc (by omega) (hS.ext h))
 have KI:=veil (fun s W (h : Ext w W) => is11_calls vr Q s a W (hQ.ext h) (by omega))
 have KW:=veil (fun t W (h : Ext w W) (hM : mayP (pds l) = true) (hT : mayT t = true) (hP : placeB z a = true) => zjm v l t z a W (hF.ext h) hM hT hP)
 have hmt:=fun h => kcheckB_may (L:=lowL) (K:=K) (a:=a) hb h
 obtain ⟨Ak,ck,rfl,-,-⟩:=hK
 obtain ⟨Aq,cq,rfl,-,-⟩:=hQ
 obtain ⟨⟨AL,cl,rfl,-,-⟩,-⟩:=hF
 obtain ⟨nk,hnk⟩ : ∃ n,n = K.length:=⟨_,rfl⟩
 obtain ⟨nq,hnq⟩ : ∃ n,n = Q.length:=⟨_,rfl⟩
 obtain ⟨nl,hnl⟩ : ∃ n,n = l.length:=⟨_,rfl⟩
 simp only [← hnk,← hnq,← hnl] at KMR KML KC KI KW ⊢
 clear hI hT hKl hQl hL hm hmc hle hS hb hnk hnq hnl
 obtain ⟨MR,hMR⟩ : ∃ M,M = mayRs Q:=⟨_,rfl⟩
 obtain ⟨ML,hML⟩ : ∃ M,M = mayP (pds l):=⟨_,rfl⟩
 obtain ⟨P,hP⟩ : ∃ M,M = placeB z a:=⟨_,rfl⟩
 rw [← hMR] at KMR
 rw [← hML] at KML
 rw [← hP] at KP
 simp only [← hMR] at KI
 simp only [← hML,← hP] at KW
 have HM:=veil (And.intro hMR (And.intro hML hP))
 clear hMR hML hP
 cases MR with
 | false =>
  have HV:=veil (argV_r (K:=K) (l:=pds l) (z:=z) (a:=a) HM.out.1.symm)
  go_enter Tryz.func12,Tryz.ntmps12
  go_wp2_with (go_at_call 27; with_reducible refine (KMR.out _ (Ext.refl _)).mono ?_; rintro e w1 ⟨rfl,hE1⟩)
  go_ret2
  exact ⟨_,_,rfl,hE1,.inl ⟨HV.out,rfl,rfl⟩⟩
 | true =>
 cases ML with
 | false =>
  have HV:=veil (argV_l (K:=K) (R:=Q) (z:=z) (a:=a) HM.out.2.1.symm)
  go_enter Tryz.func12,Tryz.ntmps12
  go_wp2_with (first
   | (go_at_call 27; with_reducible refine (KMR.out _ (Ext.refl _)).mono ?_; rintro e w1 ⟨rfl,hE1⟩; have HE1:=veil hE1; clear hE1)
   | (go_at_call 10; with_reducible refine (KML.out _ HE1.out).mono ?_; rintro e w2 ⟨rfl,hE2⟩))
  go_ret2
  exact ⟨_,_,rfl,HE1.out.trans hE2,.inl ⟨HV.out,rfl,rfl⟩⟩
 | true =>
 cases P with
 | false =>
  have HV:=veil (argV_p (K:=K) (R:=Q) (l:=pds l) HM.out.2.2.symm)
  go_enter Tryz.func12,Tryz.ntmps12
  go_wp2_with (first
   | (go_at_call 27; with_reducible refine (KMR.out _ (Ext.refl _)).mono ?_; rintro e w1 ⟨rfl,hE1⟩; have HE1:=veil hE1; clear hE1)
   | (go_at_call 10; with_reducible refine (KML.out _ HE1.out).mono ?_; rintro e w2 ⟨rfl,hE2⟩; have HE2:=veil (HE1.out.trans hE2); clear hE2)
   | (go_at_call 25; with_reducible refine (KP.out _).mono ?_; rintro e w3 ⟨rfl,rfl⟩))
  go_ret2
  exact ⟨_,_,rfl,HE2.out,.inl ⟨HV.out,rfl,rfl⟩⟩
 | true =>
  obtain ⟨t,k,hC⟩ : ∃ t k,checkC lowL K bs a = (t,k):=⟨_,_,rfl⟩
  rw [hC] at KC
  simp only at KC
  have hC2:=checkC_two hC
  obtain ⟨X,hX⟩ : ∃ X,X = errV k:=⟨_,rfl⟩
  rw [← hX] at KC
  have HC:=veil (And.intro hX hC2)
  obtain ⟨y,hy⟩ : ∃ y,y = whyV (pds l) t z a:=⟨_,rfl⟩
  obtain ⟨J,hJ⟩ : ∃ J,J = isR Q t.s a:=⟨_,rfl⟩
  have KW1:=veil (fun W (h : Ext w W) (hT : mayT t = true) => KW.out t W h (by trivial) hT (by trivial))
  have KI1:=veil (fun W (h : Ext w W) => KI.out t.s W h)
  rw [← hy] at KW1
  rw [← hJ,Bool.true_and] at KI1
  have HY:=veil (And.intro hy hJ)
  have HMT:=veil hmt
  clear hC hC2 hX hy hJ KW KI hmt
  unfold tkV at *
  go_enter Tryz.func12,Tryz.ntmps12
  go_upto_region 4 with (first
   | (go_at_call 27; with_reducible refine (KMR.out _ (Ext.refl _)).mono ?_; rintro e w1 ⟨rfl,hE1⟩; have HE1:=veil hE1; clear hE1)
   | (go_at_call 10; with_reducible refine (KML.out _ HE1.out).mono ?_; rintro e w2 ⟨rfl,hE2⟩; have HE2:=veil (HE1.out.trans hE2); clear hE2)
   | (go_at_call 25; with_reducible refine (KP.out _).mono ?_; rintro e w3 ⟨rfl,rfl⟩)
   | (go_at_call 17; with_reducible refine (KC.out _ HE2.out).mono ?_; rintro e w4 ⟨rfl,hE4⟩; have HE4:=veil (HE2.out.trans hE4); clear hE4)
   | ((with_reducible refine zac ?_); refine wpList_store_row rfl 24 _ _ rfl w4.heap.size (tkC t) rfl rfl 24 _ (zab w4 _) (iTk t) rfl (zbd t) ?_; rw [World.setRow_alloc_new]))
  have HE5:=veil (HE4.out.trans (Ext.alloc w4 (.cells (tkC t) 24)))
  have HS5:=veil (TkAt.new w4 t)
  obtain ⟨g,hg⟩ : ∃ g,g = w4.heap.size:=⟨_,rfl⟩
  rw [← hg] at HS5 ⊢
  generalize w4.alloc (.cells (tkC t) 24) = w5 at *
  clear hg HE1 HE2 HE4 KC KMR KML KP
  rcases HC.out.2 with ⟨hk,rfl⟩ | ⟨hk,hc,hcase⟩
  ·
   obtain rfl : X = .iface 38 (.int .i64 1):=HC.out.1
   have HV:=veil (argV_k (R:=Q) (l:=pds l) (z:=z) (a:=a) hk)
   have k1:=eqN_1
   have k2:=eqA_1
   clear hk
   go_wp2
   go_ret2
   exact ⟨_,_,rfl,HE5.out,.inl ⟨HV.out,rfl,rfl⟩⟩
  have HV:=veil (argV_all hk HM.out.1.symm HM.out.2.1.symm HM.out.2.2.symm)
  have hverd : verdV lowL K Q (pds l) bs z a = if k = 2 then 2 else if k ≠ 0 then 3 else if isR Q t.s a = true then 4 else whyV (pds l) t z a:=by
   unfold verdV
   rw [hc]
  rw [← HY.out.1,← HY.out.2] at hverd
  have hmt2 : k = 0 → mayT t = true:=fun h => by
   have h2:=HMT.out (by rw [hc]; exact h)
   rwa [hc] at h2
  have HD:=veil (And.intro hverd hmt2)
  clear hk hc hverd hmt2 HMT
  rcases hcase with rfl | rfl | rfl | rfl
  ·
   obtain rfl : X = .nilIface:=HC.out.1
   have hr : verdV lowL K Q (pds l) bs z a = if J = true then 4 else y:=HD.out.1
   have HR:=veil hr
   have HT:=veil (HD.out.2 rfl)
   have k1:=eqNil14
   have c0:=HS5.out.at0
   clear hr HC
   cases J with
   | true =>
    go_wp2_with (go_at_call 18; with_reducible refine (KI1.out _ HE5.out).mono ?_; rintro e w6 ⟨rfl,hE6⟩)
    go_ret2
    exact ⟨_,_,rfl,HE5.out.trans hE6,.inr ⟨HV.out,HR.out.symm,rfl⟩⟩
   | false =>
    go_wp2_with (first
     | (go_at_call 18; with_reducible refine (KI1.out _ HE5.out).mono ?_; rintro e w6 ⟨rfl,hE6⟩; have HE6:=veil (HE5.out.trans hE6); have HS6 : Hid (TkAt w6 g t):=veil (HS5.out.ext hE6); clear hE6 c0)
     | ((with_reducible refine zaa 54 ?_); refine wpList_load_row rfl 24 _ rfl g rfl 24 (tkC t) (0,0) _ HS6.out Tryz.underlying24 rfl (iTk t) ?_)
     | (go_at_call 26; with_reducible refine (KW1.out _ HE6.out HT.out).mono ?_; rintro e w7 ⟨rfl,hE7⟩))
    go_ret2
    exact ⟨_,_,rfl,HE6.out.trans hE7,.inr ⟨HV.out,HR.out.symm,rfl⟩⟩
  ·
   obtain rfl : X = .iface 38 (.int .i64 2):=HC.out.1
   have k1:=eqN_2
   have k2:=eqA_2
   have k3:=eqF_2
   go_wp2
   go_ret2
   exact ⟨_,_,rfl,HE5.out,.inr ⟨HV.out,HD.out.1.symm,rfl⟩⟩
  ·
   obtain rfl : X = .iface 38 (.int .i64 4):=HC.out.1
   have k1:=eqN_4
   have k2:=eqA_4
   have k3:=eqF_4
   go_wp2
   go_ret2
   exact ⟨_,_,rfl,HE5.out,.inr ⟨HV.out,HD.out.1.symm,rfl⟩⟩
  ·
   obtain rfl : X = .iface 38 (.int .i64 8):=HC.out.1
   have k1:=eqN_8
   have k2:=eqA_8
   have k3:=eqF_8
   go_wp2
   go_ret2
   exact ⟨_,_,rfl,HE5.out,.inr ⟨HV.out,HD.out.1.symm,rfl⟩⟩
theorem verdict14_nil (w : World) : Calls Tryz.prog 12 #[.slice none 0 0,.slice none 0 0,.slice none 0 0,.slice none 0 0,.int .i64 0,.int .i64 0] w fun e w' => e = .returned (.tuple #[.int .i64 2,.nilIface]) ∧ Ext w w':=by
 have KMR:=veil (fun W => show Calls Tryz.prog 27 #[.slice none 0 0] W fun e w' => e = .returned (.bool true) ∧ Ext W w' from zgu _ [] W (Ls.nil W none 0) (by decide))
 have KML:=veil (fun W => show Calls Tryz.prog 10 #[.slice none 0 0] W fun e w' => e = .returned (.bool true) ∧ Ext W w' from zev _ [] W ⟨Ls.nil W none 0,fun x hx => by cases hx⟩ (by decide))
 have KP:=veil (fun W => show Calls Tryz.prog 25 #[.int .i64 0,.int .i64 0] W fun e w' => e = .returned (.bool true) ∧ w' = W from zfc 0 0 W)
 have KC:=veil (fun W => kcheck_nil W)
 have k1:=eqN_2
 have k2:=eqA_2
 have k3:=eqF_2
 go_enter Tryz.func12,Tryz.ntmps12
 go_upto_region 4 with (first
  | (go_at_call 27; with_reducible refine (KMR.out _).mono ?_; rintro e w1 ⟨rfl,hE1⟩; have HE1:=veil hE1; clear hE1)
  | (go_at_call 10; with_reducible refine (KML.out _).mono ?_; rintro e w2 ⟨rfl,hE2⟩; have HE2:=veil (HE1.out.trans hE2); clear hE2)
  | (go_at_call 25; with_reducible refine (KP.out _).mono ?_; rintro e w3 ⟨rfl,rfl⟩)
  | (go_at_call 17; with_reducible refine (KC.out _).mono ?_; rintro e w4 ⟨rfl,hE4⟩; have HE4:=veil (HE2.out.trans hE4); clear hE4)
  | ((with_reducible refine zac ?_); refine wpList_store_row rfl 24 _ _ rfl w4.heap.size (tkC ⟨0,0,0,0,0⟩) rfl rfl 24 _ (zab w4 _) (iTk _) rfl (zbd _) ?_; rw [World.setRow_alloc_new]))
 have HE5:=veil (HE4.out.trans (Ext.alloc w4 (.cells (tkC ⟨0,0,0,0,0⟩) 24)))
 generalize w4.alloc (.cells (tkC ⟨0,0,0,0,0⟩) 24) = w5 at *
 go_wp2
 go_ret2
 exact ⟨rfl,HE5.out⟩
theorem code14a : Code14a where
 may:=fun v l w hF hL => zev v l w hF hL
 covers:=fun v l t z a w hF hL _ _ _ _ => covers14_calls v l t z a w hF hL
 verdict_nil:=verdict14_nil
theorem code14b (C : CodeL) : Code14b lowL KT where
 keep:=kt_keep
 verdict:=fun vk vr v K R l A m c bs z a w hI hK hT hKl hR hRl hF hL hm hmc hle hS _ _ _ _ => verdict14_calls C vk vr v K R l A m c bs z a w hI hK hT hKl hR hRl hF hL hm hmc hle hS
/-! ### the field of n -/
def Fn (w : World) (b : Nat) : Prop:=∃ N Q,Fok Pt.nn N Q ∧ Fb w b Pt.nn N Q
theorem Fn.ext {w w' : World} {b : Nat} (h : Fn w b) (k : Ext w w') : Fn w' b:=by
 obtain ⟨N,Q,h1,h2⟩:=h
 exact ⟨N,Q,h1,h2.call k⟩
theorem Fn.but {w w' : World} {b r : Nat} (h : Fn w b) (k : But r w w') (hne : b ≠ r) : Fn w' b:=by
 obtain ⟨N,Q,h1,h2⟩:=h
 exact ⟨N,Q,h1,World.rowIs.of_block h2 (k.block b h2.lt (fun e => hne (Option.some.inj e)))⟩
section
variable {b : Nat} {w : World}
theorem nadd_p {X Y Z : Nat} (hZ : Z = (X % Pt.nn + Y % Pt.nn) % Pt.nn) (hX : X < top) (hY : Y < top) (hF : Fn w b) : Calls Tryz.prog 156 #[ptrTo b,nv X,nv Y] w fun e w' => e = .returned (nv Z) ∧ Ext w w':=by
 obtain ⟨N,Q,h1,h2⟩:=hF
 exact fadd2_calls b X Y Pt.nn N Q Z hX hY h1 hZ.symm w h2
theorem ncut_p {X Z : Nat} (hZ : Z = X % Pt.nn) (hX : X < top) (hF : Fn w b) : Calls Tryz.prog 156 #[ptrTo b,nv X,nv 0] w fun e w' => e = .returned (nv Z) ∧ Ext w w' :=
 nadd_p (by rw [hZ,Nat.zero_mod,Nat.add_zero,Nat.mod_mod]) hX zbh hF
theorem nmul_p {X Y Z : Nat} (hZ : Z = X * Y % Pt.nn) (hX : X < top) (hY : Y < top) (hF : Fn w b) : Calls Tryz.prog 99 #[ptrTo b,nv X,nv Y] w fun e w' => e = .returned (nv Z) ∧ Ext w w':=by
 obtain ⟨N,Q,h1,h2⟩:=hF
 exact fmul2_calls b X Y Pt.nn N Q Z hX hY h1 hZ.symm w h2
theorem ninv_p {X t : Nat} (h0 : X ≠ 0) (hX : X < Pt.nn) (ht : t = Pt.iG Pt.nn X) (hF : Fn w b) : Calls Tryz.prog 97 #[ptrTo b,nv X] w fun e w' => e = .returned (.tuple #[nv t,.nilIface]) ∧ Ext w w':=by
 obtain ⟨N,Q,h1,h2⟩:=hF
 refine (ziv b X Pt.nn N Q (Nat.lt_trans hX zdh) h1 w h2).mono ?_
 rintro e w' ⟨⟨y,hy,hi,rfl⟩,hb⟩
 have hg:=Pt.gcd_nn h0 hX
 have e1 : y = t:=by rw [ht]; exact Pt.iG_of Pt.nn Pt.nn_root Pt.nn_one hy (hi hg)
 rw [ziq hg,e1]
 exact ⟨rfl,hb⟩
end
/-! ### a maker -/
section
variable (g : Nat) (W : World)
end
/-! ### what the layers below answer -/
theorem ofl_is {y : Nat → Nat} {X : Nat} (hy : ∀ j,y j < 256) (hX : X = num32 y) {g : Nat} (w : World) (hb : w.heap[g]? = some (.cells (dgc y) 109 (0,0))) : Calls Tryz.prog 92 #[.slice (some ⟨g,0,none⟩) 32 32] w fun e w' => e = .returned (.tuple #[nv X,.nilIface]) ∧ Ext w w':=by
 subst hX
 exact of_some g 0 32 32 y hy (by decide) w (Array.getElem?_eq_some_iff.1 hb).1 (fun j hj => by rw [Nat.zero_add,cell_of_row w g j _ _ _ hb]; exact zck _ hj)
theorem mulb_is {K : Nat} (hK : K < top) {P : Pt.Q} (hP : P = Pt.grp.mul K Pt.base) (w : World) : Calls Tryz.prog 151 #[nv K,qv Pt.gx Pt.gy false] w fun e w' => e = .returned (.tuple #[qv (Pt.pX P.1) (Pt.pY P.1) (Pt.pFar P.1),.nilIface]) ∧ Ext w w':=by
 subst hP
 have h:=mul_yes K hK Pt.base w
 unfold qvP at h
 rwa [base_x.1,base_x.2.1,base_x.2.2] at h
theorem mulq_is {K X Y : Nat} {f : Bool} (hK : K < top) {p q : Pt.Q} (hp : X = Pt.pX p.1 ∧ Y = Pt.pY p.1 ∧ f = Pt.pFar p.1) (hq : q = Pt.grp.mul K p) (w : World) : Calls Tryz.prog 151 #[nv K,qv X Y f] w fun e w' => e = .returned (.tuple #[qv (Pt.pX q.1) (Pt.pY q.1) (Pt.pFar q.1),.nilIface]) ∧ Ext w w':=by
 obtain ⟨rfl,rfl,rfl⟩:=hp
 subst hq
 exact mul_yes K hK p w
theorem addq_is {a b c : Pt.Q} (hc : c = Pt.grp.op a b) (w : World) : Calls Tryz.prog 153 #[qv (Pt.pX a.1) (Pt.pY a.1) (Pt.pFar a.1),qv (Pt.pX b.1) (Pt.pY b.1) (Pt.pFar b.1)] w fun e w' => e = .returned (.tuple #[qv (Pt.pX c.1) (Pt.pY c.1) (Pt.pFar c.1),.nilIface]) ∧ Ext w w':=by
 subst hc; exact add_yes a b w
theorem onp_is {X Y : Nat} {f r : Bool} (h : onB X Y f = r) (hX : X < top) (hY : Y < top) (w : World) : Calls Tryz.prog 89 #[qv X Y f] w fun e w' => e = .returned (.bool r) ∧ Ext w w':=by
 subst h; exact on_is X Y f hX hY w
theorem iz_is {X : Nat} {b : Bool} (hb : decide (X = 0) = b) (hX : X < top) (w : World) :
  Calls Tryz.prog 142 #[nv X] w fun e w' => e = .returned (.bool b) ∧ Ext w w':=by
 have k:=veil fun W => zju hX W
 rw [hb] at k
 clear hb hX
 exact way1 Tryz.func142 [nv X] (.ins 5 (binK .eql 58 (.tmp 3) (.tmp 4) (nv X) (nv 0)) (.bool b) (fun W _ => zba (gN _ _ _ _ _ W) (k.out W)) <| .ret _ fun _ h => ⟨rfl,h⟩) (by kernel_rfl)
theorem rng_zero (w : World) : Calls Tryz.prog 95 #[nv 0] w fun e w' => e = .returned (.bool false) ∧ Ext w w' :=
 way1 Tryz.func95 [nv 0] (.call _ _ _ (fun W _ => iz_is (b:=true) rfl (Nat.two_pow_pos 256) W) <| .ret _ fun _ h => ⟨rfl,h⟩) (by kernel_rfl)
theorem rng_else {X : Nat} {b : Bool} (hX : X < top) (h0 : X ≠ 0) (hb : decide (X < Pt.nn) = b) (w : World) :
  Calls Tryz.prog 95 #[nv X] w fun e w' => e = .returned (.bool b) ∧ Ext w w':=by
 have hl : decide (cmpN X Pt.nn < 0) = b:=by
  subst hb
  unfold cmpN
  by_cases h : X < Pt.nn
  ·
   simp [h]
  ·
   simp only [h,if_false,decide_false]
   split <;> decide
 have k:=veil (And.intro hX (And.intro h0 hl))
 clear hX h0 hb hl
 exact way1 Tryz.func95 [nv X] (.call _ _ _ (fun W _ => iz_is (decide_eq_false k.out.2.1) k.out.1 W) <| .call _ _ _ (fun W _ => pN_is W) <| .call _ _ _ (fun W _ => kcmp X Pt.nn _ rfl k.out.1 zdh W) <|
  .ins 10 (binK .lss 3 (.tmp 9) (.const (.int .i64 0)) (.int .i64 (cmpN X Pt.nn)) (.int .i64 0)) (.bool b) (fun _ _ => lss_run k.out.2.2) <| .ret _ fun _ h => ⟨rfl,h⟩) (by kernel_rfl)
theorem zid {X : Nat} {b : Bool} (hb : mayB X = b) (hX : X < top) (w : World) :
  Calls Tryz.prog 95 #[nv X] w fun e w' => e = .returned (.bool b) ∧ Ext w w':=by
 subst hb
 unfold mayB
 by_cases h0 : X = 0
 ·
  subst h0
  exact rng_zero w
 ·
  rw [decide_eq_true h0,Bool.true_and]
  exact rng_else hX h0 rfl w
theorem modulo_calls (w : World) :
  Calls Tryz.prog 96 #[] w fun e w' => (∃ b,e = .returned (ptrTo b) ∧ w.heap.size ≤ b ∧ Fn w' b) ∧ Ext w w':=by
 go_enter Tryz.func96,Tryz.ntmps96
 go_upto_region 1 with (fail)
 have HN:=veil (pN_is w)
 go_wp2_with (first
  | (go_at_call 144; refine HN.out.mono ?_; rintro e w5 ⟨rfl,hb5⟩)
  | (go_at_call 145; refine (new_good Pt.nn nn_odd.1 nn_odd.2 zdh w5).mono ?_; rintro e w6 ⟨⟨b,N,Q,hok,hfb,hge,rfl⟩,hb6⟩))
 go_ret
 exact ⟨⟨b,rfl,Nat.le_trans (Below.size hb5) hge,N,Q,hok,hfb⟩,hb5.trans hb6⟩
theorem Fn.cells {W : World} {b g o : Nat} {vs : List Value} (h : Fn W b) (hne : ¬ g = b) : Fn (W.setCells g o vs) b:=by
 obtain ⟨N,Q,h1,h2⟩:=h
 exact ⟨N,Q,h1,h2.of_block (zht (fun e => hne e.symm) vs o W)⟩
def hMod {w0 : World} {Post : Value → World → Prop} {J : World → Prop} (r : ∀ b,OT Tryz.prog w0 Post (fun W => J W ∧ Fn W b)) : OT Tryz.prog w0 Post J :=
 .hang 96 #[] ptrTo (fun b W => Fn W b) (fun b g => g = b) (fun _ _ _ h k => h.ext k) (fun _ _ _ _ _ h hn => h.cells hn)
  (fun W _ => (modulo_calls W).mono fun _ _ ⟨⟨b,he,hge,hF⟩,hE⟩ => ⟨b,he,hE,hF,fun g hg => by
   subst hg
   obtain ⟨_,_,_,h2⟩:=hF
   exact ⟨.inl hge,h2.lt⟩⟩) r
theorem numof_calls {y : Nat → Nat} (hy : ∀ j,y j < 256) {X : Nat} (hX : X = num32 y) (w : World) :
  Calls Tryz.prog 100 #[dgv y] w fun e w' => e = .returned (nv X) ∧ Ext w w':=by
 have ky:=veil hy
 have kX:=veil hX
 clear hX hy
 unfold nv nc dgv dgc
 go_enter Tryz.func100,Tryz.ntmps100
 go_upto_region 1 with (fail)
 refine wp_via2 fun w1 hx b0 b1 => ?_
 have b0 : w1.heap[w.heap.size]? = some (.cells (dgc y) 109 (0,0)):=b0
 refine' zja (m:=5) (A:=_) (by kernel_rfl) ?h1 ?h2
 case h1 =>
  refine zad (.slice (some ⟨w.heap.size,0,none⟩) 32 32) rfl (made_slice rfl rfl (sliceD _ ·)) ?_
  refine zad (.tuple #[nv X,.nilIface]) rfl (zbc (args:=[.slice (some ⟨w.heap.size,0,none⟩) 32 32]) rfl rfl (fun W => zai Tryz.func92 rfl rfl _ W) (fun W hW => ofl_is ky.out kX.out W (hW.block b0))) ?_;simp only [aP,lA,lZ,lS]
  refine zad (.tuple #[nv X,.nilIface]) rfl (zbm (.inl rfl) rfl) ?_
  refine zad (nv X) rfl (made_ext rfl rfl rfl) ?_;simp only [aP,lA,lZ,lS]
  refine zad (.nilIface) rfl (made_ext rfl rfl rfl) ?_;simp only [aP,lA,lZ,lS]
  exact zdx
 refine prest_var' _ _ rfl rfl rfl rfl rfl rfl rfl (hzN ·) (fun _ => rfl) (fun _ => rfl) (iN _) rfl (nc_one _) ?_
 intro gx w2 hgx bx hE
 replace b1:=hE.block b1
 replace hx:=hx.trans hE
 clear hE
 simp only [aP,lA,lZ,lS]
 clear hgx
 go_upto_region 2 with (fail)
 refine' zja (m:=1) (A:=_) (by kernel_rfl) ?h2a ?h2b
 case h2a =>
  refine zad (nv X) rfl (zaz rfl rfl bx rfl uN rfl (iN _)) ?_;simp only [aP,lA,lZ,lS]
  exact zdx
 refine prest_store _ rfl rfl rfl rfl rfl rfl b1 (iN _) rfl (nc_one _) ?_
 intro w3 hB hb
 go_wp2
 exact bodyPost_ret (results_cell_row rfl _ _ (w.heap.size + 1) 58 (nc X) (0,0) _ rfl hb Tryz.underlying58 rfl (by kernel_rfl)) rfl ⟨rfl,hx.new hB (by omega)⟩
theorem scut_calls {b X Z : Nat} (hZ : Z = X % Pt.nn) (hX : X < top) {w : World} (hF : Fn w b) :
  Calls Tryz.prog 101 #[ptrTo b,nv X] w fun e w' => e = .returned (nv Z) ∧ Ext w w':=by
 have kZ:=veil hZ
 have kX:=veil hX
 clear hX hZ
 exact way1 Tryz.func101 [ptrTo b,nv X] (.call _ _ _ (fun W hW => ncut_p kZ.out kX.out (hF.ext hW)) <|
  .ret _ fun _ h => ⟨rfl,h⟩) (by kernel_rfl)
theorem sumof_calls {u v X Y : Nat} {f : Bool} {p a b c : Pt.Q} (hu : u < top) (hv : v < top) (hp : X = Pt.pX p.1 ∧ Y = Pt.pY p.1 ∧ f = Pt.pFar p.1) (ha : a = Pt.grp.mul u Pt.base) (hb : b = Pt.grp.mul v p) (hc : c = Pt.grp.op a b) (w : World) :
  Calls Tryz.prog 98 #[nv u,nv v,qv X Y f] w fun e w' => e = .returned (qv (Pt.pX c.1) (Pt.pY c.1) (Pt.pFar c.1)) ∧ Ext w w':=by
 have ku:=veil hu
 have kv:=veil hv
 have kp:=veil hp
 have ka:=veil ha
 have kb:=veil hb
 have kc:=veil hc
 clear hc hb ha hp hv hu
 exact way1 Tryz.func98 [nv u,nv v,qv X Y f] (.call _ _ _ (fun W _ => base_calls W) <|
  .call _ _ _ (fun W _ => mulb_is ku.out ka.out W) <|
  .call _ _ _ (fun W _ => mulq_is kv.out kp.out kb.out W) <|
  .call _ _ _ (fun W _ => addq_is kc.out W) <|
  .ret _ fun _ h => ⟨rfl,h⟩) (by kernel_rfl)
theorem sver_far {X Y R S : Nat} (hX : X < top) (hY : Y < top) (hR : R < top) (hS : S < top) (y : Nat → Nat) (w : World) :
  Calls Tryz.prog 66 #[qv X Y true,dgv y,gv R S] w fun e w' => e = .returned (.bool false) ∧ Ext w w':=by
 have kX:=veil hX
 have kY:=veil hY
 have kR:=veil hR
 have kS:=veil hS
 clear hS hR hY hX
 exact way1 Tryz.func66 [qv X Y true,dgv y,gv R S] (.ret _ fun _ h => ⟨rfl,h⟩) (by kernel_rfl)
theorem sver_off {X Y R S : Nat} (hX : X < top) (hY : Y < top) (hR : R < top) (hS : S < top) (hon : onB X Y false = false) (y : Nat → Nat) (w : World) :
  Calls Tryz.prog 66 #[qv X Y false,dgv y,gv R S] w fun e w' => e = .returned (.bool false) ∧ Ext w w':=by
 have kX:=veil hX
 have kY:=veil hY
 have kR:=veil hR
 have kS:=veil hS
 have kon:=veil hon
 clear hon hS hR hY hX
 exact way1 Tryz.func66 [qv X Y false,dgv y,gv R S] (.call _ _ _ (fun W _ => onp_is kon.out kX.out kY.out W) <|
  .ret _ fun _ h => ⟨rfl,h⟩) (by kernel_rfl)
theorem sver_r {X Y R S : Nat} (hX : X < top) (hY : Y < top) (hR : R < top) (hS : S < top) (hon : onB X Y false = true) (hr : mayB R = false) (y : Nat → Nat) (w : World) :
  Calls Tryz.prog 66 #[qv X Y false,dgv y,gv R S] w fun e w' => e = .returned (.bool false) ∧ Ext w w':=by
 have kX:=veil hX
 have kY:=veil hY
 have kR:=veil hR
 have kS:=veil hS
 have kon:=veil hon
 have kr:=veil hr
 clear hr hon hS hR hY hX
 exact way1 Tryz.func66 [qv X Y false,dgv y,gv R S] (.call _ _ _ (fun W _ => onp_is kon.out kX.out kY.out W) <|
  .call _ _ _ (fun W _ => zid kr.out kR.out W) <|
  .ret _ fun _ h => ⟨rfl,h⟩) (by kernel_rfl)
theorem sver_s {X Y R S : Nat} (hX : X < top) (hY : Y < top) (hR : R < top) (hS : S < top) (hon : onB X Y false = true) (hr : mayB R = true) (hs : mayB S = false) (y : Nat → Nat) (w : World) :
  Calls Tryz.prog 66 #[qv X Y false,dgv y,gv R S] w fun e w' => e = .returned (.bool false) ∧ Ext w w':=by
 have kX:=veil hX
 have kY:=veil hY
 have kR:=veil hR
 have kS:=veil hS
 have kon:=veil hon
 have kr:=veil hr
 have ks:=veil hs
 clear hs hr hon hS hR hY hX
 exact way1 Tryz.func66 [qv X Y false,dgv y,gv R S] (.call _ _ _ (fun W _ => onp_is kon.out kX.out kY.out W) <|
  .call _ _ _ (fun W _ => zid kr.out kR.out W) <|
  .call _ _ _ (fun W _ => zid ks.out kS.out W) <|
  .ret _ fun _ h => ⟨rfl,h⟩) (by kernel_rfl)
theorem sver_all (y : Nat → Nat) {p a b c : Pt.Q} {X Y R S t E u v m : Nat} {f : Bool} (hX : X < top) (hY : Y < top) (hR : R < top) (hS : S < top) (hon : onB X Y false = true) (hr : mayB R = true) (hs : mayB S = true) (hp : X = Pt.pX p.1 ∧ Y = Pt.pY p.1 ∧ false = Pt.pFar p.1) (hy : ∀ j,y j < 256) (hE : E = num32 y) (ht : t = Pt.iG Pt.nn S) (hu : u = E * t % Pt.nn) (hv : v = R * t % Pt.nn) (ha : a = Pt.grp.mul u Pt.base) (hb : b = Pt.grp.mul v p) (hc : c = Pt.grp.op a b) (hfar : Pt.pFar c.1 = f) (hm : m = Pt.pX c.1 % Pt.nn) (w : World) :
  Calls Tryz.prog 66 #[qv X Y false,dgv y,gv R S] w fun e w' => e = .returned (.bool (!f && decide (m = R))) ∧ Ext w w':=by
 obtain ⟨x,hx0⟩ : ∃ x,x = Pt.pX c.1:=⟨_,rfl⟩
 obtain ⟨z,hz0⟩ : ∃ z,z = Pt.pY c.1:=⟨_,rfl⟩
 have kEt:=veil (show E < top from by rw [hE]; exact num32_lt hy)
 have ksum:=fun W => sumof_calls (w:=W) (mul_top hu) (mul_top hv) hp ha hb hc
 rw [← hx0,← hz0,hfar] at ksum
 have KS:=veil ksum
 have km:=veil (show m = x % Pt.nn ∧ x < top ∧ m < top from ⟨by rw [hx0]; exact hm,by rw [hx0]; exact (p_top _).1,by rw [hm]; exact Nat.lt_trans (Nat.mod_lt _ (Nat.lt_trans (by decide) nn_odd.2)) zdh⟩)
 have kX:=veil hX
 have kY:=veil hY
 have kR:=veil hR
 have kS:=veil hS
 have kon:=veil hon
 have kr:=veil hr
 have ks:=veil hs
 have ky:=veil hy
 have kE:=veil hE
 have kt:=veil ht
 have ku:=veil hu
 have kv:=veil hv
 clear hv hu ht hE hy hs hr hon hS hR hY hX
 clear ksum hp ha hb hc hfar hm hx0 hz0
 cases f
 ·
  exact way1 Tryz.func66 [qv X Y false,dgv y,gv R S] (.call _ _ _ (fun W _ => onp_is kon.out kX.out kY.out W) <| .call _ _ _ (fun W _ => zid kr.out kR.out W) <| .call _ _ _ (fun W _ => zid ks.out kS.out W) <| hMod fun g =>
   .call _ _ _ (fun W hW => ninv_p (may_ne ks.out) (may_lt ks.out) kt.out hW.2) <| .call _ _ _ (fun W _ => numof_calls ky.out kE.out W) <| .call _ _ _ (fun W hW => nmul_p ku.out kEt.out (zhq kt.out) hW.2) <|
   .call _ _ _ (fun W hW => nmul_p kv.out kR.out (zhq kt.out) hW.2) <| .call _ _ _ (fun W _ => KS.out W) <| .call _ _ _ (fun W hW => scut_calls km.out.1 km.out.2.1 hW.2) <|
   .ins 60 (binK .eql 58 (.tmp 57) (.tmp 59) (nv m) (nv R)) (.bool (decide (m = R))) (fun W _ => zba (gN _ _ _ _ _ W) (zga km.out.2.2 kR.out W)) <| .ret _ fun _ h => ⟨rfl,h.1⟩) (by kernel_rfl)
 ·
  exact way1 Tryz.func66 [qv X Y false,dgv y,gv R S] (.call _ _ _ (fun W _ => onp_is kon.out kX.out kY.out W) <| .call _ _ _ (fun W _ => zid kr.out kR.out W) <| .call _ _ _ (fun W _ => zid ks.out kS.out W) <| hMod fun g =>
   .call _ _ _ (fun W hW => ninv_p (may_ne ks.out) (may_lt ks.out) kt.out hW.2) <| .call _ _ _ (fun W _ => numof_calls ky.out kE.out W) <| .call _ _ _ (fun W hW => nmul_p ku.out kEt.out (zhq kt.out) hW.2) <|
   .call _ _ _ (fun W hW => nmul_p kv.out kR.out (zhq kt.out) hW.2) <| .call _ _ _ (fun W _ => KS.out W) <| .ret _ fun _ h => ⟨rfl,h.1⟩) (by kernel_rfl)
theorem sver_no {X Y R S : Nat} {f : Bool} (hX : X < top) (hY : Y < top) (hR : R < top) (hS : S < top) (h : onB X Y f = false) (y : Nat → Nat) (w : World) :
  Calls Tryz.prog 66 #[qv X Y f,dgv y,gv R S] w fun e w' => e = .returned (.bool false) ∧ Ext w w':=by
 cases f with
 | true => exact sver_far hX hY hR hS y w
 | false => exact sver_off hX hY hR hS h y w
theorem mod_mul_l (E t : Nat) : E * t % Pt.nn = E % Pt.nn * t % Pt.nn:=by
 have h1:=Nat.mul_mod E t Pt.nn
 have h2:=Nat.mul_mod (E % Pt.nn) t Pt.nn
 rw [Nat.mod_mod] at h2
 rw [h1,h2]
theorem sver_yes (p : Pt.Q) {R S : Nat} (hR : R < top) (hS : S < top) (y : Nat → Nat) (hy : ∀ j,y j < 256) (w : World) :
  Calls Tryz.prog 66 #[pv p,dgv y,gv R S] w fun e w' => e = .returned (.bool (Pt.verB p (num32 y) R S)) ∧ Ext w w':=by
 have hon:=onB_of p
 have hX:=(p_top p.1).1
 have hY:=(p_top p.1).2
 have hsum : Pt.sumOf p (num32 y) R S = Pt.grp.op (Pt.grp.mul (num32 y * Pt.iG Pt.nn S % Pt.nn) Pt.base) (Pt.grp.mul (R * Pt.iG Pt.nn S % Pt.nn) p):=by
  unfold Pt.sumOf
  rw [← mod_mul_l]
 unfold pv Pt.verB
 rw [inR_may,inR_may]
 cases hf : Pt.pFar p.1 with
 | true => exact sver_far hX hY hR hS y w
 | false =>
  rw [hf] at hon
  cases hr : mayB R with
  | false => exact sver_r hX hY hR hS hon hr y w
  | true =>
   cases hs : mayB S with
   | false => exact sver_s hX hY hR hS hon hr hs y w
   | true =>
    refine (sver_all (p:=p) (m:=Pt.pX (Pt.sumOf p (num32 y) R S).1 % Pt.nn) y hX hY hR hS hon hr hs ⟨rfl,rfl,hf.symm⟩ hy rfl rfl rfl rfl rfl rfl hsum rfl rfl w).mono ?_
    rintro e w' ⟨rfl,hE⟩
    exact ⟨by simp only [Bool.not_false,Bool.true_and],hE⟩
theorem le_lo (y : Nat → Nat) : lev (fun k => y (32 - 1 - k)) 32 = be32 y 0:=by
 unfold be32
 simp only [Nat.zero_add]
theorem le_hi (y : Nat → Nat) : lev (fun k => y (32 + (32 - 1 - k))) 32 = be32 y 32:=rfl
theorem ofl_lo {b o c : Nat} {y : Nat → Nat} (hy : ∀ j,y j < 256) {w : World} (hlt : b < w.heap.size) (hcell : ∀ j,j < 64 → w.cell? ⟨b,o + j,none⟩ = some (.int .u8 (y j : Nat))) (W : World) (hW : Ext w W) : Calls Tryz.prog 92 #[.slice (some ⟨b,o,none⟩) 32 c] W fun e W' => e = .returned (.tuple #[nv (be32 y 0),.nilIface]) ∧ Ext W W':=by
 have h:=of_some b o 32 c y hy (by decide) W (Nat.lt_of_lt_of_le hlt (Below.size hW)) (fun j hj => (Below.cell (p:=⟨b,o + j,none⟩) hW hlt).trans (hcell j (by omega)))
 rw [le_lo] at h
 exact h
theorem ofl_hi {b o c : Nat} {y : Nat → Nat} (hy : ∀ j,y j < 256) {w : World} (hlt : b < w.heap.size) (hcell : ∀ j,j < 64 → w.cell? ⟨b,o + j,none⟩ = some (.int .u8 (y j : Nat))) (W : World) (hW : Ext w W) : Calls Tryz.prog 92 #[.slice (some ⟨b,o + 32,none⟩) 32 (c - 32)] W fun e W' => e = .returned (.tuple #[nv (be32 y 32),.nilIface]) ∧ Ext W W':=by
 have h:=of_some b (o + 32) 32 (c - 32) (fun j => y (32 + j)) (fun j => hy _) (by decide) W (Nat.lt_of_lt_of_le hlt (Below.size hW)) (fun j hj => by
  rw [Nat.add_assoc]
  exact (Below.cell (p:=⟨b,o + (32 + j),none⟩) hW hlt).trans (hcell (32 + j) (by omega)))
 rw [le_hi] at h
 exact h
theorem cut_lo (b o : Nat) {c : Nat} (hc : 64 ≤ c) (W : World) : (Instr.sliceAt 30 (.slice (some ⟨b,o,none⟩) 64 c) none (some (.int .i64 32)) none).run Tryz.prog W = .ok (.slice (some ⟨b,o,none⟩) 32 c) W:=by
 have h:=cut_to (some ⟨b,o,none⟩) 64 c 32 (by omega) W
 unfold cutA at h
 by_cases h0 : c = 0
 ·
  omega
 ·
  simpa [Addr.add_mid,h0] using h
theorem cut_hi (b o : Nat) {c : Nat} (hc : 64 ≤ c) (W : World) : (Instr.sliceAt 30 (.slice (some ⟨b,o,none⟩) 64 c) (some (.int .i64 32)) none none).run Tryz.prog W = .ok (.slice (some ⟨b,o + 32,none⟩) 32 (c - 32)) W:=by
 have h:=cut_from (some ⟨b,o,none⟩) 64 c 32 (by omega) W
 unfold cutA at h
 rw [if_neg (by omega)] at h
 simpa [Addr.add_mid] using h
theorem sparse_no (A : Option Addr) (n c : Nat) (hn : n ≠ 64) (w : World) :
  Calls Tryz.prog 64 #[.slice A n c] w fun e w' => e = .returned (.tuple #[gv 0 0,.iface 38 (.int .i64 2)]) ∧ Ext w w':=by
 have hn2 : ¬ (n : Int) = 64:=by omega
 clear hn
 exact way1 Tryz.func64 [.slice A n c] (.ins 10 (binK .neq 3 (.tmp 9) (.const (.int .i64 64)) (.int .i64 n) (.int .i64 64)) _ (fun W _ => neq_run hn2 W) <| .ret _ fun _ h => ⟨rfl,h⟩) (by kernel_rfl)
theorem sparse_64 (b o c : Nat) (y : Nat → Nat) (hy : ∀ j,y j < 256) (hc : 64 ≤ c) (w : World) (hlt : b < w.heap.size) (hcell : ∀ j,j < 64 → w.cell? ⟨b,o + j,none⟩ = some (.int .u8 (y j : Nat))) :
  Calls Tryz.prog 64 #[.slice (some ⟨b,o,none⟩) 64 c] w fun e w' => e = .returned (.tuple #[gv (be32 y 0) (be32 y 32),.nilIface]) ∧ Ext w w':=by
 have kx:=fun (W : World) (hW : Ext w W) => ofl_lo (c:=c) hy hlt hcell W hW
 have ky:=fun (W : World) (hW : Ext w W) => ofl_hi (c:=c) hy hlt hcell W hW
 have q1:=cut_lo b o hc
 have q2:=cut_hi b o hc
 clear hy hc hlt hcell
 generalize be32 y 0 = PX at *
 generalize be32 y 32 = PY at *
 have KX:=veil kx
 have KY:=veil ky
 have Q1:=veil q1
 have Q2:=veil q2
 clear q1 q2 kx ky
 exact way1 Tryz.func64 [.slice (some ⟨b,o,none⟩) 64 c] (.ins 15 (Instr.sliceAt 30 (.slice (some ⟨b,o,none⟩) 64 c) none (some (.int .i64 32)) none) _ (fun W _ => Q1.out W) <|
  .call _ _ _ (fun W hW => KX.out W hW) <|
  .ins 21 (Instr.sliceAt 30 (.slice (some ⟨b,o,none⟩) 64 c) (some (.int .i64 32)) none none) _ (fun W _ => Q2.out W) <|
  .call _ _ _ (fun W hW => KY.out W hW) <|
  .ret _ fun _ h => ⟨rfl,h⟩) (by kernel_rfl)
theorem code_sum (A : Option Addr) (m c : Nat) (bs : List Nat) (w : World) (hK : KT w) (hm : m = bs.length) (hmc : m ≤ c) (hle : m ≤ 100000) (hS : Bs w A bs) : Calls Tryz.prog 67 #[.slice A m c] w fun e w' => e = .returned (dgv (dgL bs)) ∧ Ext w w':=by
 subst hm
 exact sum_calls A bs.length c (fun j => bs.getD j 0) hS.1.getD hmc (by omega) w hK (src_bs hS)
theorem code_ver (X Y : Nat) (f : Bool) (y : Nat → Nat) (R S : Nat) (w : World) (hX : X < top) (hY : Y < top) (hR : R < top) (hS : S < top) (hy : ∀ j,y j < 256) : Calls Tryz.prog 66 #[qv X Y f,dgv y,gv R S] w fun e w' => e = .returned (.bool (vfL X Y f y R S)) ∧ Ext w w':=by
 cases h : onB X Y f with
 | false =>
  rw [vfL_off h]
  exact sver_no hX hY hR hS h y w
 | true =>
  obtain ⟨p,rfl,rfl,rfl⟩:=onB_some h
  rw [vfL_on]
  exact sver_yes p hR hS y hy w
theorem code_parse_no (A : Option Addr) (m c : Nat) (w : World) (hm : m ≠ 64) : Calls Tryz.prog 64 #[.slice A m c] w fun e w' => e = .returned (.tuple #[gv 0 0,.iface 38 (.int .i64 2)]) ∧ Ext w w':=sparse_no A m c hm w
theorem code_parse_64 (A : Option Addr) (m c : Nat) (bs : List Nat) (w : World) (hm : m = bs.length) (h64 : m = 64) (hc : m ≤ c) (hS : Bs w A bs) : Calls Tryz.prog 64 #[.slice A m c] w fun e w' => e = .returned (.tuple #[gv (sigR bs) (sigS bs),.nilIface]) ∧ Ext w w':=by
 subst h64
 obtain ⟨b,o,rfl,hb,hcl⟩:=hS.2.resolve_left (by omega)
 have e1 : be32 (fun j => bs.getD j 0) 0 = sigR bs:=lev_valB (bs:=bs.take 32) (hS.1.take 32) (by rw [List.length_take]; omega) fun k hk => by
  simp only [List.getD_eq_getElem?_getD,List.getElem?_take_of_lt (show 32 - 1 - k < 32 by omega),Nat.zero_add]
 have e2 : be32 (fun j => bs.getD j 0) 32 = sigS bs:=lev_valB (bs:=bs.drop 32) (hS.1.drop 32) (by rw [List.length_drop]; omega) fun k hk => by
  simp only [List.getD_eq_getElem?_getD,List.getElem?_drop]
 refine (sparse_64 b o c (fun j => bs.getD j 0) hS.1.getD hc w hb fun j hj => hcl j (by omega)).mono fun e w' ⟨he,hE⟩ => ⟨?_,hE⟩
 rw [he,e1,e2]
theorem codeL : CodeL where
 sum:=code_sum
 ver:=code_ver
 parse_odd:=code_parse_no
 parse_64:=code_parse_64
end Go.Proofs.YtbfkecfcolcclaaGreatDoor
