/-
  Of KR KS UH UI Y0 Y1.
-/
import Derived.Deep.LoopGhost
import Derived.Deep.RegionWith
import Derived.Deep.Cut
import Derived.Deep.CutRange
import Derived.Deep.MidRow
import Derived.Laws.OwnMore
import Derived.Test.YthlbemnbmbmjhaaGreatDoorZM15
import Derived.Test.YthlbemnbmbmjhaaGreatDoorZM5
import Derived.Test.YthlbemnbmbmjhaaGreatDoorZM16
import Derived.Test.YthlbemnbmbmjhaaGreatDoorZM18
import Derived.Test.YthlbemnbmbmjhaaGreatDoorZM17
import Derived.Test.YthlbemnbmbmjhaaGreatDoorZM14
import Derived.Test.YthlbemnbmbmjhaaGreatDoorZM2
import Derived.Test.YthlbemnbmbmjhaaGreatDoorZM4
import Derived.Test.YthlbemnbmbmjhaaGreatDoorZM12
import Derived.Test.YthlbemnbmbmjhaaGreatDoorZM9
set_option maxRecDepth 1000000
set_option maxHeartbeats 20000000
namespace Go.Proofs.YthlbemnbmbmjhaaGreatDoor
open Go.RowKit
open Go.Value renaming int → vI
open Go.IntKind renaming u64 → vU
open Go.Act renaming put → aP
open List renaming setIfInBounds_toArray → lA, set_cons_zero → lZ, set_cons_succ → lS
theorem texts_len {bs : List Nat} {many : Nat} {l : List (List Nat)} (h : textsB bs many = some l) {i : Nat} (hi : i < l.length) : (l.getD i []).length ≤ 65535:=by
 unfold textsB at h
 cases hg : getFs bs with
 | none => rw [hg] at h; cases h
 | some fs =>
  rw [hg] at h
  simp only at h
  split at h
  ·
   injection h with h
   subst h
   rw [zcm] at hi
   rw [zdy]
   exact (mayFs_ok (zgw hg).2 hi).2.2.1
  ·
   cases h
theorem texts_parts {bs : List Nat} {l : List (List Nat)} (h : textsB bs 2 = some l) : partsB bs = if (l.getD 1 []).length = 64 then some (l.getD 0 [],sigR (l.getD 1 []),sigS (l.getD 1 [])) else none:=by
 unfold textsB at h
 unfold partsB
 cases hg : getFs bs with
 | none => rw [hg] at h; cases h
 | some fs =>
  rw [hg] at h
  simp only at h ⊢
  split at h
  ·
   rename_i hk
   injection h with h
   subst h
   simp only [zdy]
   by_cases hq : (bsF fs 1).length = 64
   ·
    rw [if_pos hq,if_pos]
    exact ⟨hk.1,hk.2 0 (by decide),hk.2 1 (by decide),hq⟩
   ·
    rw [if_neg hq,if_neg]
    exact fun hn => hq hn.2.2.2
  ·
   cases h
theorem texts_parts_none {bs : List Nat} (h : textsB bs 2 = none) : partsB bs = none:=by
 unfold textsB at h
 unfold partsB
 cases hg : getFs bs with
 | none => rfl
 | some fs =>
  rw [hg] at h
  simp only at h ⊢
  split at h
  ·
   cases h
  ·
   rename_i hn
   rw [if_neg]
   refine fun hk => hn ⟨hk.1,fun i hi => ?_⟩
   match i,hi with
   | 0,_ => exact hk.2.1
   | 1,_ => exact hk.2.2.1
theorem ob_no {A : Option Addr} {m c : Nat} {bs : List Nat} (hm : m = bs.length) (hmc : m ≤ c) (hle : m ≤ 100000000) (h : obB bs = none) (w : World) (hS : Bs w A bs) :
  Calls Tryz.prog 61 #[.slice A m c] w fun e w' => e = .returned (.tuple #[.agg (tkC ⟨0,0,0,0,0⟩),.iface 39 (.int .i64 2)]) ∧ Ext w w' :=
 (zgn A m c bs hm hmc hle w hS).mono fun _ _ ⟨T,ev,he,hE,hA⟩ => by
  rcases hA with ⟨_,rfl,rfl⟩ | ⟨t,h1,_⟩
  ·
   exact ⟨he,hE⟩
  ·
   rw [h] at h1; cases h1
theorem ob_yes {A : Option Addr} {m c : Nat} {bs : List Nat} {t : Tk} (hm : m = bs.length) (hmc : m ≤ c) (hle : m ≤ 100000000) (h : obB bs = some t) (w : World) (hS : Bs w A bs) :
  Calls Tryz.prog 61 #[.slice A m c] w fun e w' => e = .returned (.tuple #[.agg (tkC t),.nilIface]) ∧ Ext w w' :=
 (zgn A m c bs hm hmc hle w hS).mono fun _ _ ⟨T,ev,he,hE,hA⟩ => by
  rcases hA with ⟨h1,_⟩ | ⟨t',h1,rfl,rfl⟩
  ·
   rw [h] at h1; cases h1
  ·
   rw [h] at h1
   injection h1 with h1
   subst h1
   exact ⟨he,hE⟩
theorem open9_calls (C : CodeL) (A : Option Addr) (m c : Nat) (bs : List Nat) (hm : m = bs.length) (hmc : m ≤ c) (hle : m ≤ 100000000) (w : World) (hS : Bs w A bs) :
  Calls Tryz.prog 36 #[.slice A m c] w fun e w' => ∃ T G ev,e = .returned (.tuple #[.agg T,.agg G,ev]) ∧ Ext w w' ∧ OpenC bs T G ev:=by
 have KG:=veil (fun W (hW : Bs W A bs) => tget_calls A m c bs 2 hm hmc hle (by decide) W hW)
 have k2:=neNil2
 have k3:=neNilN
 have HB:=veil hS
 clear hm hmc hle hS
 go_enter Tryz.func36,Tryz.ntmps36
 go_upto_region 1 with (fail)
 obtain ⟨g2,hg2⟩ : ∃ g,g = w.heap.size:=⟨_,rfl⟩
 obtain ⟨g3,hg3⟩ : ∃ g,g = w.heap.size + 1:=⟨_,rfl⟩
 obtain ⟨w0,hw0⟩ : ∃ W,W = (w.alloc (.cells TZ 47)).alloc (.cells Z8 78):=⟨_,rfl⟩
 have h2:=(zbx w (.cells TZ 47) (.cells Z8 78)).1
 have h3:=(zbx w (.cells TZ 47) (.cells Z8 78)).2
 have hE0:=zhe w (.cells TZ 47) (.cells Z8 78)
 rw [← hw0,← hg2] at h2
 rw [← hw0,← hg3] at h3
 rw [← hw0] at hE0
 have H0:=veil (And.intro hE0 (And.intro h2 (And.intro h3 (And.intro (show w.heap.size ≤ g2 by omega) (show g2 < g3 by omega)))))
 unfold TZ Z8 at hw0
 rw [← hw0,← hg3,← hg2]
 clear hw0 hg3 hg2 hE0 h2 h3
 go_upto_region 2 with (go_at_call 60; refine (KG.out w0 (HB.out.ext H0.out.1)).mono ?_; rintro e w1 ⟨x,ev,rfl,hE1,hA⟩)
 have H1:=veil (And.intro (H0.out.1.trans hE1) (And.intro (hE1.block H0.out.2.1) (And.intro (hE1.block H0.out.2.2.1) H0.out.2.2.2)))
 clear hE1 H0 KG
 rcases hA with ⟨hn,⟨A2,c2,rfl⟩,rfl⟩ | ⟨l,hs,hl2,hV,rfl⟩
 ·
  have hr:=zhz (texts_parts_none hn)
  clear hn
  go_wp2_with (first
   | ((with_reducible refine zan ?_); refine wpList_store_row rfl 47 _ _ rfl g2 TZ rfl rfl 47 _ H1.out.2.1 iTZ rfl zdn ?_)
   | ((with_reducible refine zan ?_); refine wpList_store_row rfl 78 _ _ rfl g3 Z8 rfl rfl 78 _ (zfe TZ H1.out.2.2.1 H1.out.2.2.2.2) iZ8 rfl z8_one ?_))
  have hF:=zes (T:=TZ) (G:=Z8) H1.out.1 H1.out.2.1 H1.out.2.2.1 ⟨H1.out.2.2.2.1,H1.out.2.2.2.2⟩
  refine bodyPost_ret (zcq rfl _ _ g2 g3 47 78 TZ Z8 (0,0) (0,0) _ _ rfl hF.2.1 Tryz.underlying47 rfl iTZ rfl hF.2.2 Tryz.underlying78 rfl iZ8) rfl ⟨_,_,_,rfl,hF.1,.inl ⟨hr,tz_tk,z8_gc,rfl⟩⟩
 ·
  have hpt:=texts_parts hs
  have hx0:=texts_len hs (i:=0) (by omega)
  obtain ⟨_,AL,cl,rfl,hcl,hx⟩:=hV
  rw [hl2] at hx hcl ⊢
  obtain ⟨b,o,hAL,hb,hx⟩:=hx.resolve_left (by decide)
  obtain ⟨A0,k0,c0,hk0,hB0⟩:=hx 0 (by decide)
  obtain ⟨A1,k1,c1,hk1,hB1⟩:=hx 1 (by decide)
  obtain ⟨x0,hx0e⟩ : ∃ x,x = l.getD 0 []:=⟨_,rfl⟩
  obtain ⟨x1,hx1e⟩ : ∃ x,x = l.getD 1 []:=⟨_,rfl⟩
  rw [← hx0e,← hx1e] at hpt
  rw [← hx0e] at c0 hk0 hB0 hx0
  rw [← hx1e] at c1 hk1 hB1
  obtain ⟨L0,hL0⟩ : ∃ L,L = x0.length:=⟨_,rfl⟩
  obtain ⟨L1,hL1⟩ : ∃ L,L = x1.length:=⟨_,rfl⟩
  rw [← hL0] at c0 hk0 hx0
  rw [← hL1] at c1 hk1 hpt
  have HP:=veil hpt
  have HL1:=veil (And.intro hL1 hk1)
  rw [Nat.add_zero] at c0
  subst hAL
  clear hx hs hx0e hx1e hpt
  cases hob : obB x0 with
  | none =>
   have KO:=veil (fun W (hW : Bs W A0 x0) => ob_no hL0 hk0 (by omega) hob W hW)
   have hr : openB bs = none:=by
    have h:=HP.out
    split at h
    ·
     rw [openB_ob h,hob]; rfl
    ·
     exact zhz h
   have HR:=veil hr
   have HB0:=veil hB0
   clear hob hr HP hB0 hB1 hk0 hk1 hx0 hL0 hL1
   go_upto_region 5 with (first
    | (go_at_call 61; refine (KO.out _ HB0.out).mono ?_; rintro e w2 ⟨rfl,hE2⟩)
    | ((with_reducible refine zan ?_); refine wpList_store_row rfl 47 _ _ rfl w2.heap.size (tkC ⟨0,0,0,0,0⟩) rfl rfl 47 _ (zaj w2 _) (iTk _) rfl (zbp _) ?_; rw [World.setRow_alloc_new]))
   have hE3:=hE2.trans (Ext.alloc w2 (.cells (tkC ⟨0,0,0,0,0⟩) 47))
   generalize w2.alloc (.cells (tkC ⟨0,0,0,0,0⟩) 47) = w3 at *
   have H3:=veil (And.intro (H1.out.1.trans hE3) (And.intro (hE3.block H1.out.2.1) (And.intro (hE3.block H1.out.2.2.1) trivial)))
   clear hE3 c0 c1 hE2
   go_wp2_with (first
    | ((with_reducible refine zan ?_); refine wpList_store_row rfl 47 _ _ rfl g2 TZ rfl rfl 47 _ H3.out.2.1 iTZ rfl zdn ?_)
    | ((with_reducible refine zan ?_); refine wpList_store_row rfl 78 _ _ rfl g3 Z8 rfl rfl 78 _ (zfe TZ H3.out.2.2.1 H1.out.2.2.2.2) iZ8 rfl z8_one ?_))
   have hF:=zes (T:=TZ) (G:=Z8) H3.out.1 H3.out.2.1 H3.out.2.2.1 ⟨H1.out.2.2.2.1,H1.out.2.2.2.2⟩
   refine bodyPost_ret (zcq rfl _ _ g2 g3 47 78 TZ Z8 (0,0) (0,0) _ _ rfl hF.2.1 Tryz.underlying47 rfl iTZ rfl hF.2.2 Tryz.underlying78 rfl iZ8) rfl ⟨_,_,_,rfl,hF.1,.inl ⟨HR.out,tz_tk,z8_gc,rfl⟩⟩
  | some t =>
   have KO:=veil (fun W (hW : Bs W A0 x0) => ob_yes hL0 hk0 (by omega) hob W hW)
   have HOB:=veil hob
   have HB0:=veil (And.intro hB0 hB1)
   clear hob hB0 hB1 hk0 hk1 hx0 hL0 hL1
   go_upto_region 5 with (first
    | (go_at_call 61; refine (KO.out _ HB0.out.1).mono ?_; rintro e w2 ⟨rfl,hE2⟩)
    | ((with_reducible refine zan ?_); refine wpList_store_row rfl 47 _ _ rfl w2.heap.size (tkC t) rfl rfl 47 _ (zaj w2 _) (iTk _) rfl (zbp _) ?_; rw [World.setRow_alloc_new]))
   have hE3:=hE2.trans (Ext.alloc w2 (.cells (tkC t) 47))
   have h7:=zaj w2 (.cells (tkC t) 47)
   generalize w2.alloc (.cells (tkC t) 47) = w3 at *
   generalize w2.heap.size = g7 at *
   have H3:=veil (And.intro (H1.out.1.trans hE3) (And.intro (hE3.block H1.out.2.1) (And.intro (hE3.block H1.out.2.2.1) (And.intro h7 hE3))))
   replace c1:=(hE3.cell hb).trans c1
   clear hE3 h7 c0 hE2 KO
   by_cases h64 : L1 = 64
   ·
    have KP:=veil (fun W (hW : Bs W A1 x1) => C.parse_64 A1 L1 k1 x1 W HL1.out.1 h64 HL1.out.2 hW)
    have hp:=HP.out
    rw [if_pos h64] at hp
    have hr : openB bs = some (t,sigR x1,sigS x1):=by rw [openB_ob hp,HOB.out]; rfl
    have HR:=veil hr
    clear hp hr h64 HP HOB HL1
    go_upto_region 8 with (first
     | (go_at_call 62; refine (KP.out _ (HB0.out.2.ext H3.out.2.2.2.2)).mono ?_; rintro e w4 ⟨rfl,hE4⟩)
     | ((with_reducible refine zan ?_); refine wpList_store_row rfl 78 _ _ rfl w4.heap.size (gc (sigR x1) (sigS x1)) rfl rfl 78 _ (zaj w4 _) (iSg _ _) rfl (zfn _ _) ?_; rw [World.setRow_alloc_new]))
    have hE5:=hE4.trans (Ext.alloc w4 (.cells (gc (sigR x1) (sigS x1)) 78))
    have h8:=zaj w4 (.cells (gc (sigR x1) (sigS x1)) 78)
    have h38 : g3 < w4.heap.size:=by
     have h:=(Array.getElem?_eq_some_iff.mp (hE4.block H3.out.2.2.1)).1
     omega
    generalize w4.alloc (.cells (gc (sigR x1) (sigS x1)) 78) = w5 at *
    generalize w4.heap.size = g8 at *
    have H7:=veil (And.intro (H3.out.1.trans hE5) (And.intro (hE5.block H3.out.2.1) (And.intro (hE5.block H3.out.2.2.1) (And.intro h8 (And.intro (hE5.block H3.out.2.2.2.1) (And.intro H1.out.2.2.2.1 (And.intro H1.out.2.2.2.2 h38)))))))
    clear hE5 h8 h38 hE4 c1 hb H3 H1 HB0 KP
    go_upto_region 10 with (fail)
    have n26 : g8 ≠ g2:=by have h:=H7.out.2.2.2.2.2.2; omega
    have n32 : g3 ≠ g2:=by have h:=H7.out.2.2.2.2.2.2; omega
    refine wp_tree (by kernel_rfl) fun Q' hQ' => ?_
    refine G_two (i:=0) (j:=1) (by kernel_rfl) ?_ ?_
    ·
     refine G_val _ rfl rfl rfl (fun W hW => zcp rfl rfl (hW.block H7.out.2.2.2.2.1) Tryz.underlying47 rfl (iTk t)) ?_
     simp only [aP,lA,lZ,lS]
     refine G_two (i:=1) (j:=2) (by kernel_rfl) ?_ ?_
     ·
      refine G_val _ rfl rfl rfl (fun W hW => zcp rfl rfl (hW.block (H7.out.2.2.2.1)) Tryz.underlying78 rfl (iSg _ _)) ?_
      simp only [aP,lA,lZ,lS]
      refine G_one (j:=2) (by kernel_rfl) ?_
      refine zhq (cells:=tkC t) _ rfl rfl rfl rfl rfl rfl H7.out.2.1 (iTk t) rfl (zbp t) ?_
      intro W8 hB8 h8
      refine G_one (j:=3) (by kernel_rfl) ?_
      refine zhq (cells:=gc (sigR x1) (sigS x1)) _ rfl rfl rfl rfl rfl rfl (but_far hB8 H7.out.2.2.1 n32) (iSg _ _) rfl (zfn _ _) ?_
      intro W9 hB9 h9
      refine G_one (j:=4) (by kernel_rfl) ?_
      refine G_val _ rfl rfl rfl (fun W hW => zei rfl rfl W) ?_
      simp only [aP,lA,lZ,lS]
      refine G_end (by kernel_rfl) hQ' fun W10 hE10 => ?_
      have hF:=two_buts H7.out.1 ⟨H7.out.2.2.2.2.2.1,H7.out.2.2.2.2.2.2.1⟩ hB8 h8 hB9 h9 hE10
      clear hB8 h8 hB9 h9 hE10 n26 n32
      go_wp2
      refine bodyPost_ret (zcq rfl _ _ g2 g3 47 78 (tkC t) (gc (sigR x1) (sigS x1)) (0,0) (0,0) _ _ rfl hF.2.1 Tryz.underlying47 rfl (iTk t) rfl hF.2.2 Tryz.underlying78 rfl (iSg _ _)) rfl ⟨_,_,_,rfl,hF.1,.inr ⟨_,_,_,HR.out,rfl,rfl,rfl⟩⟩
     ·
      refine zhq (cells:=tkC t) _ rfl rfl rfl rfl rfl rfl H7.out.2.1 (iTk t) rfl (zbp t) ?_
      intro W8 hB8 h8
      refine G_one (j:=1) (by kernel_rfl) ?_
      refine G_val _ rfl rfl rfl (fun W hW => zcp rfl rfl (hW.block (but_far hB8 H7.out.2.2.2.1 n26)) Tryz.underlying78 rfl (iSg _ _)) ?_
      simp only [aP,lA,lZ,lS]
      refine G_one (j:=3) (by kernel_rfl) ?_
      refine zhq (cells:=gc (sigR x1) (sigS x1)) _ rfl rfl rfl rfl rfl rfl (but_far hB8 H7.out.2.2.1 n32) (iSg _ _) rfl (zfn _ _) ?_
      intro W9 hB9 h9
      refine G_one (j:=4) (by kernel_rfl) ?_
      refine G_val _ rfl rfl rfl (fun W hW => zei rfl rfl W) ?_
      simp only [aP,lA,lZ,lS]
      refine G_end (by kernel_rfl) hQ' fun W10 hE10 => ?_
      have hF:=two_buts H7.out.1 ⟨H7.out.2.2.2.2.2.1,H7.out.2.2.2.2.2.2.1⟩ hB8 h8 hB9 h9 hE10
      clear hB8 h8 hB9 h9 hE10 n26 n32
      go_wp2
      refine bodyPost_ret (zcq rfl _ _ g2 g3 47 78 (tkC t) (gc (sigR x1) (sigS x1)) (0,0) (0,0) _ _ rfl hF.2.1 Tryz.underlying47 rfl (iTk t) rfl hF.2.2 Tryz.underlying78 rfl (iSg _ _)) rfl ⟨_,_,_,rfl,hF.1,.inr ⟨_,_,_,HR.out,rfl,rfl,rfl⟩⟩
    ·
     refine G_val _ rfl rfl rfl (fun W hW => zcp rfl rfl (hW.block (H7.out.2.2.2.1)) Tryz.underlying78 rfl (iSg _ _)) ?_
     simp only [aP,lA,lZ,lS]
     refine G_one (j:=0) (by kernel_rfl) ?_
     refine G_val _ rfl rfl rfl (fun W hW => zcp rfl rfl (hW.block H7.out.2.2.2.2.1) Tryz.underlying47 rfl (iTk t)) ?_
     simp only [aP,lA,lZ,lS]
     refine G_one (j:=2) (by kernel_rfl) ?_
     refine zhq (cells:=tkC t) _ rfl rfl rfl rfl rfl rfl H7.out.2.1 (iTk t) rfl (zbp t) ?_
     intro W8 hB8 h8
     refine G_one (j:=3) (by kernel_rfl) ?_
     refine zhq (cells:=gc (sigR x1) (sigS x1)) _ rfl rfl rfl rfl rfl rfl (but_far hB8 H7.out.2.2.1 n32) (iSg _ _) rfl (zfn _ _) ?_
     intro W9 hB9 h9
     refine G_one (j:=4) (by kernel_rfl) ?_
     refine G_val _ rfl rfl rfl (fun W hW => zei rfl rfl W) ?_
     simp only [aP,lA,lZ,lS]
     refine G_end (by kernel_rfl) hQ' fun W10 hE10 => ?_
     have hF:=two_buts H7.out.1 ⟨H7.out.2.2.2.2.2.1,H7.out.2.2.2.2.2.2.1⟩ hB8 h8 hB9 h9 hE10
     clear hB8 h8 hB9 h9 hE10 n26 n32
     go_wp2
     refine bodyPost_ret (zcq rfl _ _ g2 g3 47 78 (tkC t) (gc (sigR x1) (sigS x1)) (0,0) (0,0) _ _ rfl hF.2.1 Tryz.underlying47 rfl (iTk t) rfl hF.2.2 Tryz.underlying78 rfl (iSg _ _)) rfl ⟨_,_,_,rfl,hF.1,.inr ⟨_,_,_,HR.out,rfl,rfl,rfl⟩⟩
   ·
    have KP:=veil (fun W => C.parse_no A1 L1 k1 W h64)
    have hp:=HP.out
    rw [if_neg h64] at hp
    have hr:=zhz hp
    have HR:=veil hr
    clear hp hr h64 HP HOB HL1 HB0
    go_upto_region 8 with (first
     | (go_at_call 62; refine (KP.out _).mono ?_; rintro e w4 ⟨rfl,hE4⟩)
     | ((with_reducible refine zan ?_); refine wpList_store_row rfl 78 _ _ rfl w4.heap.size (gc 0 0) rfl rfl 78 _ (zaj w4 _) (iSg _ _) rfl (zfn _ _) ?_; rw [World.setRow_alloc_new]))
    have hE5:=hE4.trans (Ext.alloc w4 (.cells (gc 0 0) 78))
    generalize w4.alloc (.cells (gc 0 0) 78) = w5 at *
    have H5:=veil (And.intro (H3.out.1.trans hE5) (And.intro (hE5.block H3.out.2.1) (And.intro (hE5.block H3.out.2.2.1) trivial)))
    clear hE5 hE4 c1
    go_wp2_with (first
     | ((with_reducible refine zan ?_); refine wpList_store_row rfl 47 _ _ rfl g2 TZ rfl rfl 47 _ H5.out.2.1 iTZ rfl zdn ?_)
     | ((with_reducible refine zan ?_); refine wpList_store_row rfl 78 _ _ rfl g3 Z8 rfl rfl 78 _ (zfe TZ H5.out.2.2.1 H1.out.2.2.2.2) iZ8 rfl z8_one ?_))
    have hF:=zes (T:=TZ) (G:=Z8) H5.out.1 H5.out.2.1 H5.out.2.2.1 ⟨H1.out.2.2.2.1,H1.out.2.2.2.2⟩
    refine bodyPost_ret (zcq rfl _ _ g2 g3 47 78 TZ Z8 (0,0) (0,0) _ _ rfl hF.2.1 Tryz.underlying47 rfl iTZ rfl hF.2.2 Tryz.underlying78 rfl iZ8) rfl ⟨_,_,_,rfl,hF.1,.inl ⟨HR.out,tz_tk,z8_gc,rfl⟩⟩
theorem openC_all {bs : List Nat} {T G : Array Value} {ev : Value} (h : OpenC bs T G ev) : ∃ t r s,T = tkC t ∧ G = gc r s ∧ ((openB bs = none ∧ ev = .iface 39 (.int .i64 2)) ∨ (openB bs = some (t,r,s) ∧ ev = .nilIface)):=by
 rcases h with ⟨h,rfl,rfl,rfl⟩ | ⟨t,r,s,h,rfl,rfl,rfl⟩
 ·
  exact ⟨_,_,_,rfl,rfl,.inl ⟨h,rfl⟩⟩
 ·
  exact ⟨_,_,_,rfl,rfl,.inr ⟨h,rfl⟩⟩
theorem bodyA_ok {w' : World} {t : Tk} {x ev : Value} (h : BodyA w' t x ev) (hm : mayT t = true) : ∃ A c,x = .slice A 55 c ∧ 55 ≤ c ∧ Bs w' A (tkB t) ∧ ev = .nilIface:=by
 rcases h with ⟨h,_⟩ | ⟨_,⟨A,c,e,hc,hB⟩,he⟩
 ·
  rw [hm] at h; cases h
 ·
  exact ⟨A,c,e,hc,hB,he⟩
theorem check9_calls (C : CodeL) (X Y : Nat) (f : Bool) (hX : X < top) (hY : Y < top) (A : Option Addr) (m c : Nat) (bs : List Nat) (hm : m = bs.length) (hmc : m ≤ c) (hle : m ≤ 100000000) (w : World) (hK : KT w) (hS : Bs w A bs) :
  Calls Tryz.prog 37 #[.slice A m c,qv X Y f] w fun e w' => e = .returned (.tuple #[tkV (checkB lowL X Y f bs).1,errV (checkB lowL X Y f bs).2]) ∧ Ext w w':=by
 have KO:=veil (fun W => open9_calls C A m c bs hm hmc hle W)
 have k2:=neNil2
 have k3:=neNilN
 have HB:=veil (And.intro hS hK)
 have HX:=veil (And.intro hX hY)
 obtain ⟨Q,hC⟩ : ∃ C,C = qc X Y f:=⟨_,rfl⟩
 have HC:=veil (And.intro hC (And.intro (show (Tryz.prog.info? 29).map (·.size) = some Q.size by rw [hC]; exact iT X Y f) (show Q.all (·.oneCell') = true by rw [hC]; exact zcr X Y f)))
 unfold qv
 rw [← hC]
 clear hm hmc hle hS hX hY hC hK
 go_enter Tryz.func37,Tryz.ntmps37
 go_upto_region 1 with (fail)
 obtain ⟨g3,hg3⟩ : ∃ g,g = w.heap.size:=⟨_,rfl⟩
 obtain ⟨g4,hg4⟩ : ∃ g,g = w.heap.size + 1:=⟨_,rfl⟩
 obtain ⟨w0,hw0⟩ : ∃ W,W = (w.alloc (.cells Q 29)).alloc (.cells TZ 47):=⟨_,rfl⟩
 have h3:=(zbx w (.cells Q 29) (.cells TZ 47)).1
 have h4:=(zbx w (.cells Q 29) (.cells TZ 47)).2
 have hE0:=zhe w (.cells Q 29) (.cells TZ 47)
 rw [← hw0,← hg3] at h3
 rw [← hw0,← hg4] at h4
 rw [← hw0] at hE0
 have H0:=veil (And.intro hE0 (And.intro h3 (And.intro h4 (And.intro (show w.heap.size ≤ g4 by omega) (HB.out.1.ext hE0)))))
 unfold TZ at hw0
 rw [← hw0,← hg4,← hg3]
 clear hw0 hg3 hg4 hE0 h3 h4
 go_upto_region 2 with (first
  | (go_at_call 36; refine (KO.out w0 H0.out.2.2.2.2).mono ?_; rintro e w1 ⟨T,G,ev,rfl,hE1,hA⟩; obtain ⟨t,r,s,rfl,rfl,hY⟩:=openC_all hA)
  | ((with_reducible refine zan ?_); refine wpList_store_row rfl 47 _ _ rfl w1.heap.size (tkC t) rfl rfl 47 _ (zbx w1 _ _).1 (iTk t) rfl (zbp t) ?_)
  | ((with_reducible refine zan ?_); refine wpList_store_row rfl 78 _ _ rfl (w1.heap.size + 1) (gc r s) rfl rfl 78 _ (zfe _ (zbx w1 _ _).2 (Nat.lt_succ_self _)) (iSg r s) rfl (zfn r s) ?_))
 have hF:=zes (T:=tkC t) (G:=gc r s) (zhe w1 (.cells TZ 47) (.cells Z8 78)) (zbx w1 _ _).1 (zbx w1 _ _).2 ⟨Nat.le_refl _,Nat.lt_succ_self _⟩
 have hE0:=H0.out.1.trans hE1
 have h31:=(hE1.trans hF.1).block H0.out.2.1
 have h41:=(hE1.trans hF.1).block H0.out.2.2.1
 have hE2:=hE0.trans hF.1
 have h6:=hF.2.1
 have h7:=hF.2.2
 clear hF hE0 hE1 hA
 obtain ⟨g6,hg6⟩ : ∃ g,g = w1.heap.size:=⟨_,rfl⟩
 obtain ⟨g7,hg7⟩ : ∃ g,g = w1.heap.size + 1:=⟨_,rfl⟩
 rw [← hg7,← hg6] at hE2 h6 h7 h31 h41 ⊢
 obtain ⟨w2,hw2⟩ : ∃ W,W = (((w1.alloc (.cells TZ 47)).alloc (.cells Z8 78)).setRow g6 (tkC t)).setRow g7 (gc r s):=⟨_,rfl⟩
 rw [← hw2] at hE2 h6 h7 h31 h41
 unfold TZ Z8 at hw2
 rw [← hw2]
 have H2:=veil (And.intro hE2 (And.intro h31 (And.intro h41 (And.intro h6 (And.intro h7 H0.out.2.2.2.1)))))
 have HY:=veil hY
 clear hw2 hg6 hg7 hE2 h31 h41 h6 h7 hY KO H0
 rcases HY.out with ⟨hp,rfl⟩ | ⟨hp,rfl⟩
 ·
  have hr:=checkB_none (L:=lowL) (X:=X) (Y:=Y) (f:=f) hp
  clear HY hp
  go_wp2_with ((with_reducible refine zan ?_); refine wpList_store_row rfl 47 _ _ rfl g4 TZ rfl rfl 47 _ H2.out.2.2.1 iTZ rfl zdn ?_)
  refine bodyPost_ret (zax rfl _ _ g4 47 TZ (0,0) _ rfl (setRow_heap w2 g4 _ TZ 47 (0,0) H2.out.2.2.1) Tryz.underlying47 rfl iTZ) rfl ⟨by rw [hr]; rfl,zas H2.out.1 H2.out.2.2.2.2.2 _⟩
 ·
  have hr : checkB lowL X Y f bs = if vfL X Y f (dgL (tkB t)) r s = true then (t,0) else (⟨0,0,0,0,0⟩,8):=checkB_some (L:=lowL) (X:=X) (Y:=Y) (f:=f) hp
  have hso:=signed_open HB.out.1.1 hp
  have HR:=veil hr
  have HO:=veil hso
  have KB:=veil (fun W => body9_calls t W)
  unfold tkV at KB
  clear HY hp hr hso
  go_upto_region 5 with (first
   | ((with_reducible refine zam 22 ?_); refine wpList_load_row rfl 47 _ rfl g6 rfl 47 (tkC t) (0,0) _ H2.out.2.2.2.1 Tryz.underlying47 rfl (iTk t) ?_)
   | (go_at_call 63; refine (KB.out _).mono ?_; rintro e w4 ⟨x,ev,rfl,hE4,hA⟩; obtain ⟨A2,c2,rfl,hc2,hB4,rfl⟩:=bodyA_ok hA HO.out.2.1))
  have H4:=veil (And.intro (H2.out.1.trans hE4) (And.intro (hE4.block H2.out.2.1) (And.intro (hE4.block H2.out.2.2.1) (And.intro (hE4.block H2.out.2.2.2.1) (And.intro (hE4.block H2.out.2.2.2.2.1) (And.intro H2.out.2.2.2.2.2 hB4))))))
  clear hE4 hB4 H2 KB hA
  obtain ⟨v,hv⟩ : ∃ v,v = vfL X Y f (dgL (tkB t)) r s:=⟨_,rfl⟩
  have KS:=veil (fun W (hW : Ext w4 W) => C.sum A2 55 c2 (tkB t) W (kt_now HB.out.2 (H4.out.1.trans hW)) (tkB_length t).symm hc2 (by decide) (H4.out.2.2.2.2.2.2.ext hW))
  have KV : Hid (∀ W : World,Calls Tryz.prog 64 #[.agg Q,dgv (dgL (tkB t)),.agg (gc r s)] W fun e w' => e = .returned (.bool v) ∧ Ext W w'):=veil (fun W => by
   have h:=C.ver X Y f (dgL (tkB t)) r s W HX.out.1 HX.out.2 (by have:=HO.out.2.2.2.1; exact this) (by have:=HO.out.2.2.2.2; exact this) (dgL_lt _)
   unfold qv gv at h
   rw [← HC.out.1,← hv] at h
   exact h)
  have HV:=veil hv
  clear hv
  refine zdf 6 [(true,[0,1,2,3,4,5])] (by kernel_rfl) (by kernel_rfl) fun Q' hQ' => ?_
  refine' zbz (A:=_) _ rfl (by kernel_rfl) ?h1 ?h2
  case h1 =>
   intro D hD hN
   have K1:=veil (fun x : Gw D => hD.calls (v:=dgv (dgL (tkB t))) (fun W hW => KS.out W hW) x)
   have K2:=veil (fun x : Gw D => hD.calls (v:=.bool v) (fun W _ => KV.out W) x)
   simp only [pickI,consO,List.getElem?_cons_zero,List.getElem?_cons_succ]
   go_big_quiet_want
   refine zep (.agg Q) (fun x => zcp rfl rfl (hD.block H4.out.2.1 x) Tryz.underlying29 rfl HC.out.2.1) ?_
   simp only [aP,lA,lZ,lS]
   go_big_quiet_on
   iterate 2 (go_big_quiet_step (exact K1.out _))
   go_big_quiet_want
   refine zep (.agg (gc r s)) (fun x => zcp rfl rfl (hD.block H4.out.2.2.2.2.1 x) Tryz.underlying78 rfl (iSg r s)) ?_
   simp only [aP,lA,lZ,lS]
   go_big_quiet_on
   iterate 2 (go_big_quiet_step (exact K2.out _))
   exact zcz
  refine zct hQ' fun w5 hE5 => ?_
  have H5:=veil (And.intro (H4.out.1.trans hE5) (And.intro (hE5.block H4.out.2.2.1) (And.intro (hE5.block H4.out.2.2.2.1) H4.out.2.2.2.2.2.1)))
  clear hE5 H4 KS KV
  cases v with
  | false =>
   have hr : checkB lowL X Y f bs = (⟨0,0,0,0,0⟩,8):=by rw [HR.out,← HV.out]; rfl
   go_wp2_with ((with_reducible refine zan ?_); refine wpList_store_row rfl 47 _ _ rfl g4 TZ rfl rfl 47 _ H5.out.2.1 iTZ rfl zdn ?_)
   refine bodyPost_ret (zax rfl _ _ g4 47 TZ (0,0) _ rfl (setRow_heap w5 g4 _ TZ 47 (0,0) H5.out.2.1) Tryz.underlying47 rfl iTZ) rfl ⟨by rw [hr]; rfl,zas H5.out.1 H5.out.2.2.2 _⟩
  | true =>
   have hr : checkB lowL X Y f bs = (t,0):=by rw [HR.out,← HV.out]; rfl
   go_wp2_with (first
    | ((with_reducible refine zam 34 ?_); refine wpList_load_row rfl 47 _ rfl g6 rfl 47 (tkC t) (0,0) _ H5.out.2.2.1 Tryz.underlying47 rfl (iTk t) ?_)
    | ((with_reducible refine zan ?_); refine wpList_store_row rfl 47 _ _ rfl g4 (tkC t) rfl rfl 47 _ H5.out.2.1 (iTk t) rfl (zbp t) ?_))
   refine bodyPost_ret (zax rfl _ _ g4 47 (tkC t) (0,0) _ rfl (setRow_heap w5 g4 _ (tkC t) 47 (0,0) H5.out.2.1) Tryz.underlying47 rfl (iTk t)) rfl ⟨by rw [hr]; rfl,zas H5.out.1 H5.out.2.2.2 _⟩
theorem kcheck_calls (C : CodeL) (v : Value) (l : List Ky) (at_ : Int) (A : Option Addr) (m c : Nat) (bs : List Nat) (w : World) (hK : KT w) (hF : Ks w v l) (hT : TopK l) (hL : l.length ≤ 1000000000) (hm : m = bs.length) (hmc : m ≤ c) (hle : m ≤ 100000000) (hS : Bs w A bs) :
  Calls Tryz.prog 17 #[v,.slice A m c,.int .i64 at_] w fun e w' => e = .returned (.tuple #[tkV (checkC lowL l bs at_).1,errV (checkC lowL l bs at_).2]) ∧ Ext w w':=by
 have KM:=veil (fun W (hW : Ks W v l) => zfh v l W hW hT hL)
 have KO:=veil (fun W => open9_calls C A m c bs hm hmc hle W)
 have KF:=veil (fun id W (hW : Ks W v l) => find_calls v l id at_ W hW hL)
 have KC:=veil (fun X Y f hX hY W hKW => check9_calls C X Y f hX hY A m c bs hm hmc hle W hKW)
 have k2:=neNil2
 have k3:=neNilN
 have HB:=veil (And.intro hF (And.intro hS (And.intro hK hT)))
 obtain ⟨R,hR⟩ : ∃ R,R = checkC lowL l bs at_:=⟨_,rfl⟩
 rw [← hR]
 unfold checkC at hR
 clear hm hmc hle hS hF hT hL hK
 go_enter Tryz.func17,Tryz.ntmps17
 go_upto_region 1 with (fail)
 obtain ⟨g,hg⟩ : ∃ g,g = w.heap.size:=⟨_,rfl⟩
 obtain ⟨w0,hw0⟩ : ∃ W,W = w.alloc (.cells TZ 47):=⟨_,rfl⟩
 have h0:=zaj w (.cells TZ 47)
 have hE0:=Ext.alloc w (.cells TZ 47)
 rw [← hw0] at hE0
 rw [← hw0,← hg] at h0
 have H0:=veil (And.intro hE0 (And.intro h0 (show w.heap.size ≤ g by omega)))
 unfold TZ at hw0
 rw [← hw0,← hg]
 clear hw0 hg h0 hE0
 generalize mayK l = r at *
 cases r with
 | false =>
  obtain rfl : R = (⟨0,0,0,0,0⟩,1):=hR
  go_upto_region 2 with (go_at_call 10; refine (KM.out _ (HB.out.1.ext H0.out.1)).mono ?_; rintro e w1 ⟨rfl,hE1⟩)
  have H1:=veil (And.intro (H0.out.1.trans hE1) (hE1.block H0.out.2.1))
  clear hE1
  go_wp2_with ((with_reducible refine zan ?_); refine wpList_store_row rfl 47 _ _ rfl g TZ rfl rfl 47 _ H1.out.2 iTZ rfl zdn ?_)
  refine bodyPost_ret (zax rfl _ _ g 47 TZ (0,0) _ rfl (setRow_heap w1 g _ TZ 47 (0,0) H1.out.2) Tryz.underlying47 rfl iTZ) rfl ⟨rfl,zas H1.out.1 H0.out.2.2 _⟩
 | true =>
  have hR : R = kcheckB lowL l bs at_:=hR
  have HR:=veil hR
  clear hR
  go_upto_region 3 with (go_at_call 10; refine (KM.out _ (HB.out.1.ext H0.out.1)).mono ?_; rintro e w1 ⟨rfl,hE1⟩)
  have H1:=veil (And.intro (H0.out.1.trans hE1) (hE1.block H0.out.2.1))
  clear hE1 KM
  go_upto_region 4 with (first
   | (go_at_call 36; refine (KO.out w1 (HB.out.2.1.ext H1.out.1)).mono ?_; rintro e w2 ⟨T,G,ev,rfl,hE2,hA⟩; obtain ⟨t,r,s,rfl,rfl,hY⟩:=openC_all hA)
   | ((with_reducible refine zan ?_); refine wpList_store_row rfl 47 _ _ rfl w2.heap.size (tkC t) rfl rfl 47 _ (zbx w2 _ _).1 (iTk t) rfl (zbp t) ?_)
   | ((with_reducible refine zan ?_); refine wpList_store_row rfl 78 _ _ rfl (w2.heap.size + 1) (gc r s) rfl rfl 78 _ (zfe _ (zbx w2 _ _).2 (Nat.lt_succ_self _)) (iSg r s) rfl (zfn r s) ?_))
  have hF:=zes (T:=tkC t) (G:=gc r s) (zhe w2 (.cells TZ 47) (.cells Z8 78)) (zbx w2 _ _).1 (zbx w2 _ _).2 ⟨Nat.le_refl _,Nat.lt_succ_self _⟩
  have hE3:=H1.out.1.trans (hE2.trans hF.1)
  have hb3:=(hE2.trans hF.1).block H1.out.2
  have h8:=hF.2.1
  clear hF hE2 hA
  obtain ⟨g8,hg8⟩ : ∃ g,g = w2.heap.size:=⟨_,rfl⟩
  obtain ⟨g9,hg9⟩ : ∃ g,g = w2.heap.size + 1:=⟨_,rfl⟩
  rw [← hg9,← hg8] at hE3 hb3 h8 ⊢
  obtain ⟨w3,hw3⟩ : ∃ W,W = (((w2.alloc (.cells TZ 47)).alloc (.cells Z8 78)).setRow g8 (tkC t)).setRow g9 (gc r s):=⟨_,rfl⟩
  rw [← hw3] at hE3 hb3 h8
  unfold TZ Z8 at hw3
  rw [← hw3]
  have H3:=veil (And.intro hE3 (And.intro hb3 h8))
  have HY:=veil hY
  clear hw3 hg8 hg9 hE3 hb3 h8 hY KO H1
  rcases HY.out with ⟨hp,rfl⟩ | ⟨hp,rfl⟩
  ·
   have hr : R = (⟨0,0,0,0,0⟩,2):=HR.out.trans (zem hp)
   subst hr
   clear HY hp
   go_wp2_with ((with_reducible refine zan ?_); refine wpList_store_row rfl 47 _ _ rfl g TZ rfl rfl 47 _ H3.out.2.1 iTZ rfl zdn ?_)
   refine bodyPost_ret (zax rfl _ _ g 47 TZ (0,0) _ rfl (setRow_heap w3 g _ TZ 47 (0,0) H3.out.2.1) Tryz.underlying47 rfl iTZ) rfl ⟨rfl,zas H3.out.1 H0.out.2.2 _⟩
  ·
   have hr : R = match findK l t.k at_ with
    | none => (⟨0,0,0,0,0⟩,4)
    | some k => checkB lowL k.x k.y k.f bs:=HR.out.trans (zdi hp)
   obtain ⟨_,_,_,_,c4⟩:=cells_tk9 H3.out.2.2
   have KF2:=veil (KF.out t.k w3 (HB.out.1.ext H3.out.1))
   have hFK : ∀ k,findK l t.k at_ = some k → k.x < top ∧ k.y < top:=fun k hk => HB.out.2.2.2 k (findK_cnt hk).2
   have HFK:=veil hFK
   have HRR:=veil hr
   clear HY hp hr KF hFK
   generalize t.k = id at *
   generalize findK l id at_ = F at *
   go_upto_region 7 with (first
    | (go_at_call 22; refine KF2.out.mono ?_; rintro e w4 ⟨rfl,hE4⟩)
    | ((with_reducible refine zam 11 ?_); refine zda (zs:=PZ) _ _ rfl rfl rfl rfl rfl rfl (fun _ => rfl) (fun _ => rfl) (fun _ => rfl) (qO_info F) (zis F) (qO_one F) ?_; intro g11 W5 hg11 h11 hE5))
   have hE45:=hE4.trans hE5
   have H5:=veil (And.intro (H3.out.1.trans hE45) (And.intro (hE45.block H3.out.2.1) h11))
   clear hE4 hE5 hE45 h11 c4 KF2 H3
   cases F with
   | none =>
    obtain rfl : R = (⟨0,0,0,0,0⟩,4):=HRR.out
    go_wp2_with ((with_reducible refine zan ?_); refine wpList_store_row rfl 47 _ _ rfl g TZ rfl rfl 47 _ H5.out.2.1 iTZ rfl zdn ?_)
    refine bodyPost_ret (zax rfl _ _ g 47 TZ (0,0) _ rfl (setRow_heap W5 g _ TZ 47 (0,0) H5.out.2.1) Tryz.underlying47 rfl iTZ) rfl ⟨rfl,zas H5.out.1 H0.out.2.2 _⟩
   | some k =>
    have hr : R = checkB lowL k.x k.y k.f bs:=HRR.out
    have hkt:=HFK.out k rfl
    have KC2:=veil (KC.out k.x k.y k.f hkt.1 hkt.2 W5 (kt_now HB.out.2.2.1 H5.out.1) (HB.out.2.1.ext H5.out.1))
    rw [← hr] at KC2
    clear hr HRR HFK hkt KC
    obtain ⟨Tk0,n0⟩:=R
    unfold qv tkV at KC2
    have hst:=fun (W : World) (hW : Ext W5 W) => hW.block H5.out.2.1
    have HST:=veil hst
    clear hst
    simp only [Option.isSome] at *
    go_wp2_with (first
     | ((with_reducible refine zam 41 ?_); refine wpList_load_row rfl 29 _ rfl g11 rfl 29 (qc k.x k.y k.f) (0,0) _ H5.out.2.2 Tryz.underlying29 rfl (iT k.x k.y k.f) ?_)
     | (go_at_call 37; refine KC2.out.mono ?_; rintro e w6 ⟨rfl,hE6⟩; have HE6:=veil hE6)
     | ((with_reducible refine zan ?_); refine wpList_store_row rfl 47 _ _ rfl g (tkC Tk0) rfl rfl 47 _ (HST.out _ HE6.out) (iTk Tk0) rfl (zbp Tk0) ?_))
    refine bodyPost_ret (zax rfl _ _ g 47 (tkC Tk0) (0,0) _ rfl (setRow_heap w6 g _ (tkC Tk0) 47 (0,0) (HST.out _ HE6.out)) Tryz.underlying47 rfl (iTk Tk0)) rfl ⟨rfl,zas (H5.out.1.trans HE6.out) H0.out.2.2 _⟩
theorem kcheck_nil (w : World) : Calls Tryz.prog 17 #[.slice none 0 0,.slice none 0 0,.int .i64 0] w fun e w' => e = .returned (.tuple #[.agg (tkC ⟨0,0,0,0,0⟩),.iface 39 (.int .i64 2)]) ∧ Ext w w':=by
 have KM : Hid (∀ W : World,Calls Tryz.prog 10 #[.slice none 0 0] W fun e w' => e = .returned (.bool true) ∧ Ext W w'):=veil (fun W => zfh _ [] W (Ls.nil W none 0) (fun k hk => by cases hk) (by decide))
 have KO:=veil (fun W => open_nil_calls W)
 have k2:=neNil2
 go_enter Tryz.func17,Tryz.ntmps17
 go_upto_region 1 with (fail)
 obtain ⟨g,hg⟩ : ∃ g,g = w.heap.size:=⟨_,rfl⟩
 obtain ⟨w0,hw0⟩ : ∃ W,W = w.alloc (.cells TZ 47):=⟨_,rfl⟩
 have h0:=zaj w (.cells TZ 47)
 have hE0:=Ext.alloc w (.cells TZ 47)
 rw [← hw0] at hE0
 rw [← hw0,← hg] at h0
 have H0:=veil (And.intro hE0 (And.intro h0 (show w.heap.size ≤ g by omega)))
 unfold TZ at hw0
 rw [← hw0,← hg]
 clear hw0 hg h0 hE0
 go_upto_region 3 with (go_at_call 10; refine (KM.out _).mono ?_; rintro e w1 ⟨rfl,hE1⟩)
 have H1:=veil (And.intro (H0.out.1.trans hE1) (hE1.block H0.out.2.1))
 clear hE1 KM
 go_upto_region 4 with (first
  | (go_at_call 36; refine (KO.out w1).mono ?_; rintro e w2 ⟨rfl,hE2⟩)
  | ((with_reducible refine zan ?_); refine wpList_store_row rfl 47 _ _ rfl w2.heap.size (tkC ⟨0,0,0,0,0⟩) rfl rfl 47 _ (zbx w2 _ _).1 (iTk _) rfl (zbp _) ?_)
  | ((with_reducible refine zan ?_); refine wpList_store_row rfl 78 _ _ rfl (w2.heap.size + 1) (gc 0 0) rfl rfl 78 _ (zfe _ (zbx w2 _ _).2 (Nat.lt_succ_self _)) (iSg 0 0) rfl (zfn 0 0) ?_))
 have hF:=zes (T:=tkC ⟨0,0,0,0,0⟩) (G:=gc 0 0) (zhe w2 (.cells TZ 47) (.cells Z8 78)) (zbx w2 _ _).1 (zbx w2 _ _).2 ⟨Nat.le_refl _,Nat.lt_succ_self _⟩
 have hE3:=H1.out.1.trans (hE2.trans hF.1)
 have hb3:=(hE2.trans hF.1).block H1.out.2
 clear hF hE2
 obtain ⟨g8,hg8⟩ : ∃ g,g = w2.heap.size:=⟨_,rfl⟩
 obtain ⟨g9,hg9⟩ : ∃ g,g = w2.heap.size + 1:=⟨_,rfl⟩
 rw [← hg9,← hg8] at hE3 hb3 ⊢
 obtain ⟨w3,hw3⟩ : ∃ W,W = (((w2.alloc (.cells TZ 47)).alloc (.cells Z8 78)).setRow g8 (tkC ⟨0,0,0,0,0⟩)).setRow g9 (gc 0 0):=⟨_,rfl⟩
 rw [← hw3] at hE3 hb3
 unfold TZ Z8 at hw3
 rw [← hw3]
 have H3:=veil (And.intro hE3 hb3)
 clear hw3 hg8 hg9 hE3 hb3 KO H1
 go_wp2_with ((with_reducible refine zan ?_); refine wpList_store_row rfl 47 _ _ rfl g TZ rfl rfl 47 _ H3.out.2 iTZ rfl zdn ?_)
 refine bodyPost_ret (zax rfl _ _ g 47 TZ (0,0) _ rfl (setRow_heap w3 g _ TZ 47 (0,0) H3.out.2) Tryz.underlying47 rfl iTZ) rfl ⟨rfl,zas H3.out.1 H0.out.2.2 _⟩
theorem kt_keep (w w' : World) (h : KT w) (k : Ext w w') : KT w':=kt_now h k
theorem code10 (C : CodeL) : Code10 lowL KT where
 keep:=kt_keep
 base:=base_calls
 may:=fun v l w hF hT hL => zfh v l w hF hT (Nat.le_trans hL (by decide))
 find:=fun v l id at_ w hF hT hL => find10_calls v l id at_ w hF hT (Nat.le_trans hL (by decide))
 bytes:=fun v l w hF hT hL => kbytes_calls v l w hF hT (Nat.le_trans hL (by decide))
 parse:=fun A m c bs w hm hmc hle hS => kparse_calls A m c bs hm hmc (Nat.le_trans hle (by decide)) w hS
 check:=fun v l at_ A m c bs w hK hF hT hL hm hmc hle hS => kcheck_calls C v l at_ A m c bs w hK hF hT (Nat.le_trans hL (by decide)) hm hmc (Nat.le_trans hle (by decide)) hS
 check_nil:=kcheck_nil
/-! ### the field of n -/
def Fn (w : World) (b : Nat) : Prop:=∃ N Q,Fok Pt.nn N Q ∧ Fb w b Pt.nn N Q
theorem Fn.ext {w w' : World} {b : Nat} (h : Fn w b) (k : Ext w w') : Fn w' b:=by
 obtain ⟨N,Q,h1,h2⟩:=h
 exact ⟨N,Q,h1,h2.call k⟩
theorem Fn.but {w w' : World} {b r : Nat} (h : Fn w b) (k : But r w w') (hne : b ≠ r) : Fn w' b:=by
 obtain ⟨N,Q,h1,h2⟩:=h
 exact ⟨N,Q,h1,World.rowIs.of_block h2 (k.block b h2.lt (fun e => hne (Option.some.inj e)))⟩
section
variable {b : Nat} {w : World}
theorem nadd_p {X Y Z : Nat} (hZ : Z = (X % Pt.nn + Y % Pt.nn) % Pt.nn) (hX : X < top) (hY : Y < top) (hF : Fn w b) : Calls Tryz.prog 110 #[ptrTo b,nv X,nv Y] w fun e w' => e = .returned (nv Z) ∧ Ext w w':=by
 obtain ⟨N,Q,h1,h2⟩:=hF
 exact fadd2_calls b X Y Pt.nn N Q Z hX hY h1 hZ.symm w h2
theorem ncut_p {X Z : Nat} (hZ : Z = X % Pt.nn) (hX : X < top) (hF : Fn w b) : Calls Tryz.prog 110 #[ptrTo b,nv X,nv 0] w fun e w' => e = .returned (nv Z) ∧ Ext w w' :=
 nadd_p (by rw [hZ,Nat.zero_mod,Nat.add_zero,Nat.mod_mod]) hX zdt hF
theorem nmul_p {X Y Z : Nat} (hZ : Z = X * Y % Pt.nn) (hX : X < top) (hY : Y < top) (hF : Fn w b) : Calls Tryz.prog 89 #[ptrTo b,nv X,nv Y] w fun e w' => e = .returned (nv Z) ∧ Ext w w':=by
 obtain ⟨N,Q,h1,h2⟩:=hF
 exact fmul2_calls b X Y Pt.nn N Q Z hX hY h1 hZ.symm w h2
theorem ninv_p {X t : Nat} (h0 : X ≠ 0) (hX : X < Pt.nn) (ht : t = Pt.iG Pt.nn X) (hF : Fn w b) : Calls Tryz.prog 87 #[ptrTo b,nv X] w fun e w' => e = .returned (.tuple #[nv t,.nilIface]) ∧ Ext w w':=by
 obtain ⟨N,Q,h1,h2⟩:=hF
 refine (zih b X Pt.nn N Q (Nat.lt_trans hX nn_top) h1 w h2).mono ?_
 rintro e w' ⟨⟨y,hy,hi,rfl⟩,hb⟩
 have hg:=Pt.gcd_nn h0 hX
 have e1 : y = t:=by rw [ht]; exact Pt.iG_of Pt.nn Pt.nn_root Pt.nn_one hy (hi hg)
 rw [zif hg,e1]
 exact ⟨rfl,hb⟩
end
/-! ### a maker -/
theorem gc_size (r s : Nat) : (gc 0 0).size = (gc r s).size:=by simp [gc]
section
variable (g : Nat) (W : World)
end
/-! ### what the layers below answer -/
theorem ofl_is {y : Nat → Nat} {X : Nat} (hy : ∀ j,y j < 256) (hX : X = num32 y) {g : Nat} (w : World) (hb : w.heap[g]? = some (.cells (dgc y) 112 (0,0))) : Calls Tryz.prog 81 #[.slice (some ⟨g,0,none⟩) 32 32] w fun e w' => e = .returned (.tuple #[nv X,.nilIface]) ∧ Ext w w':=by
 subst hX
 exact zgb g 0 32 32 y hy (by decide) w (Array.getElem?_eq_some_iff.1 hb).1 (fun j hj => by rw [Nat.zero_add,cell_of_row w g j _ _ _ hb]; exact zde _ hj)
theorem mulb_is {K : Nat} (hK : K < top) {P : Pt.Q} (hP : P = Pt.grp.mul K Pt.base) (w : World) : Calls Tryz.prog 125 #[nv K,qv Pt.gx Pt.gy false] w fun e w' => e = .returned (.tuple #[qv (Pt.pX P.1) (Pt.pY P.1) (Pt.pFar P.1),.nilIface]) ∧ Ext w w':=by
 subst hP
 have h:=mul_yes K hK Pt.base w
 unfold qvP at h
 rwa [base_x.1,base_x.2.1,base_x.2.2] at h
theorem mulq_is {K X Y : Nat} {f : Bool} (hK : K < top) {p q : Pt.Q} (hp : X = Pt.pX p.1 ∧ Y = Pt.pY p.1 ∧ f = Pt.pFar p.1) (hq : q = Pt.grp.mul K p) (w : World) : Calls Tryz.prog 125 #[nv K,qv X Y f] w fun e w' => e = .returned (.tuple #[qv (Pt.pX q.1) (Pt.pY q.1) (Pt.pFar q.1),.nilIface]) ∧ Ext w w':=by
 obtain ⟨rfl,rfl,rfl⟩:=hp
 subst hq
 exact mul_yes K hK p w
theorem addq_is {a b c : Pt.Q} (hc : c = Pt.grp.op a b) (w : World) : Calls Tryz.prog 126 #[qv (Pt.pX a.1) (Pt.pY a.1) (Pt.pFar a.1),qv (Pt.pX b.1) (Pt.pY b.1) (Pt.pFar b.1)] w fun e w' => e = .returned (.tuple #[qv (Pt.pX c.1) (Pt.pY c.1) (Pt.pFar c.1),.nilIface]) ∧ Ext w w':=by
 subst hc; exact add_yes a b w
theorem onp_is {X Y : Nat} {f r : Bool} (h : onB X Y f = r) (hX : X < top) (hY : Y < top) (w : World) : Calls Tryz.prog 47 #[qv X Y f] w fun e w' => e = .returned (.bool r) ∧ Ext w w':=by
 subst h; exact on_is X Y f hX hY w
theorem eqN0 {X : Nat} (hX : X < top) (h0 : X ≠ 0) (W : World) : (binOp .eql 27 (nv X) (nv 0)).run Tryz.prog W = .ok (.bool false) W:=by
 have e:=eql_num hX zdt W
 rw [decide_eq_false h0] at e
 exact e
theorem iz_yes (w : World) :
  Calls Tryz.prog 118 #[nv 0] w fun e w' => e = .returned (.bool true) ∧ Ext w w':=by
 unfold nv nc
 go_enter Tryz.func118,Tryz.ntmps118
 go_upto_region 1 with (fail)
 refine zck fun w1 hx b0 => ?_
 have b0 : w1.heap[w.heap.size]? = some (.cells (nc 0) 27 (0,0)):=b0
 refine' zau (m:=4) (A:=_) (by kernel_rfl) ?h1 ?h2
 case h1 =>
  refine zaa (nv 0) rfl (zac rfl rfl b0 rfl uN rfl (iN _)) ?_
  refine zaa (nv 0) rfl (zbv rfl rfl (bldN0 ·)) ?_;simp only [aP,lA,lZ,lS]
  refine zaa (.bool true) rfl (made_bin rfl rfl rfl (gN _ _ _ _ _) eqN) ?_
  refine zaa (.bool true) rfl (zae (.inr rfl) rfl) ?_;simp only [aP,lA,lZ,lS]
  exact zar
 refine zay rfl ?_
 intro w2 hE
 replace hx:=hx.trans hE
 clear hE
 go_wp2
 go_ret
 exact ⟨rfl,hx⟩
theorem iz_no {X : Nat} (hX : X < top) (h0 : X ≠ 0) (w : World) :
  Calls Tryz.prog 118 #[nv X] w fun e w' => e = .returned (.bool false) ∧ Ext w w':=by
 have kX:=veil hX
 have k0:=veil h0
 clear h0 hX
 unfold nv nc
 go_enter Tryz.func118,Tryz.ntmps118
 go_upto_region 1 with (fail)
 refine zck fun w1 hx b0 => ?_
 have b0 : w1.heap[w.heap.size]? = some (.cells (nc X) 27 (0,0)):=b0
 refine' zau (m:=4) (A:=_) (by kernel_rfl) ?h1 ?h2
 case h1 =>
  refine zaa (nv X) rfl (zac rfl rfl b0 rfl uN rfl (iN _)) ?_
  refine zaa (nv 0) rfl (zbv rfl rfl (bldN0 ·)) ?_;simp only [aP,lA,lZ,lS]
  refine zaa (.bool false) rfl (made_bin rfl rfl rfl (gN _ _ _ _ _) (eqN0 kX.out k0.out ·)) ?_
  refine zaa (.bool false) rfl (zae (.inr rfl) rfl) ?_;simp only [aP,lA,lZ,lS]
  exact zar
 refine zay rfl ?_
 intro w2 hE
 replace hx:=hx.trans hE
 clear hE
 go_wp2
 go_ret
 exact ⟨rfl,hx⟩
theorem rng_zero (w : World) :
  Calls Tryz.prog 85 #[nv 0] w fun e w' => e = .returned (.bool false) ∧ Ext w w':=by
 unfold nv nc
 go_enter Tryz.func85,Tryz.ntmps85
 go_upto_region 1 with (fail)
 refine zck fun w1 hx b0 => ?_
 have b0 : w1.heap[w.heap.size]? = some (.cells (nc 0) 27 (0,0)):=b0
 refine' zdx (m:=10) (A:=_) 10 (by kernel_rfl) (by kernel_rfl) ?h1 ?h2
 case h1 =>
  refine zaa (nv 0) rfl (zac rfl rfl b0 rfl uN rfl (iN _)) ?_
  refine zaa (.bool true) rfl (zag (args:=[nv 0]) rfl rfl (fun W => zab Tryz.func118 rfl rfl _ W) (fun W hW => iz_yes W)) ?_;simp only [aP,lA,lZ,lS]
  refine zaa (.bool false) rfl (zbc rfl rfl rfl) ?_
  refine zaa (.bool false) rfl (zae (.inl rfl) rfl) ?_;simp only [aP,lA,lZ,lS]
  refine zaw rfl ?_
  refine zaw rfl ?_;simp only [aP,lA,lZ,lS]
  refine zaw rfl ?_
  refine zaw rfl ?_;simp only [aP,lA,lZ,lS]
  refine zaa (.bool false) rfl (zav rfl rfl rfl) ?_
  refine zaa (.bool false) rfl (zae (.inr rfl) rfl) ?_;simp only [aP,lA,lZ,lS]
  exact zar
 refine zcu rfl (by kernel_rfl) ?_
 intro w2 hE
 refine NoPanic.normal ?_
 replace hx:=hx.trans hE
 clear hE
 go_wp2
 go_ret
 exact ⟨rfl,hx⟩
theorem rng_in {X : Nat} (hX : X < top) (h0 : X ≠ 0) (hl : X < Pt.nn) (w : World) :
  Calls Tryz.prog 85 #[nv X] w fun e w' => e = .returned (.bool true) ∧ Ext w w':=by
 have kX:=veil hX
 have k0:=veil h0
 have kl:=veil hl
 clear hl h0 hX
 unfold nv nc
 go_enter Tryz.func85,Tryz.ntmps85
 go_upto_region 1 with (fail)
 refine zck fun w1 hx b0 => ?_
 have b0 : w1.heap[w.heap.size]? = some (.cells (nc X) 27 (0,0)):=b0
 refine' zdx (m:=10) (A:=_) 10 (by kernel_rfl) (by kernel_rfl) ?h1 ?h2
 case h1 =>
  refine zaa (nv X) rfl (zac rfl rfl b0 rfl uN rfl (iN _)) ?_
  refine zaa (.bool false) rfl (zag (args:=[nv X]) rfl rfl (fun W => zab Tryz.func118 rfl rfl _ W) (fun W hW => iz_no kX.out k0.out W)) ?_;simp only [aP,lA,lZ,lS]
  refine zaa (.bool true) rfl (zbc rfl rfl rfl) ?_
  refine zaa (.bool true) rfl (zae (.inl rfl) rfl) ?_;simp only [aP,lA,lZ,lS]
  refine zah (nv X) rfl (zac rfl rfl b0 rfl uN rfl (iN _)) ?_
  refine zah (nv Pt.nn) rfl (zag (args:=[]) rfl rfl (fun W => zab Tryz.func119 rfl rfl _ W) (fun W hW => pN_is W)) ?_;simp only [aP,lA,lZ,lS]
  refine zah (.int .i64 (cmpN X Pt.nn)) rfl (zag (args:=[nv X,nv Pt.nn]) rfl rfl (fun W => zab Tryz.func113 rfl rfl _ W) (fun W hW => cmp_calls X Pt.nn kX.out nn_top W)) ?_
  refine zah (.bool true) rfl (made_lss rfl rfl (cmpL kl.out)) ?_;simp only [aP,lA,lZ,lS]
  refine zaa (.bool true) rfl (zav rfl rfl rfl) ?_
  refine zaa (.bool true) rfl (zae (.inr rfl) rfl) ?_;simp only [aP,lA,lZ,lS]
  exact zar
 refine zcu rfl (by kernel_rfl) ?_
 intro w2 hE
 refine NoPanic.normal ?_
 replace hx:=hx.trans hE
 clear hE
 go_wp2
 go_ret
 exact ⟨rfl,hx⟩
theorem rng_out {X : Nat} (hX : X < top) (h0 : X ≠ 0) (hl : ¬ X < Pt.nn) (w : World) :
  Calls Tryz.prog 85 #[nv X] w fun e w' => e = .returned (.bool false) ∧ Ext w w':=by
 have kX:=veil hX
 have k0:=veil h0
 have kl:=veil hl
 clear hl h0 hX
 unfold nv nc
 go_enter Tryz.func85,Tryz.ntmps85
 go_upto_region 1 with (fail)
 refine zck fun w1 hx b0 => ?_
 have b0 : w1.heap[w.heap.size]? = some (.cells (nc X) 27 (0,0)):=b0
 refine' zdx (m:=10) (A:=_) 10 (by kernel_rfl) (by kernel_rfl) ?h1 ?h2
 case h1 =>
  refine zaa (nv X) rfl (zac rfl rfl b0 rfl uN rfl (iN _)) ?_
  refine zaa (.bool false) rfl (zag (args:=[nv X]) rfl rfl (fun W => zab Tryz.func118 rfl rfl _ W) (fun W hW => iz_no kX.out k0.out W)) ?_;simp only [aP,lA,lZ,lS]
  refine zaa (.bool true) rfl (zbc rfl rfl rfl) ?_
  refine zaa (.bool true) rfl (zae (.inl rfl) rfl) ?_;simp only [aP,lA,lZ,lS]
  refine zah (nv X) rfl (zac rfl rfl b0 rfl uN rfl (iN _)) ?_
  refine zah (nv Pt.nn) rfl (zag (args:=[]) rfl rfl (fun W => zab Tryz.func119 rfl rfl _ W) (fun W hW => pN_is W)) ?_;simp only [aP,lA,lZ,lS]
  refine zah (.int .i64 (cmpN X Pt.nn)) rfl (zag (args:=[nv X,nv Pt.nn]) rfl rfl (fun W => zab Tryz.func113 rfl rfl _ W) (fun W hW => cmp_calls X Pt.nn kX.out nn_top W)) ?_
  refine zah (.bool false) rfl (made_lss rfl rfl (cmpG kl.out)) ?_;simp only [aP,lA,lZ,lS]
  refine zaa (.bool false) rfl (zav rfl rfl rfl) ?_
  refine zaa (.bool false) rfl (zae (.inr rfl) rfl) ?_;simp only [aP,lA,lZ,lS]
  exact zar
 refine zcu rfl (by kernel_rfl) ?_
 intro w2 hE
 refine NoPanic.normal ?_
 replace hx:=hx.trans hE
 clear hE
 go_wp2
 go_ret
 exact ⟨rfl,hx⟩
theorem zhx {X : Nat} {b : Bool} (hb : mayB X = b) (hX : X < top) (w : World) :
  Calls Tryz.prog 85 #[nv X] w fun e w' => e = .returned (.bool b) ∧ Ext w w':=by
 subst hb
 unfold mayB
 by_cases h0 : X = 0
 ·
  subst h0
  exact rng_zero w
 ·
  by_cases hl : X < Pt.nn
  ·
   rw [decide_eq_true h0,decide_eq_true hl]
   exact rng_in hX h0 hl w
  ·
   rw [decide_eq_true h0,decide_eq_false hl]
   exact rng_out hX h0 hl w
theorem ziu (w : World) :
  Calls Tryz.prog 86 #[] w fun e w' => (∃ b,e = .returned (ptrTo b) ∧ w.heap.size ≤ b ∧ Fn w' b) ∧ Ext w w':=by
 go_enter Tryz.func86,Tryz.ntmps86
 go_upto_region 1 with (fail)
 have HN:=veil (pN_is w)
 go_wp2_with (first
  | (go_at_call 119; refine HN.out.mono ?_; rintro e w5 ⟨rfl,hb5⟩)
  | (go_at_call 108; refine (new_good Pt.nn nn_odd.1 nn_odd.2 nn_top w5).mono ?_; rintro e w6 ⟨⟨b,N,Q,hok,hfb,hge,rfl⟩,hb6⟩))
 go_ret
 exact ⟨⟨b,rfl,Nat.le_trans (Below.size hb5) hge,N,Q,hok,hfb⟩,hb5.trans hb6⟩
theorem numof_calls {y : Nat → Nat} (hy : ∀ j,y j < 256) {X : Nat} (hX : X = num32 y) (w : World) :
  Calls Tryz.prog 90 #[dgv y] w fun e w' => e = .returned (nv X) ∧ Ext w w':=by
 have ky:=veil hy
 have kX:=veil hX
 clear hX hy
 unfold nv nc dgv dgc
 go_enter Tryz.func90,Tryz.ntmps90
 go_upto_region 1 with (fail)
 refine zfy fun w1 hx b0 b1 => ?_
 have b0 : w1.heap[w.heap.size]? = some (.cells (dgc y) 112 (0,0)):=b0
 refine' zau (m:=5) (A:=_) (by kernel_rfl) ?h1 ?h2
 case h1 =>
  refine zaa (.slice (some ⟨w.heap.size,0,none⟩) 32 32) rfl (zdb rfl rfl (sliceD _ ·)) ?_
  refine zaa (.tuple #[nv X,.nilIface]) rfl (zag (args:=[.slice (some ⟨w.heap.size,0,none⟩) 32 32]) rfl rfl (fun W => zab Tryz.func81 rfl rfl _ W) (fun W hW => ofl_is ky.out kX.out W (hW.block b0))) ?_;simp only [aP,lA,lZ,lS]
  refine zaa (.tuple #[nv X,.nilIface]) rfl (zae (.inl rfl) rfl) ?_
  refine zaa (nv X) rfl (zbe rfl rfl rfl) ?_;simp only [aP,lA,lZ,lS]
  refine zaa (.nilIface) rfl (zbe rfl rfl rfl) ?_;simp only [aP,lA,lZ,lS]
  exact zar
 refine zbu _ _ rfl rfl rfl rfl rfl rfl rfl (hzN ·) (fun _ => rfl) (fun _ => rfl) (iN _) rfl (zed _) ?_
 intro gx w2 hgx bx hE
 replace b1:=hE.block b1
 replace hx:=hx.trans hE
 clear hE
 simp only [aP,lA,lZ,lS]
 clear hgx
 go_upto_region 2 with (fail)
 refine' zau (m:=1) (A:=_) (by kernel_rfl) ?h2a ?h2b
 case h2a =>
  refine zaa (nv X) rfl (zac rfl rfl bx rfl uN rfl (iN _)) ?_;simp only [aP,lA,lZ,lS]
  exact zar
 refine zdd _ rfl rfl rfl rfl rfl rfl b1 (iN _) rfl (zed _) ?_
 intro w3 hB hb
 go_wp2
 exact bodyPost_ret (results_cell_row rfl _ _ (w.heap.size + 1) 27 (nc X) (0,0) _ rfl hb Tryz.underlying27 rfl (by kernel_rfl)) rfl ⟨rfl,hx.new hB (by omega)⟩
theorem scut_calls {b X Z : Nat} (hZ : Z = X % Pt.nn) (hX : X < top) {w : World} (hF : Fn w b) :
  Calls Tryz.prog 91 #[ptrTo b,nv X] w fun e w' => e = .returned (nv Z) ∧ Ext w w':=by
 have kZ:=veil hZ
 have kX:=veil hX
 clear hX hZ
 unfold nv nc
 go_enter Tryz.func91,Tryz.ntmps91
 go_upto_region 1 with (fail)
 refine zfy fun w1 hx b0 b1 => ?_
 have b0 : w1.heap[w.heap.size]? = some (.cells (nc X) 27 (0,0)):=b0
 have hf:=hF.ext hx
 clear hF
 refine' zau (m:=4) (A:=_) (by kernel_rfl) ?h1 ?h2
 case h1 =>
  refine zaa (ptrTo b) rfl (zae (.inl rfl) rfl) ?_
  refine zaa (nv X) rfl (zac rfl rfl b0 rfl uN rfl (iN _)) ?_;simp only [aP,lA,lZ,lS]
  refine zaa (nv 0) rfl (zbv rfl rfl (bldN0 ·)) ?_
  refine zaa (nv Z) rfl (zag (args:=[ptrTo b,nv X,nv 0]) rfl rfl (fun W => zab Tryz.func110 rfl rfl _ W) (fun W hW => ncut_p kZ.out kX.out (hf.ext hW))) ?_;simp only [aP,lA,lZ,lS]
  exact zar
 refine zdd _ rfl rfl rfl rfl rfl rfl b1 (iN _) rfl (zed _) ?_
 intro w2 hB hb
 go_wp2
 exact bodyPost_ret (results_cell_row rfl _ _ (w.heap.size + 1) 27 (nc Z) (0,0) _ rfl hb Tryz.underlying27 rfl (by kernel_rfl)) rfl ⟨rfl,hx.new hB (by omega)⟩
theorem sumof_calls {u v X Y : Nat} {f : Bool} {p a b c : Pt.Q} (hu : u < top) (hv : v < top) (hp : X = Pt.pX p.1 ∧ Y = Pt.pY p.1 ∧ f = Pt.pFar p.1) (ha : a = Pt.grp.mul u Pt.base) (hb : b = Pt.grp.mul v p) (hc : c = Pt.grp.op a b) (w : World) :
  Calls Tryz.prog 88 #[nv u,nv v,qv X Y f] w fun e w' => e = .returned (qv (Pt.pX c.1) (Pt.pY c.1) (Pt.pFar c.1)) ∧ Ext w w':=by
 have ku:=veil hu
 have kv:=veil hv
 have kp:=veil hp
 have ka:=veil ha
 have kb:=veil hb
 have kc:=veil hc
 clear hc hb ha hp hv hu
 unfold nv nc qv qc
 go_enter Tryz.func88,Tryz.ntmps88
 go_upto_region 1 with (fail)
 refine wp_via4 fun w1 hx b0 b1 b2 b3 => ?_
 have b0 : w1.heap[w.heap.size]? = some (.cells (nc u) 27 (0,0)):=b0
 have b1 : w1.heap[w.heap.size + 1]? = some (.cells (nc v) 27 (0,0)):=b1
 have b2 : w1.heap[w.heap.size + 1 + 1]? = some (.cells (qc X Y f) 29 (0,0)):=b2
 refine' zhb (m:=5) (A:=_) 7 (by kernel_rfl) (by kernel_rfl) (by kernel_rfl) ?h1 ?h2
 case h1 =>
  refine zaa (nv u) rfl (zac rfl rfl b0 rfl uN rfl (iN _)) ?_
  refine zaa (qv Pt.gx Pt.gy false) rfl (zag (args:=[]) rfl rfl (fun W => zab Tryz.func20 rfl rfl _ W) (fun W hW => base_calls W)) ?_;simp only [aP,lA,lZ,lS]
  refine zaa (.tuple #[qv (Pt.pX a.1) (Pt.pY a.1) (Pt.pFar a.1),.nilIface]) rfl (zag (args:=[nv u,qv Pt.gx Pt.gy false]) rfl rfl (fun W => zab Tryz.func125 rfl rfl _ W) (fun W hW => mulb_is ku.out ka.out W)) ?_
  refine zaa (.tuple #[qv (Pt.pX a.1) (Pt.pY a.1) (Pt.pFar a.1),.nilIface]) rfl (zae (.inl rfl) rfl) ?_;simp only [aP,lA,lZ,lS]
  refine zaa (qv (Pt.pX a.1) (Pt.pY a.1) (Pt.pFar a.1)) rfl (zbe rfl rfl rfl) ?_;simp only [aP,lA,lZ,lS]
  exact zar
 refine rest_var2 (v:=.nilIface) (vx:=.nilIface) _ _ _ _ rfl rfl rfl rfl rfl rfl rfl rfl rfl rfl rfl rfl rfl rfl rfl rfl (by decide) (by kernel_rfl) (by kernel_rfl) (by kernel_rfl) (by kernel_rfl) (by kernel_rfl) (by kernel_rfl) (by kernel_rfl) rfl rfl rfl rfl rfl rfl (hzT ·) (run_ext rfl rfl rfl) (fun _ => run_ext rfl rfl rfl) (fun _ => rfl) (fun _ => rfl) (fun _ => rfl) (fun _ => rfl) (fun _ => rfl) (iT _ _ _) rfl (zcr _ _ _) ?_
 intro ga w2 hga ba hE
 refine NoPanic.normal ?_
 replace b1:=hE.block b1
 replace b2:=hE.block b2
 replace b3:=hE.block b3
 replace hx:=hx.trans hE
 clear hE
 simp only [aP,lA,lZ,lS]
 clear hga
 go_upto_region 2 with (fail)
 refine' zau (m:=6) (A:=_) (by kernel_rfl) ?h2a ?h2b
 case h2a =>
  refine zaa (nv v) rfl (zac rfl rfl b1 rfl uN rfl (iN _)) ?_
  refine zaa (qv X Y f) rfl (zac rfl rfl b2 rfl Tryz.underlying29 rfl (iT _ _ _)) ?_;simp only [aP,lA,lZ,lS]
  refine zaa (.tuple #[qv (Pt.pX b.1) (Pt.pY b.1) (Pt.pFar b.1),.nilIface]) rfl (zag (args:=[nv v,qv X Y f]) rfl rfl (fun W => zab Tryz.func125 rfl rfl _ W) (fun W hW => mulq_is kv.out kp.out kb.out W)) ?_
  refine zaa (.tuple #[qv (Pt.pX b.1) (Pt.pY b.1) (Pt.pFar b.1),.nilIface]) rfl (zae (.inl rfl) rfl) ?_;simp only [aP,lA,lZ,lS]
  refine zaa (qv (Pt.pX b.1) (Pt.pY b.1) (Pt.pFar b.1)) rfl (zbe rfl rfl rfl) ?_
  refine zaa (.nilIface) rfl (zbe rfl rfl rfl) ?_;simp only [aP,lA,lZ,lS]
  exact zar
 refine zbu _ _ rfl rfl rfl rfl rfl rfl rfl (hzT ·) (fun _ => rfl) (fun _ => rfl) (iT _ _ _) rfl (zcr _ _ _) ?_
 intro gb w3 hgb bb hE
 replace b3:=hE.block b3
 replace ba:=hE.block ba
 replace hx:=hx.trans hE
 clear hE
 simp only [aP,lA,lZ,lS]
 clear hgb
 go_upto_region 3 with (fail)
 refine' zau (m:=6) (A:=_) (by kernel_rfl) ?h3a ?h3b
 case h3a =>
  refine zaa (qv (Pt.pX a.1) (Pt.pY a.1) (Pt.pFar a.1)) rfl (zac rfl rfl ba rfl Tryz.underlying29 rfl (iT _ _ _)) ?_
  refine zaa (qv (Pt.pX b.1) (Pt.pY b.1) (Pt.pFar b.1)) rfl (zac rfl rfl bb rfl Tryz.underlying29 rfl (iT _ _ _)) ?_;simp only [aP,lA,lZ,lS]
  refine zaa (.tuple #[qv (Pt.pX c.1) (Pt.pY c.1) (Pt.pFar c.1),.nilIface]) rfl (zag (args:=[qv (Pt.pX a.1) (Pt.pY a.1) (Pt.pFar a.1),qv (Pt.pX b.1) (Pt.pY b.1) (Pt.pFar b.1)]) rfl rfl (fun W => zab Tryz.func126 rfl rfl _ W) (fun W hW => addq_is kc.out W)) ?_
  refine zaa (.tuple #[qv (Pt.pX c.1) (Pt.pY c.1) (Pt.pFar c.1),.nilIface]) rfl (zae (.inl rfl) rfl) ?_;simp only [aP,lA,lZ,lS]
  refine zaa (qv (Pt.pX c.1) (Pt.pY c.1) (Pt.pFar c.1)) rfl (zbe rfl rfl rfl) ?_
  refine zaa (.nilIface) rfl (zbe rfl rfl rfl) ?_;simp only [aP,lA,lZ,lS]
  exact zar
 refine zbu _ _ rfl rfl rfl rfl rfl rfl rfl (hzT ·) (fun _ => rfl) (fun _ => rfl) (iT _ _ _) rfl (zcr _ _ _) ?_
 intro gc w4 hgc bc hE
 replace b3:=hE.block b3
 replace hx:=hx.trans hE
 clear hE
 simp only [aP,lA,lZ,lS]
 clear hgc
 go_upto_region 4 with (fail)
 refine' zau (m:=1) (A:=_) (by kernel_rfl) ?h4a ?h4b
 case h4a =>
  refine zaa (qv (Pt.pX c.1) (Pt.pY c.1) (Pt.pFar c.1)) rfl (zac rfl rfl bc rfl Tryz.underlying29 rfl (iT _ _ _)) ?_;simp only [aP,lA,lZ,lS]
  exact zar
 refine zdd _ rfl rfl rfl rfl rfl rfl b3 (iT _ _ _) rfl (zcr _ _ _) ?_
 intro w5 hB hb
 go_wp2
 exact bodyPost_ret (results_cell_row rfl _ _ (w.heap.size + 1 + 1 + 1) 29 (qc (Pt.pX c.1) (Pt.pY c.1) (Pt.pFar c.1)) (0,0) _ rfl hb Tryz.underlying29 rfl (by kernel_rfl)) rfl ⟨rfl,hx.new hB (by omega)⟩
end Go.Proofs.YthlbemnbmbmjhaaGreatDoor
