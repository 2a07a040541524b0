/-
  Of UG UI Y6 KJ.
-/
import Derived.Test.YthlbemnbmbmjhaaGreatDoorRows
import Derived.WalkKit
import Derived.WalkSpells
import Derived.WalkLawsBesides
import Derived.Deep.LoopGhost
import Derived.Deep.RegionWith
import Derived.Deep.QuietTactic
import Derived.BigQuiet
import Derived.Deep.Cut
import Derived.Deep.CutRange
import Derived.Deep.MidRow
import Derived.Laws.OwnMore
import Derived.Test.YthlbemnbmbmjhaaGreatDoorZB15
import Derived.Test.YthlbemnbmbmjhaaGreatDoorZB16
import Derived.Test.YthlbemnbmbmjhaaGreatDoorZB14
import Derived.Test.YthlbemnbmbmjhaaGreatDoorZB8
import Derived.Test.YthlbemnbmbmjhaaGreatDoorZB6
import Derived.Test.YthlbemnbmbmjhaaGreatDoorZB13
import Derived.Test.YthlbemnbmbmjhaaGreatDoorZB4
import Derived.Test.YthlbemnbmbmjhaaGreatDoorZB9
import Derived.Test.YthlbemnbmbmjhaaGreatDoorZB11
import Derived.Test.YthlbemnbmbmjhaaGreatDoorZB1
import Derived.Test.YthlbemnbmbmjhaaGreatDoorZB2
import Derived.Test.YthlbemnbmbmjhaaGreatDoorZB7
import Derived.Test.YthlbemnbmbmjhaaGreatDoorZB3
import Derived.Test.YthlbemnbmbmjhaaGreatDoorZB5
set_option maxRecDepth 1000000
set_option maxHeartbeats 20000000
namespace Go.Proofs.YthlbemnbmbmjhaaGreatDoor
open Go.RowKit
open Go.Value renaming int → vI
open Go.IntKind renaming u64 → vU
open Go.Act renaming put → aP
open List renaming setIfInBounds_toArray → lA, set_cons_zero → lZ, set_cons_succ → lS
theorem hmk_ky (n : Nat) (hn : n ≤ 1000000) (W : World) : (Instr.makeSlice 22 (.int .i64 (n : Int)) (.int .i64 (n : Int))).run Tryz.prog W = .ok (.slice (some ⟨W.heap.size,0,none⟩) n n) (W.alloc (.cells (madeCells KZ (n * 12)) 55)):=by
 obtain ⟨i,hi,hz,hsz,hby⟩:=zdt infoKy96
 have h:=run_make (P:=Tryz.prog) W 22 55 i _ Tryz.underlying22 hi hz .i64 .i64 (n : Int) (n : Int) (by omega) (Int.le_refl _) (by rw [hby]; omega) (by omega)
 simp only [Int.toNat_natCast,hsz,Value.cells] at h
 exact h
theorem Pre.thereN {w : World} {g t n : Nat} {f : Nat → Value} (p : Pre w g t n f) {i m : Nat} (hi : i + m ≤ n) : w.there g i m:=fun j hj => ⟨by rw [p.cell (show i + j < n by omega)]; rfl,p.frozen _⟩
theorem Pre.cells {g t n : Nat} : ∀ (vs : List Value) (o : Nat) {w : World} {f : Nat → Value},Pre w g t n f → ∃ h,Pre (w.setCells g o vs) g t n h
 | [],_,_,f,p => ⟨f,p⟩
 | v :: r,o,_,_,p => Pre.cells r (o + 1) (p.set o v)
theorem zhj {w : World} {g : Nat} : ∀ (vs : List Value) (o : Nat) {W : World},Ext w W → w.heap.size ≤ g → Ext w (W.setCells g o vs)
 | [],_,_,h,_ => h
 | v :: r,o,_,h,hg => zhj r (o + 1) (zai h hg v) hg
theorem keyOf_off {D : List Nat} {k : Ky} (h : keyOf D = some k) : offK k = false:=by
 unfold keyOf at h
 split at h
 ·
  rename_i hh
  injection h with h
  subst h
  unfold offK
  rw [hh.2.1]
  rfl
 ·
  cases h
def LaidP (w : World) (g : Nat) (pre : List Ky) : Prop:=∀ j k,pre[j]? = some k → w.rangeAt g (j * 12) (kyC k)
theorem LaidP.ext {w w' : World} {g : Nat} {pre : List Ky} (h : LaidP w g pre) (k : Ext w w') (hg : g < w.heap.size) : LaidP w' g pre:=fun j x hj => zbd k hg (h j x hj)
theorem LaidP.step {w : World} {g i : Nat} {pre : List Ky} {k : Ky} (h : LaidP w g pre) (hi : pre.length = i) (ht : w.there g (i * 12) 12) : LaidP (w.setCells g (i * 12) (kyC k)) g (pre ++ [k]):=fun j x hj => by
 by_cases e : j < pre.length
 ·
  rw [List.getElem?_append_left e] at hj
  exact World.rangeAt_setCells_apart (h j x hj) g (i * 12) (kyC k) (.inr (.inl (by rw [zbx]; omega)))
 ·
  rw [List.getElem?_append_right (by omega)] at hj
  have hj0 : j - pre.length = 0:=by
   have:=(List.getElem?_eq_some_iff.1 hj).1
   simpa using this
  rw [hj0] at hj
  obtain rfl : k = x:=by simpa using hj
  obtain rfl : j = i:=by omega
  exact World.rangeAt_setCells_same w g (j * 12) (kyC k) (by rw [zbx]; exact ht)
theorem LaidP.ks {w : World} {g n : Nat} {pre : List Ky} (h : LaidP w g pre) (hn : pre.length = n) (hg : g < w.heap.size) : Ks w (.slice (some ⟨g,0,none⟩) n n) pre :=
 ⟨_,n,by rw [hn],by omega,.inr ⟨g,0,rfl,hg,fun i x hi => by rw [Nat.zero_add]; exact h i x hi⟩⟩
theorem any_no {pre : List Ky} (h : ∀ k ∈ pre,offK k = false) : pre.any offK = false:=by
 rw [List.any_eq_false]
 intro k hk
 rw [h k hk]
 decide
theorem kone_cells {bs : List Nat} {C : Array Value} {ev : Value} (h : KOneA bs C ev) : C.size = 12 ∧ (Tryz.prog.info? 55).map (·.size) = some C.size ∧ C.all (·.oneCell') = true:=by
 rcases h with ⟨_,rfl,_⟩ | ⟨k,_,_,_,rfl,_⟩
 ·
  exact ⟨rfl,iKZ,kz_one⟩
 ·
  exact ⟨by rw [List.size_toArray,zbx],iKyA k,zfw k⟩
theorem kparse_calls (A : Option Addr) (m c : Nat) (bs : List Nat) (hm : m = bs.length) (hmc : m ≤ c) (hle : m ≤ 100000000) (w : World) (hS : Bs w A bs) :
  Calls Tryz.prog 14 #[.slice A m c] w fun e w' => ∃ x ev,e = .returned (.tuple #[x,ev]) ∧ Ext w w' ∧ KParseA w' bs x ev:=by
 have KG:=veil (code8.get A m c bs w hm hmc hle hS)
 have k2:=neNil2
 have k3:=neNilN
 clear hm hmc hS hle
 go_enter Tryz.func14,Tryz.ntmps14
 go_upto_region 2 with (go_at_call 31; refine KG.out.mono ?_; rintro e w1 ⟨x,y,rfl,hE1,hA⟩)
 rcases hA with ⟨hn,⟨A2,c2,rfl⟩,rfl⟩ | ⟨fs,hs,rfl,hF⟩
 ·
  have hr : keysOf bs = none:=by
   unfold keysOf
   rw [hn]
   rfl
  clear KG
  go_wp2
  go_ret2
  exact ⟨_,_,rfl,hE1,.inl ⟨hr,⟨none,0,rfl⟩,rfl⟩⟩
 ·
  have hget:=keysOf_get hs
  have h64:=zec (get_some hs).2
  obtain ⟨hB,AL,cl,rfl,hcl,hx⟩:=hF
  obtain ⟨n,hn⟩ : ∃ n,n = fs.length:=⟨_,rfl⟩
  rw [← hn] at hx hcl h64 ⊢
  have hmk:=hmk_ky n (by omega)
  have hp0:=pre_new w1 (madeCells KZ (n * 12)) 55 (n * 12) (size_madeCells _ _).symm
  have hE2:=Ext.alloc w1 (.cells (madeCells KZ (n * 12)) 55)
  have HX:=veil (And.intro hx (And.intro hn (And.intro hget hE1)))
  have H0:=veil (And.intro hp0 hE2)
  clear KG hx hn hget hE1 hs hB hcl hp0 hE2
  go_upto_region 5 with (fail)
  obtain ⟨g,hg⟩ : ∃ g,g = w1.heap.size:=⟨_,rfl⟩
  generalize w1.alloc (.cells (madeCells KZ (n * 12)) 55) = w2 at *
  rw [← hg] at H0 ⊢
  have HG:=veil (show w1.heap.size ≤ g by omega)
  clear hg hmk
  go_wp2
  go_loopw [5,7,8,22] (fun _ _ _ u wr => ∃ (i : Nat) (pre : List Ky),i ≤ n ∧ u = .int .i64 (i : Int) ∧ (∃ f,Pre wr g 55 (n * 12) f) ∧ LaidP wr g pre ∧ pre.length = i ∧ TopK pre ∧ (∀ k ∈ pre,offK k = false) ∧ keysF 1 fs = (keysF ((i : Int) + 1) (fs.drop i)).map (pre ++ ·) ∧ Ext w1 wr)
   (fun _ _ _ u _ => n - (intOf u).toNat)
  case atStart => exact ⟨0,[],by omega,rfl,⟨_,H0.out.1⟩,fun j k hj => by (simp at hj),rfl,fun k hk => by (cases hk),fun k hk => by (cases hk),by simp,H0.out.2⟩
  case round =>
   obtain ⟨i,pre,hi,rfl,⟨f,hp⟩,hl,hpl,hT,hoff,hk,hE⟩:=hrel
   by_cases hlt : i < n
   ·
    have hd1 : decide ((i : Int) < (n : Int)) = true:=by simp; omega
    have hii : (i : Int) < (n : Int):=by omega
    have hil : i < fs.length:=by have:=HX.out.2.1; omega
    obtain ⟨b,o,hAL,hb,hcl⟩:=HX.out.1.resolve_left (by omega)
    obtain ⟨h1,A',k',h2,h3,h4⟩:=hcl i (by omega)
    have c0:=(hE.cell hb).trans h1
    have c1:=(hE.cell hb).trans h2
    have hno : ¬ (tgF fs i = (i : Int) + 1 ∧ (keyOf (bsF fs i)).isSome = true) → keysOf bs = none:=fun h => by
     rw [HX.out.2.2.1,keysF_no hil hk h]
     rfl
    have HNO:=veil hno
    have hyes : ∀ k,tgF fs i = (i : Int) + 1 → keyOf (bsF fs i) = some k → keysF 1 fs = (keysF (((i + 1 : Nat) : Int) + 1) (fs.drop (i + 1))).map ((pre ++ [k]) ++ ·):=fun k ht hk' => keysF_yes hil hk ht hk'
    have HY:=veil hyes
    have HS:=veil (And.intro hp (And.intro hl (And.intro hpl (And.intro hT (And.intro hoff (And.intro hE (h4.ext hE)))))))
    clear h1 h2 h4 hl hp hpl hT hoff hk hE hcl hno hyes hil
    generalize tgF fs i = T at *
    generalize bsF fs i = D at *
    obtain ⟨L,hL⟩ : ∃ L,L = D.length:=⟨_,rfl⟩
    rw [← hL] at c1 h3
    have HRG:=veil (rng_fd c0 c1)
    have HL:=veil (And.intro hL h3)
    clear c0 c1 hL h3
    subst hAL
    go_upto_region 8 with (first
     | ((with_reducible refine zah 26 ?_); refine wpList_load_mid rfl 64 _ rfl b _ rfl _ _ HRG.out Tryz.underlying64 rfl infoF2 ?_)
     | ((with_reducible refine zay ?_); refine wpList_store_row rfl 64 _ _ rfl wr.heap.size #[.int .i64 T,.slice A' L k'] rfl rfl 64 _ (zag wr _) infoF2 rfl one_fd ?_; rw [World.setRow_alloc_new]))
    obtain ⟨d0,d1⟩:=zfk (zag wr (.cells #[.int .i64 T,.slice A' L k'] 64))
    have hEW:=Ext.alloc wr (.cells #[.int .i64 T,.slice A' L k'] 64)
    have HW:=veil hEW
    generalize wr.alloc (.cells #[.int .i64 T,.slice A' L k'] 64) = W at *
    generalize wr.heap.size = gf at *
    clear hEW HRG
    by_cases g1 : T = (i : Int) + 1
    ·
     have f1 : (T == (i : Int) + 1) = true:=by simp [g1]
     have KP:=veil (parseOne_calls A' L k' D HL.out.1 HL.out.2 W (HS.out.2.2.2.2.2.2.ext HW.out))
     have HT:=veil g1
     subst g1
     go_upto_region 11 with (first
      | (go_at_call 32; refine KP.out.mono ?_; rintro e w3 ⟨C,ev,rfl,hE3,hA⟩; have hc12:=veil (kone_cells hA); have hp3:=veil (HS.out.1.below (HW.out.trans hE3) HS.out.1.lt); have HT3:=veil (hp3.out.thereN (i:=i * 12) (m:=C.size) (by rw [hc12.out.1]; omega)))
      | ((with_reducible refine zay ?_); refine wpList_store_mid rfl 55 _ _ rfl g (i * 12) C rfl rfl HT3.out hc12.out.2.1 hc12.out.2.2 ?_))
     have hE4 : Ext w1 (w3.setCells g (i * 12) C.toList):=zhj _ _ (HS.out.2.2.2.2.2.1.trans (HW.out.trans hE3)) HG.out
     rcases hA with ⟨hn,rfl,rfl⟩ | ⟨k,hk,hkx,hky,rfl,rfl⟩
     ·
      have hr:=HNO.out (fun h => by rw [hn] at h; exact absurd h.2 (by decide))
      have HR:=veil (And.intro hr (HX.out.2.2.2.trans hE4))
      clear hr hE4 HNO HY hn d0 d1 hE3 hp3 hc12 HT3 KP
      generalize w3.setCells g (i * 12) KZ.toList = w4 at *
      go_wp2
      go_ret2
      exact ⟨_,_,rfl,HR.out.2,.inl ⟨HR.out.1,⟨none,0,rfl⟩,rfl⟩⟩
     ·
      have h12 : w3.there g (i * 12) 12:=hp3.out.thereN (by omega)
      have hl4 : LaidP (w3.setCells g (i * 12) (kyC k)) g (pre ++ [k]):=(HS.out.2.1.ext (HW.out.trans hE3) HS.out.1.lt).step HS.out.2.2.1 h12
      have hp4:=hp3.out.cells (kyC k) (i * 12)
      have HR:=veil (And.intro hl4 (And.intro hp4 (And.intro (HY.out k HT.out hk) hE4)))
      have HK:=veil (And.intro hkx (And.intro hky (keyOf_off hk)))
      clear hl4 hp4 h12 hE4 HNO HY hk hkx hky d0 d1 hE3 hp3 hc12 HT3 KP
      go_wp2
      go_roundw
      case rel =>
       refine ⟨i + 1,pre ++ [k],by omega,by go_num,HR.out.2.1,HR.out.1,by rw [List.length_append,HS.out.2.2.1]; rfl,fun x hx => ?_,fun x hx => ?_,HR.out.2.2.1,HR.out.2.2.2⟩
       ·
        rcases List.mem_append.1 hx with hx | hx
        ·
         exact HS.out.2.2.2.1 x hx
        ·
         rw [List.mem_singleton.1 hx]
         exact ⟨HK.out.1,HK.out.2.1⟩
       ·
        rcases List.mem_append.1 hx with hx | hx
        ·
         exact HS.out.2.2.2.2.1 x hx
        ·
         rw [List.mem_singleton.1 hx]
         exact HK.out.2.2
      case measure => simp [intOf]; omega
    ·
     have f1 : (T == (i : Int) + 1) = false:=by simp [g1]
     have hr:=HNO.out (fun h => g1 h.1)
     have HR:=veil (And.intro hr (HX.out.2.2.2.trans (HS.out.2.2.2.2.2.1.trans HW.out)))
     clear hr HNO HY
     go_wp2
     go_ret2
     exact ⟨_,_,rfl,HR.out.2,.inl ⟨HR.out.1,⟨none,0,rfl⟩,rfl⟩⟩
   ·
    obtain rfl : i = n:=by omega
    have hd1 : decide ((i : Int) < (i : Int)) = false:=by simp
    have hend : keysF 1 fs = some pre:=keysF_end (by rw [← HX.out.2.1]; exact hk)
    have hks:=hl.ks hpl hp.lt
    have KM:=veil (zdv _ pre wr hks (by omega))
    have hmo : mayK pre = ordK pre:=by rw [zfa,any_no hoff]; simp
    have hkeys : keysOf bs = (some pre).filter mayK:=by rw [HX.out.2.2.1,hend]
    have HP:=veil (And.intro hks hE)
    clear hp hl hT hk hE hend hks hpl hoff
    cases hord : ordK pre with
    | false =>
     rw [hord] at KM hmo
     have HR:=veil (show keysOf bs = none by rw [hkeys]; simp [hmo])
     clear hmo hord hkeys
     go_wp2_with (go_at_call 23; refine KM.out.mono ?_; rintro e w3 ⟨rfl,hE3⟩)
     go_ret2
     exact ⟨_,_,rfl,HX.out.2.2.2.trans (HP.out.2.trans hE3),.inl ⟨HR.out,⟨none,0,rfl⟩,rfl⟩⟩
    | true =>
     rw [hord] at KM hmo
     have HR:=veil (show keysOf bs = some pre by rw [hkeys]; simp [hmo])
     clear hmo hord hkeys
     go_wp2_with (go_at_call 23; refine KM.out.mono ?_; rintro e w3 ⟨rfl,hE3⟩)
     go_ret2
     exact ⟨_,_,rfl,HX.out.2.2.2.trans (HP.out.2.trans hE3),.inr ⟨pre,HR.out,HP.out.1.ext hE3,rfl⟩⟩
theorem kcheck_nil (w : World) : Calls Tryz.prog 17 #[.slice none 0 0,.slice none 0 0,.int .i64 0] w fun e w' => e = .returned (.tuple #[.agg (tkC ⟨0,0,0,0,0⟩),.iface 39 (.int .i64 2)]) ∧ Ext w w':=by
 have KM : Hid (∀ W : World,Calls Tryz.prog 10 #[.slice none 0 0] W fun e w' => e = .returned (.bool true) ∧ Ext W w'):=veil (fun W => may10_calls _ [] W (Ls.nil W none 0) (fun k hk => by cases hk) (by decide))
 have KO:=veil (fun W => open_nil_calls W)
 have k2:=neNil2
 go_enter Tryz.func17,Tryz.ntmps17
 go_upto_region 1 with (fail)
 obtain ⟨g,hg⟩ : ∃ g,g = w.heap.size:=⟨_,rfl⟩
 obtain ⟨w0,hw0⟩ : ∃ W,W = w.alloc (.cells TZ 47):=⟨_,rfl⟩
 have h0:=zag w (.cells TZ 47)
 have hE0:=Ext.alloc w (.cells TZ 47)
 rw [← hw0] at hE0
 rw [← hw0,← hg] at h0
 have H0:=veil (And.intro hE0 (And.intro h0 (show w.heap.size ≤ g by omega)))
 unfold TZ at hw0
 rw [← hw0,← hg]
 clear hw0 hg h0 hE0
 go_upto_region 3 with (go_at_call 10; refine (KM.out _).mono ?_; rintro e w1 ⟨rfl,hE1⟩)
 have H1:=veil (And.intro (H0.out.1.trans hE1) (hE1.block H0.out.2.1))
 clear hE1 KM
 go_upto_region 4 with (first
  | (go_at_call 36; refine (KO.out w1).mono ?_; rintro e w2 ⟨rfl,hE2⟩)
  | ((with_reducible refine zay ?_); refine wpList_store_row rfl 47 _ _ rfl w2.heap.size (tkC ⟨0,0,0,0,0⟩) rfl rfl 47 _ (zfr w2 _ _).1 (iTk _) rfl (tkC_one _) ?_)
  | ((with_reducible refine zay ?_); refine wpList_store_row rfl 78 _ _ rfl (w2.heap.size + 1) (gc 0 0) rfl rfl 78 _ (two_far _ (zfr w2 _ _).2 (Nat.lt_succ_self _)) (iSg 0 0) rfl (gc_one 0 0) ?_))
 have hF:=two_rows (T:=tkC ⟨0,0,0,0,0⟩) (G:=gc 0 0) (two_ext w2 (.cells TZ 47) (.cells Z8 78)) (zfr w2 _ _).1 (zfr w2 _ _).2 ⟨Nat.le_refl _,Nat.lt_succ_self _⟩
 have hE3:=H1.out.1.trans (hE2.trans hF.1)
 have hb3:=(hE2.trans hF.1).block H1.out.2
 clear hF hE2
 obtain ⟨g8,hg8⟩ : ∃ g,g = w2.heap.size:=⟨_,rfl⟩
 obtain ⟨g9,hg9⟩ : ∃ g,g = w2.heap.size + 1:=⟨_,rfl⟩
 rw [← hg9,← hg8] at hE3 hb3 ⊢
 obtain ⟨w3,hw3⟩ : ∃ W,W = (((w2.alloc (.cells TZ 47)).alloc (.cells Z8 78)).setRow g8 (tkC ⟨0,0,0,0,0⟩)).setRow g9 (gc 0 0):=⟨_,rfl⟩
 rw [← hw3] at hE3 hb3
 unfold TZ Z8 at hw3
 rw [← hw3]
 have H3:=veil (And.intro hE3 hb3)
 clear hw3 hg8 hg9 hE3 hb3 KO H1
 go_wp2_with ((with_reducible refine zay ?_); refine wpList_store_row rfl 47 _ _ rfl g TZ rfl rfl 47 _ H3.out.2 iTZ rfl tz_one ?_)
 refine bodyPost_ret (zba rfl _ _ g 47 TZ (0,0) _ rfl (setRow_heap w3 g _ TZ 47 (0,0) H3.out.2) Tryz.underlying47 rfl iTZ) rfl ⟨rfl,zav H3.out.1 H0.out.2.2 _⟩
theorem kt_keep (w w' : World) (h : KT w) (k : Ext w w') : KT w':=kt_now h k
theorem code10 (_ : CodeL) : Code10 lowL KT where
 keep:=kt_keep
 base:=base_calls
 find:=fun v l id at_ w hF hT hL => find10_calls v l id at_ w hF hT (Nat.le_trans hL (by decide))
 bytes:=fun v l w hF hT hL => kbytes_calls v l w hF hT (Nat.le_trans hL (by decide))
 parse:=fun A m c bs w hm hmc hle hS => kparse_calls A m c bs hm hmc (Nat.le_trans hle (by decide)) w hS
 check_nil:=kcheck_nil
theorem codeL : CodeL where
end Go.Proofs.YthlbemnbmbmjhaaGreatDoor
