/-
  Of HPad HSum SOwn SConst SSumA M1 HLaid HLaw MDef N1 N2 NK Q6 G8.
-/
import Derived.WalkKit
import Derived.WalkSpells
import Derived.WalkLawsBesides
import Derived.Deep.LoopGhost
import Derived.Deep.Cut
import Derived.Deep.CutRange
import Derived.Deep.OwnRows
import Derived.Test.YthlbemnbmbmjhaaGreatDoorRows
import Derived.BigQuiet
import Derived.Deep.RegionHeld3
import Derived.IntWalk
import Derived.Deep.QuietTactic
import Derived.StillTailTactics
import Derived.Deep.CutBlock
import Derived.ProofKit
import Derived.LaidMore
import Derived.OpenShut
import Derived.Stop.Joined
import Derived.MakeChecks
import Derived.Carry
import Derived.ChangeKeysEq
import Derived.Laws.BytesString
import Derived.BigFrame
import Derived.Deep.MidRow
import Derived.Deep.Matrix
import Derived.Deep.RegionWith
import Derived.Test.YthlbemnbmbmjhaaGreatDoorZC9
import Derived.Test.YthlbemnbmbmjhaaGreatDoorZC2
import Derived.Test.YthlbemnbmbmjhaaGreatDoorZC1
import Derived.Test.YthlbemnbmbmjhaaGreatDoorZC5
import Derived.Test.YthlbemnbmbmjhaaGreatDoorZC6
import Derived.Test.YthlbemnbmbmjhaaGreatDoorZC7
import Derived.Test.YthlbemnbmbmjhaaGreatDoorZC4
set_option maxRecDepth 1000000
set_option maxHeartbeats 20000000
namespace Go.Proofs.YthlbemnbmbmjhaaGreatDoor
open Go.RowKit
open Go.Value renaming int → vI
open Go.IntKind renaming u64 → vU
open Go.Act renaming put → aP
open List renaming setIfInBounds_toArray → lA, set_cons_zero → lZ, set_cons_succ → lS
theorem infoB3 : (Tryz.prog.info? 5).map (fun i => (i.zero,i.size,i.bytes)) = some (some (.int .u8 0),1,1):=by kernel_rfl
def padB (len : Nat) (i : Nat) : Nat:=padded (fun _ => 0) len (len + i)
def padN (len : Nat) : Nat:=64 * nBlocks len - len
theorem padN_eq (len : Nat) : padN len = 9 + (64 - (len + 9) % 64) % 64:=by unfold padN nBlocks; omega
theorem padN_all (len : Nat) : len + padN len = 64 * nBlocks len:=by unfold padN nBlocks; omega
theorem padB_lt (len i : Nat) : padB len i < 256:=by
 unfold padB padded
 rw [if_neg (by omega)]
 split
 ·
  omega
 ·
  split
  ·
   omega
  ·
   exact Nat.mod_lt _ (by omega)
theorem cat_pad (b : Nat → Nat) (len : Nat) : cat b len (padB len) = padded b len:=by
 funext i
 unfold cat padB
 by_cases h : i < len
 ·
  rw [if_pos h]; unfold padded; rw [if_pos h]
 ·
  rw [if_neg h,show len + (i - len) = i by omega]; unfold padded; rw [if_neg h,if_neg h]
def padK (len k : Nat) (j : Nat) : Nat:=if j = 0 then 128 else if j + k < padN len then 0 else padB len j
theorem padK_all (len j : Nat) (hj : j < padN len) : padK len 8 j = padB len j:=by
 unfold padK
 by_cases h : j = 0
 ·
  subst h; rw [if_pos rfl]; unfold padB padded; rw [if_neg (by omega),if_pos (by omega)]
 ·
  rw [if_neg h]
  by_cases h2 : j + 8 < padN len
  ·
   rw [if_pos h2]; unfold padB padded
   have:=padN_all len
   rw [if_neg (by omega),if_neg (by omega),if_pos (by omega)]
  ·
   rw [if_neg h2]
theorem padB_last {len k : Nat} (hk : k < 8) : padB len (padN len - 1 - k) = 8 * len / 256 ^ k % 256:=by
 have h1:=padN_eq len
 have h2:=padN_all len
 unfold padB padded
 rw [if_neg (by omega),if_neg (by omega),if_neg (by omega),show 64 * nBlocks len - 1 - (len + (padN len - 1 - k)) = k by omega]
theorem byte_shift (x k : Nat) : (x : Int) / 2 ^ (8 * k) % 256 = ((x / 256 ^ k % 256 : Nat) : Int):=by
 rw [Int.natCast_emod,Int.natCast_ediv,Int.natCast_pow,Nat.mul_comm 8 k,Nat.mul_comm k 8,Int.pow_mul]
 rfl
theorem padding_calls (len : Nat) (hl : len ≤ 288230376151711744) (w : World) :
  Calls Tryz.prog 131 #[.int .i64 (len : Int)] w fun e w' => e = .returned (.slice (some ⟨w.heap.size,0,none⟩) (padN len) (padN len)) ∧ w'.rowIs w.heap.size 5 (padN len) (fun j => .int .u8 (padB len j : Nat)) ∧ Below w.heap.size w w':=by
 have hP:=padN_eq len
 obtain ⟨P,hPP⟩ : ∃ P,P = padN len:=⟨_,rfl⟩
 rw [← hPP] at hP
 obtain ⟨o,ho⟩ : ∃ o,o = (len + 9) % 64:=⟨_,rfl⟩
 obtain ⟨z,hz⟩ : ∃ z,z = (64 - o) % 64:=⟨_,rfl⟩
 have e1 : ((len : Int) + 9) % 64 = (o : Int):=by omega
 have e2 : (64 - (o : Int)) % 64 = (z : Int):=by omega
 have e3 : 9 + (z : Int) = (P : Int):=by omega
 have ho64 : o < 64:=by omega
 have hz64 : z < 64:=by omega
 have hP9 : 9 ≤ P:=by omega
 have hP72 : P ≤ 72:=by omega
 have hmk:=fun W => run_make_row' (P:=Tryz.prog) 33 5 (.int .u8 0) 1 Tryz.underlying33 infoB3 rfl .i64 .i64 P (by omega) (by omega) W
 have HP:=veil hPP
 clear hP hz ho hPP
 go_enter Tryz.func131,Tryz.ntmps131
 go_upto_region 5 with (fail)
 have hR:=World.rowIs_made w (.int .u8 0) P 5
 have hb : Below w.heap.size w (w.alloc (.cells (madeCells #[.int .u8 0] P) 5)):=(Below.refl _ _).alloc (Nat.le_refl _) _
 generalize w.alloc (.cells (madeCells #[.int .u8 0] P) 5) = w1 at *
 generalize hgz : w.heap.size = g at *
 have HGZ:=veil hgz
 clear hgz hmk
 have c0:=hR.cell (show 0 < P by omega)
 have f0:=hR.frozen 0
 have hP0 : 0 < P:=by omega
 go_upto_region 6 with (fail)
 have hR1 : (w1.setCell ⟨g,0,none⟩ (.int .u8 128)).rowIs g 5 P (fun j => .int .u8 (padK len 0 j : Nat)):=(hR.set 0 _).congr fun j hj => by
  unfold padK
  by_cases h : j = 0
  ·
   rw [if_pos h,if_pos h]; rfl
  ·
   rw [if_neg h,if_neg h,if_pos (by rw [← HP.out]; omega)]; rfl
 have hb1 : Below g w (w1.setCell ⟨g,0,none⟩ (.int .u8 128)):=zaq hb (Nat.le_refl _) _
 generalize w1.setCell ⟨g,0,none⟩ (.int .u8 128) = w2 at *
 have e4 : (len : Int) * 8 = ((8 * len : Nat) : Int):=by omega
 obtain ⟨bc,hbc⟩ : ∃ bc,bc = 8 * len:=⟨_,rfl⟩
 have hbl : bc ≤ 2305843009213693952:=by omega
 rw [← hbc] at e4
 have HBC:=veil hbc
 clear c0 f0 hR hb hbc
 go_wp2
 go_loopw [25] (fun v wr => ∃ k : Nat,k ≤ 8 ∧ v = .int .i64 (k : Int) ∧ wr.rowIs g 5 P (fun j => .int .u8 (padK len k j : Nat)) ∧ Below g w wr)
  (fun v _ => 8 - (intOf v).toNat)
 case atStart => exact ⟨0,by omega,rfl,hR1,hb1⟩
 case round =>
  obtain ⟨k,hk,rfl,hR,hb⟩:=hrel
  by_cases hlt : k < 8
  ·
   obtain ⟨d,hd⟩ : ∃ d,d = P - 1 - k:=⟨_,rfl⟩
   have hdP : d < P:=by omega
   have hdi : (P : Int) - 1 - (k : Int) = (d : Int):=by omega
   have c0:=hR.cell hdP
   have f0:=hR.frozen d
   have HD:=veil hd
   clear hd
   go_wp2
   go_roundw
   case rel =>
    refine ⟨k + 1,by omega,by go_num,(hR.set d _).congr fun j hj => ?_,zaq hb (Nat.le_refl _) _⟩
    by_cases h : j = d
    ·
     rw [if_pos h,byte_shift]
     have hd:=HD.out
     unfold padK
     rw [if_neg (by omega),← HP.out,if_neg (by omega),h,hd,HP.out,padB_last hlt,HBC.out]
    ·
     rw [if_neg h]
     have hd:=HD.out
     unfold padK
     rw [← HP.out]
     by_cases h0 : j = 0
     ·
      rw [if_pos h0,if_pos h0]
     ·
      rw [if_neg h0,if_neg h0]
      by_cases h1 : j + k < P
      ·
       rw [if_pos h1,if_pos (by omega)]
      ·
       rw [if_neg h1,if_neg (by omega)]
   case measure => simp [intOf]; omega
  ·
   obtain rfl : k = 8:=by omega
   go_wp2
   go_ret
   exact ⟨by rw [HP.out,HGZ.out]; rfl,by rw [HGZ.out,← HP.out]; exact hR.congr (fun j hj => by rw [padK_all len j (by rw [← HP.out]; exact hj)]),by rw [HGZ.out]; exact hb⟩
/-! ### New,Len,Clone -/
def zH : Array Value:=arrOf 73 (hcells ⟨0,0,0,0,0,0,0,0⟩ (fun _ => 0) 0)
theorem zH_size : zH.size = 73:=zaz _ _
theorem zero_hash (w : World) : (zeroValue 170).run Tryz.prog w = .ok (.agg zH) w:=(zero_of_info (P:=Tryz.prog) (t:=170) (v:=.agg zH) (n:=73) (by kernel_rfl)).1 w
theorem hok_none (b : Nat → Nat) : HOk b 0 (blocksN (fun _ => 0) 0) (fun _ => 0):=⟨rfl,fun _ h => by omega,fun _ => by decide⟩
theorem new_calls (w : World) :
  Calls Tryz.prog 92 #[] w fun e w' => e = .returned (.pointer (some ⟨w.heap.size,0,none⟩)) ∧ (∀ b,HashIs w' w.heap.size b 0) ∧ Below w.heap.size w w':=by
 have z1:=zero_hash
 have z2:=zH_size
 go_enter Tryz.func92,Tryz.ntmps92
 go_wp2
 generalize hX : Obj.cells _ 170 = X
 have hX2 : X = .cells (arrOf 73 (hcells (blocksN (fun _ => 0) 0) (fun _ => 0) 0)) 170:=by rw [← hX]; rfl
 clear hX
 subst hX2
 have hr : HRow (w.alloc (.cells (arrOf 73 (hcells (blocksN (fun _ => 0) 0) (fun _ => 0) 0)) 170)) w.heap.size (blocksN (fun _ => 0) 0) (fun _ => 0) 0:=zcs w 73 170 _ rfl
 have hb : Below w.heap.size w (w.alloc (.cells (arrOf 73 (hcells (blocksN (fun _ => 0) 0) (fun _ => 0) 0)) 170)):=(Below.refl _ _).alloc (Nat.le_refl _) _
 go_ret
 exact ⟨rfl,fun b => ⟨_,_,hok_none b,hr⟩,hb⟩
theorem infoH : (Tryz.prog.info? 170).map (·.size) = some 73:=by kernel_rfl
theorem hone (s : St) (blk : Nat → Nat) (len : Nat) : (arrOf 73 (hcells s blk len)).all (·.oneCell') = true:=zer fun j _ => by
 unfold hcells
 split
 ·
  rfl
 ·
  split <;> rfl
theorem clone_calls (g L : Nat) (b : Nat → Nat) (w : World) (hH : HashIs w g b L) :
  Calls Tryz.prog 130 #[.pointer (some ⟨g,0,none⟩)] w fun e w' => e = .returned (.pointer (some ⟨w.heap.size,0,none⟩)) ∧ HashIs w' w.heap.size b L ∧ Below w.heap.size w w':=by
 obtain ⟨s,blk,hok,hrow⟩:=hH
 have hg:=blkOf hrow
 obtain ⟨X,hX⟩ : ∃ X,X = arrOf 73 (hcells s blk L):=⟨_,rfl⟩
 rw [← hX] at hg
 have HG:=veil hg
 have HX:=veil (show X.size = 73 ∧ X.all (·.oneCell') = true from ⟨by rw [hX,zaz],by rw [hX]; exact hone s blk L⟩)
 have HI:=veil (show (Tryz.prog.info? 170).map (·.size) = some X.size by rw [HX.out.1]; exact infoH)
 have HXX:=veil hX
 have z1:=zero_hash
 have HO:=veil hok
 clear hg hX hok hrow
 go_enter Tryz.func130,Tryz.ntmps130
 go_wp2_with (first
  | ((with_reducible refine zas 6 ?_); refine wpList_load_row rfl 170 _ rfl g rfl 170 X (0,0) _ HG.out Tryz.underlying170 rfl HI.out ?_)
  | ((with_reducible refine zap ?_); refine wpList_store_row rfl 170 _ _ rfl w.heap.size X rfl rfl 170 _ (heap_alloc_last w _) HI.out (by rw [HX.out.1,zH_size]) HX.out.2 ?_; rw [World.setRow_alloc_new]))
 go_ret
 refine ⟨rfl,⟨s,blk,HO.out,?_⟩,(Below.refl _ _).alloc (Nat.le_refl _) _⟩
 rw [HXX.out]
 exact zcs w 73 170 _ rfl
def dByte (s : St) (i : Nat) : Nat:=s.at (i / 4) / 256 ^ (3 - i % 4) % 256
def dgst (b : Nat → Nat) (len : Nat) : Array Value:=arrOf 32 fun i => .int .u8 (dByte (shaSt b len) i : Nat)
theorem infoD : (Tryz.prog.info? 112).map (·.size) = some 32:=by kernel_rfl
theorem zeros32 : (#[.int .u8 0,.int .u8 0,.int .u8 0,.int .u8 0,.int .u8 0,.int .u8 0,.int .u8 0,.int .u8 0,.int .u8 0,.int .u8 0,.int .u8 0,.int .u8 0,.int .u8 0,.int .u8 0,.int .u8 0,.int .u8 0,.int .u8 0,.int .u8 0,.int .u8 0,.int .u8 0,.int .u8 0,.int .u8 0,.int .u8 0,.int .u8 0,.int .u8 0,.int .u8 0,.int .u8 0,.int .u8 0,.int .u8 0,.int .u8 0,.int .u8 0,.int .u8 0] : Array Value) = arrOf 32 (fun _ => .int .u8 0):=rfl
theorem shaSt_of {b : Nat → Nat} {L : Nat} {s : St} {blk : Nat → Nat} (h : HOk (cat b L (padB L)) (L + padN L) s blk) : s = shaSt b L:=by
 rw [h.s,padN_all,cat_pad,Nat.mul_div_cancel_left _ (by decide : 0 < 64)]
 rfl
theorem hsum_calls (g L : Nat) (b : Nat → Nat) (hL : L ≤ 1048576) (w : World) (hK : KT w) (hH : HashIs w g b L) :
  Calls Tryz.prog 94 #[.pointer (some ⟨g,0,none⟩)] w fun e w' => e = .returned (.agg (dgst b L)) ∧ Below w.heap.size w w':=by
 go_enter Tryz.func94,Tryz.ntmps94
 go_upto_region 1 with (fail)
 rw [zeros32]
 have hR0 : (w.alloc (.cells (arrOf 32 (fun _ => .int .u8 0)) 112)).rowIs w.heap.size 112 32 (fun _ => .int .u8 0):=zcs w 32 112 _ rfl
 have hb0 : Below w.heap.size w (w.alloc (.cells (arrOf 32 (fun _ => .int .u8 0)) 112)):=(Below.refl _ _).alloc (Nat.le_refl _) _
 have hK0:=hK.alloc (.cells (arrOf 32 (fun _ => .int .u8 0)) 112)
 have hH0:=hH.alloc (.cells (arrOf 32 (fun _ => .int .u8 0)) 112)
 have hg0 : 0 < w.heap.size:=hK.lt
 generalize w.alloc (.cells (arrOf 32 (fun _ => .int .u8 0)) 112) = w1 at *
 generalize hgr : w.heap.size = gR at *
 have HGR:=veil hgr
 clear hgr hK hH
 go_wp2_with fail
 refine (clone_calls g L b w1 hH0).mono ?_
 rintro e w2 ⟨rfl,hC,hb2⟩
 have hR2:=zaa hR0 hb2 hR0.lt
 have hK2:=hK0.call hb2
 have hH2:=hH0.call hb2
 have hB2:=hb0.trans (hb2.mono (Nat.le_of_lt hR0.lt))
 have hgC : gR < w1.heap.size:=hR0.lt
 have hz2:=hC.lt
 generalize w1.heap.size = gC at *
 have cL:=hH2.len
 clear hR0 hK0 hH0 hb0 hb2
 go_wp2_with fail
 refine (padding_calls L (by omega) w2).mono ?_
 rintro e w3 ⟨rfl,hP,hb3⟩
 have hC3:=hC.call hb3
 have hK3:=hK2.call hb3
 have hR3:=zaa hR2 hb3 hR2.lt
 have hB3:=hB2.trans (hb3.mono (by omega))
 have hS3 : Src w3 (some ⟨w2.heap.size,0,none⟩) (padN L) (padB L) gC:=.inr ⟨_,0,rfl,hP.lt,by omega,fun j hj => by rw [Nat.zero_add]; exact hP.cell hj⟩
 clear hC hK2 hR2 hB2 hb3 cL hH2 hP
 go_wp2_with fail
 refine (write_calls gC b L _ (padN L) (padN L) (padB L) (padB_lt L) (Nat.le_refl _) (by have:=padN_eq L; omega) (by omega) w3 hK3 hC3 hS3).mono ?_
 rintro e w4 ⟨rfl,⟨s,blk,hok,hrow⟩,hb4⟩
 have hR4:=row_but hR3 hb4 (by omega)
 have hB4:=hB3.trans (But.new hb4 (B:=gR) (by omega) (by have:=hR3.lt; omega))
 obtain rfl:=shaSt_of hok
 clear hR3 hB3 hS3 hC3 hK3 hb4 hok
 obtain ⟨sh,hsh⟩ : ∃ sh,sh = shaSt b L:=⟨_,rfl⟩
 rw [← hsh] at hrow
 have HSH:=veil hsh
 clear hsh
 have hlt4 : gR < w4.heap.size:=hR4.lt
 go_upto_region 4 with (fail)
 rw [zeros32]
 have hO5 : (w4.alloc (.cells (arrOf 32 (fun _ => .int .u8 0)) 112)).rowIs w4.heap.size 112 32 (fun _ => .int .u8 0):=zcs w4 32 112 _ rfl
 have hR5:=hR4.alloc (.cells (arrOf 32 (fun _ => .int .u8 0)) 112)
 have hB5:=hB4.alloc (by omega) (.cells (arrOf 32 (fun _ => .int .u8 0)) 112)
 have hw5:=veil (hrow.alloc (.cells (arrOf 32 (fun _ => .int .u8 0)) 112)).words
 generalize w4.alloc (.cells (arrOf 32 (fun _ => .int .u8 0)) 112) = w5 at *
 generalize hgo : w4.heap.size = gO at *
 have hgRO : gR < gO:=by omega
 clear hrow hR4 hB4 hgo
 have kx : ∀ j : Nat,j < 8 → ∀ W,(Instr.index 167 (.agg (stArr sh)) (.int .i64 (j : Int))).run Tryz.prog W = .ok (.int .u32 (sh.at j : Nat)) W:=fun j hj W =>
  zeu (P:=Tryz.prog) (t:=167) (v:=.int .u32 (sh.at j : Nat)) Tryz.underlying167 (by kernel_rfl) (fun W => run_part_plain (P:=Tryz.prog) W (e:=147) (by kernel_rfl) (off:=j) (zdi (n:=8) (fun i => .int .u32 (sh.at i : Nat)) hj)) hj .i64 W
 have KX:=veil kx
 have HSL:=veil (stList sh)
 clear kx
 go_wp2_with ((with_reducible refine zas 20 ?_); refine wpList_load_mid rfl 167 _ rfl gC 0 rfl _ _ hw5.out Tryz.underlying167 rfl (by simpa using infoS) ?_; rw [HSL.out]; generalize hSA : stArr sh = SA at *; have HSA:=veil hSA; clear hSA)
 clear hw5
 go_loopw [21] (fun v wr => ∃ i : Nat,i ≤ 8 ∧ v = .int .i64 (i : Int) ∧ wr.rowIs gO 112 32 (fun p => .int .u8 ((if p < 4 * i then dByte sh p else 0 : Nat) : Int)) ∧ wr.rowIs gR 112 32 (fun _ => .int .u8 0) ∧ Below gR w wr)
  (fun v _ => 8 - (intOf v).toNat)
 case atStart => exact ⟨0,by omega,rfl,hO5,hR5,hB5⟩
 case round =>
  obtain ⟨i,hi,rfl,hO,hR,hB⟩:=hrel
  by_cases hlt : i < 8
  ·
   have ki:=KX.out i hlt
   obtain ⟨x,hx⟩ : ∃ x,x = sh.at i:=⟨_,rfl⟩
   rw [← hx] at ki
   have HX:=veil hx
   have hd : decide ((i : Int) < 8) = true:=by simp; omega
   clear hx
   go_wp2
   go_loopw [25] (fun v wr => ∃ j : Nat,j ≤ 4 ∧ v = .int .i64 (j : Int) ∧ wr.rowIs gO 112 32 (fun p => .int .u8 ((if p < 4 * i + j then dByte sh p else 0 : Nat) : Int)) ∧ wr.rowIs gR 112 32 (fun _ => .int .u8 0) ∧ Below gR w wr)
    (fun v _ => 4 - (intOf v).toNat)
   case atStart => exact ⟨0,by omega,rfl,hO,hR,hB⟩
   case round =>
    obtain ⟨j,hj,rfl,hO,hR,hB⟩:=hrel
    by_cases hlj : j < 4
    ·
     obtain ⟨p,hp⟩ : ∃ p,p = 4 * i + j:=⟨_,rfl⟩
     have hp32 : p < 32:=by omega
     have hpi : (i : Int) * 4 + (j : Int) = (p : Int):=by omega
     have c0:=hO.cell hp32
     have f0:=hO.frozen p
     have HP:=veil hp
     clear hp
     go_wp2
     go_roundw
     case rel =>
      refine ⟨j + 1,by omega,by go_num,(hO.set p _).congr fun q hq => ?_,zau hR (by omega) _,zaq hB (by omega) _⟩
      have hp:=HP.out
      by_cases h : q = p
      ·
       rw [if_pos h,if_pos (by omega),byte_shift]
       unfold dByte
       rw [show q / 4 = i by omega,show 3 - q % 4 = 3 - j by omega,← HX.out]
      ·
       rw [if_neg h]
       by_cases h2 : q < 4 * i + j
       ·
        rw [if_pos h2,if_pos (by omega)]
       ·
        rw [if_neg h2,if_neg (by omega)]
     case measure => simp [intOf]; omega
    ·
     have e4 : j = 4:=by omega
     have hjf : decide ((j : Int) < 4) = false:=by simp; omega
     have hO : wr.rowIs gO 112 32 (fun p => .int .u8 ((if p < 4 * (i + 1) then dByte sh p else 0 : Nat) : Int)):=hO.congr fun p _ => by rw [e4,show 4 * (i + 1) = 4 * i + 4 by omega]
     clear e4 hlj hj
     go_wp2
     go_roundw
     case rel => exact ⟨i + 1,by omega,by go_num,hO,hR,hB⟩
     case measure => simp [intOf]; omega
  ·
   have e8 : i = 8:=by omega
   have hif : decide ((i : Int) < 8) = false:=by simp; omega
   have hO : wr.rowIs gO 112 32 (fun p => .int .u8 (dByte sh p : Nat)):=hO.congr fun p hp => by rw [if_pos (by omega)]
   have HA:=veil (blkOf hO)
   have HN:=veil (blkOf hR)
   obtain ⟨D,hD⟩ : ∃ D,D = arrOf 32 (fun p => .int .u8 (dByte sh p : Nat)):=⟨_,rfl⟩
   rw [← hD] at HA
   have hs : D.size = 32:=by rw [hD,zaz]
   have h1 : D.all (·.oneCell') = true:=by rw [hD]; exact zer fun _ _ => rfl
   have HZ:=veil (And.intro hs (And.intro h1 (show (Tryz.prog.info? 112).map (·.size) = some D.size by rw [hs]; exact infoD)))
   have HD:=veil (show D = dgst b L by rw [hD,HSH.out]; rfl)
   clear hs h1 hD e8 hlt hi hO hR
   go_wp2_with (first
    | ((with_reducible refine zas 41 ?_); refine wpList_load_row rfl 112 _ rfl gO rfl 112 D (0,0) _ HA.out Tryz.underlying112 rfl HZ.out.2.2 ?_)
    | ((with_reducible refine zap ?_); refine wpList_store_row rfl 112 _ _ rfl gR D rfl rfl 112 _ HN.out HZ.out.2.2 (by rw [HZ.out.1,zaz]) HZ.out.2.1 ?_))
   exact bodyPost_ret (results_cell_row rfl _ _ gR 112 D (0,0) _ rfl (setRow_heap wr gR _ D 112 (0,0) HN.out) Tryz.underlying112 rfl HZ.out.2.2) rfl ⟨by rw [HD.out],by rw [HGR.out]; exact zbq hB (Nat.le_refl _) _⟩
theorem dgst_size (b : Nat → Nat) (n : Nat) : (dgst b n).size = 32:=zaz _ _
theorem Src.at {w : World} {A : Option Addr} {n g g' : Nat} {y : Nat → Nat} (h : Src w A n y g) (hg : w.heap.size ≤ g') : Src w A n y g':=by
 rcases h with h | ⟨b,o,ha,hlt,_,hc⟩
 ·
  exact .inl h
 ·
  exact .inr ⟨b,o,ha,hlt,by omega,hc⟩
theorem cat_none (b y : Nat → Nat) : cat b 0 y = y:=by funext i; unfold cat; rw [if_neg (by omega),Nat.sub_zero]
theorem sum_calls (A : Option Addr) (n c : Nat) (y : Nat → Nat) (hy : ∀ j,y j < 256) (hnc : n ≤ c) (hn : n ≤ 1048576) (w : World) (hK : KT w) (hS : Src w A n y w.heap.size) :
  Calls Tryz.prog 65 #[.slice A n c] w fun e w' => e = .returned (.agg (dgst y n)) ∧ Below w.heap.size w w':=by
 have hS0:=hS.at (Nat.le_refl w.heap.size)
 go_enter Tryz.func65,Tryz.ntmps65
 go_upto_region 1 with (fail)
 rw [zeros32]
 have hR0 : (w.alloc (.cells (arrOf 32 (fun _ => .int .u8 0)) 112)).rowIs w.heap.size 112 32 (fun _ => .int .u8 0):=zcs w 32 112 _ rfl
 have hb0 : Below w.heap.size w (w.alloc (.cells (arrOf 32 (fun _ => .int .u8 0)) 112)):=(Below.refl _ _).alloc (Nat.le_refl _) _
 have hK0:=hK.alloc (.cells (arrOf 32 (fun _ => .int .u8 0)) 112)
 have hg0 : 0 < w.heap.size:=hK.lt
 have hS1:=(hS.at (g':=w.heap.size + 1) (by omega)).below hb0
 have hsz : (w.alloc (.cells (arrOf 32 (fun _ => .int .u8 0)) 112)).heap.size = w.heap.size + 1:=by simp
 generalize w.alloc (.cells (arrOf 32 (fun _ => .int .u8 0)) 112) = w1 at *
 generalize hgr : w.heap.size = gR at *
 have HGR:=veil hgr
 have HY:=veil hy
 clear hgr hK hS hS0 hy
 go_wp2_with fail
 refine (new_calls w1).mono ?_
 rintro e w2 ⟨rfl,hC,hb2⟩
 have hR2:=zaa hR0 hb2 hR0.lt
 have hK2:=hK0.call hb2
 have hB2:=hb0.trans (hb2.mono (by omega))
 have hS2:=hS1.below hb2
 rw [hsz] at hC ⊢
 have HC:=veil (hC (fun _ => 0))
 clear hR0 hK0 hb0 hb2 hS1 hC hsz
 go_wp2_with fail
 refine (write_calls (gR + 1) (fun _ => 0) 0 A n c y HY.out hnc (by omega) (by omega) w2 hK2 HC.out hS2).mono ?_
 rintro e w3 ⟨rfl,hH3,hb3⟩
 rw [Nat.zero_add,cat_none] at hH3
 have hR3:=row_but hR2 hb3 (by omega)
 have hK3:=hK2.grown hb3 (by omega)
 have hB3:=hB2.trans (But.new hb3 (B:=gR) (by omega) (by have:=hR2.lt; omega))
 clear hR2 hK2 hB2 hS2 HC hb3
 go_wp2_with fail
 refine (hsum_calls (gR + 1) n y hn w3 hK3 hH3).mono ?_
 rintro e w4 ⟨rfl,hb4⟩
 have hR4:=zaa hR3 hb4 hR3.lt
 have hB4:=hB3.trans (hb4.mono (by have:=hR3.lt; omega))
 have HN:=veil (blkOf hR4)
 have HZ:=veil (And.intro (dgst_size y n) (And.intro (show (dgst y n).all (·.oneCell') = true from zer fun _ _ => rfl) (show (Tryz.prog.info? 112).map (·.size) = some (dgst y n).size by rw [dgst_size]; exact infoD)))
 obtain ⟨D,hD⟩ : ∃ D,D = dgst y n:=⟨_,rfl⟩
 rw [← hD] at HZ ⊢
 have HD:=veil hD
 clear hR3 hK3 hB3 hH3 hb4 hR4 hD
 go_wp2_with ((with_reducible refine zap ?_); refine wpList_store_row rfl 112 _ _ rfl gR D rfl rfl 112 _ HN.out HZ.out.2.2 (by rw [HZ.out.1,zaz]) HZ.out.2.1 ?_)
 exact bodyPost_ret (results_cell_row rfl _ _ gR 112 D (0,0) _ rfl (setRow_heap w4 gR _ D 112 (0,0) HN.out) Tryz.underlying112 rfl HZ.out.2.2) rfl ⟨by rw [HD.out],by rw [HGR.out]; exact zbq hB4 (Nat.le_refl _) _⟩
theorem infoU32 : (Tryz.prog.info? 147).map (fun i => (i.zero,i.size,i.bytes)) = some (some (.int .u32 0),1,4):=by kernel_rfl
def kCells : Array Value:=(kList.map fun (k : Nat) => Value.int .u32 (k : Int)).toArray
theorem constants_calls (w : World) :
  Calls Tryz.prog 104 #[] w fun e w' => e = .returned (.slice (some ⟨w.heap.size,0,none⟩) 64 64) ∧ w' = w.alloc (.cells kCells 147):=by
 go_enter Tryz.func104,Tryz.ntmps104
 go_wp2
 go_ret
 exact ⟨rfl,congrArg (fun c => w.alloc (.cells c 147)) (by unfold kCells kList; rfl)⟩
theorem kRow {w : World} {g : Nat} (hg : g = w.heap.size) : (w.alloc (.cells kCells 147)).rowIs g 147 64 (fun j => .int .u32 (kc j : Nat)):=by
 refine zae hg (by unfold kCells kList; rfl) fun i hi => ?_
 unfold kCells kc
 have hl : kList.length = 64:=by decide
 simp [List.getD,hl,hi]
theorem src_from {w : World} {A : Option Addr} {n g : Nat} {y : Nat → Nat} (h : Src w A n y g) : From w A n (fun j => .int .u8 (y j : Nat)):=by
 rcases h with h | ⟨b,o,rfl,_,_,hc⟩
 ·
  exact .inl h
 ·
  exact .inr ⟨_,rfl,fun j hj => by rw [Addr.add_mid]; exact hc j hj⟩
def txv (y : Nat → Nat) (n : Nat) (j : Nat) : Value:=.int .u8 (padded y n j : Nat)
theorem txv_lo {y : Nat → Nat} {n j : Nat} (h : j < n) : txv y n j = .int .u8 (y j : Nat):=by unfold txv padded; rw [if_pos h]
theorem txv_at {y : Nat → Nat} {n : Nat} : txv y n n = .int .u8 128:=by unfold txv padded; rw [if_neg (by omega),if_pos rfl]; rfl
theorem txv_mid {y : Nat → Nat} {n j : Nat} (h1 : n < j) (h2 : j < 64 * nBlocks n - 8) : txv y n j = .int .u8 0:=by unfold txv padded; rw [if_neg (by omega),if_neg (by omega),if_pos h2]; rfl
theorem txv_hi {y : Nat → Nat} {n j : Nat} (h1 : 64 * nBlocks n - 8 ≤ j) (h2 : n < j) : txv y n j = .int .u8 ((8 * n / 256 ^ (64 * nBlocks n - 1 - j) % 256 : Nat) : Int):=by unfold txv padded; rw [if_neg (by omega),if_neg (by omega),if_neg (by omega)]
theorem own_one (w : World) (e : Nat) (x : Value) : Own (w.alloc (.cells #[x] e)) w.heap.size e (.slice (some ⟨w.heap.size,0,none⟩) 1 1) 1 (fun _ => x) :=
 Own.made w (cs:=#[x]) (Nat.le_refl _) (show 1 ≤ maxLen by decide) fun j hj => by
  have : j = 0:=by simpa using hj
  subst this
  rfl
structure RF (w wr : World) (gR gT gH gK N : Nat) (tx : Nat → Value) (st : Nat → Value) : Prop where
 text : Pre wr gT 5 N tx
 h : wr.rowIs gH 147 8 st
 k : wr.rowIs gK 147 64 (fun j => .int .u32 (kc j : Nat))
 r : wr.rowIs gR 112 32 (fun _ => .int .u8 0)
 b : Below gR w wr
 o1 : gR < gT
 o2 : gT < gH
 o3 : gH < gK
section
variable {w wr w' : World} {gR gT gH gK N : Nat} {tx : Nat → Value} {st st' : Nat → Value}
theorem RF.lt (f : RF w wr gR gT gH gK N tx st) : gK < wr.heap.size:=f.k.lt
theorem RF.of (f : RF w wr gR gT gH gK N tx st) (hk : ∀ b,b ≤ gK → w'.heap[b]? = wr.heap[b]?) (hb : Below gR wr w') : RF w w' gR gT gH gK N tx st:=by
 have:=f.o1; have:=f.o2; have:=f.o3
 exact ⟨f.text.of_block (hk gT (by omega)),f.h.of_block (hk gH (by omega)),f.k.of_block (hk gK (by omega)),f.r.of_block (hk gR (by omega)),f.b.trans hb,f.o1,f.o2,f.o3⟩
theorem RF.drewN (f : RF w wr gR gT gH gK N tx st) (k : Nat) : RF w (wr.drewN k) gR gT gH gK N tx st:=⟨f.text,f.h,f.k,f.r,zbf f.b k,f.o1,f.o2,f.o3⟩
theorem RF.drew (f : RF w wr gR gT gH gK N tx st) : RF w wr.drew gR gT gH gK N tx st:=⟨f.text,f.h,f.k,f.r,f.b.drew,f.o1,f.o2,f.o3⟩
theorem RF.alloc (f : RF w wr gR gT gH gK N tx st) (o : Obj) : RF w (wr.alloc o) gR gT gH gK N tx st:=by
 have:=f.o1; have:=f.o2; have:=f.o3; have:=f.lt
 exact f.of (fun b hb => Below.heap_alloc _ _ _ (by omega)) ((Below.refl _ _).alloc (by omega) o)
theorem RF.grown (f : RF w wr gR gT gH gK N tx st) {row : Option Nat} (hg : wr.grownBy w' row) (hr : ∀ k,row = some k → gK < k) : RF w w' gR gT gH gK N tx st:=by
 have:=f.o1; have:=f.o2; have:=f.o3; have:=f.lt
 exact f.of (fun b hb => hg.block b (by omega) (fun e => by have:=hr b e.symm; omega)) ((Below.refl _ _).grown hg (by omega) (fun k e => by have:=hr k e; omega))
theorem RF.far (f : RF w wr gR gT gH gK N tx st) {b i : Nat} (hb : gK < b) (v : Value) : RF w (wr.setCell ⟨b,i,none⟩ v) gR gT gH gK N tx st:=by
 have:=f.o1; have:=f.o2; have:=f.o3
 exact f.of (fun c hc => Below.heap_setCell _ _ _ _ (by show c ≠ b; omega)) ((Below.refl _ _).setCell (p:=⟨b,i,none⟩) (by show gR ≤ b; omega) v)
end
theorem RF.setH {w wr : World} {gR gT gH gK N : Nat} {tx st : Nat → Value} (f : RF w wr gR gT gH gK N tx st) (i : Nat) (v : Value) : RF w (wr.setCell ⟨gH,i,none⟩ v) gR gT gH gK N tx (fun j => if j = i then v else st j):=by
 have:=f.o1; have:=f.o2; have:=f.o3
 exact ⟨f.text.far (by omega) v,f.h.set i v,zau f.k (by omega) v,zau f.r (by omega) v,zaq f.b (by omega) v,f.o1,f.o2,f.o3⟩
theorem RF.congrH {w wr : World} {gR gT gH gK N : Nat} {tx st st' : Nat → Value} (f : RF w wr gR gT gH gK N tx st) (h : ∀ j,j < 8 → st j = st' j) : RF w wr gR gT gH gK N tx st' :=
 ⟨f.text,f.h.congr h,f.k,f.r,f.b,f.o1,f.o2,f.o3⟩
def hst (s : St) : Nat → Value:=fun j => .int .u32 (s.at j : Nat)
theorem keep_step {w W W' : World} {gR : Nat} {o : Obj} {row : Option Nat} (hR : W.rowIs gR 112 32 (fun _ => .int .u8 0)) (hB : Below gR w W) (hg : (W.alloc o).grownBy W' row) (hr : ∀ k,row = some k → gR + 1 ≤ k) :
  W'.rowIs gR 112 32 (fun _ => .int .u8 0) ∧ Below gR w W' ∧ gR < W'.heap.size:=by
 have hz:=hR.lt
 have h1:=zit (hR.alloc o) hg (fun e => by have:=hr gR e.symm; omega)
 exact ⟨h1,(hB.alloc (by omega) o).grown hg (by simp; omega) (fun k e => by have:=hr k e; omega),h1.lt⟩
def upTo (y : Nat → Nat) (n j : Nat) : Nat:=if j < n then y j else 0
def kb (y : Nat → Nat) (n : Nat) : Nat → Nat:=if n > 64 then upTo (fun j => dByte (shaSt y n) j) 32 else upTo y n
def kx (k : Nat → Nat) (x : Nat) (j : Nat) : Value:=.int .u8 ((k j ^^^ x : Nat) : Int)
end Go.Proofs.YthlbemnbmbmjhaaGreatDoor
namespace Go.Proofs.YthlbemnbmbmjhaaGreatDoor
open Go.ChangeShapes Go.WideShapes Go.ChangeAt Go.RowKit
open Go.Value renaming int → vI
open Go.IntKind renaming u64 → vU
open Go.Act renaming put → aP
open List renaming setIfInBounds_toArray → lA, set_cons_zero → lZ, set_cons_succ → lS
theorem own : ownKnob Tryz.prog.godebug = none:=by kernel_rfl
def laidL : List (String × DataW Unit):=[("clapper/sha.roundWords",Rows.laid_clapper_sha_roundWords)]
theorem gRound : Tryz.prog.globalNamed "clapper/sha.roundWords" = some 0:=by kernel_rfl
theorem tRound : (Tryz.prog.globals[0]?).map (·.type) = some 183:=by kernel_rfl
theorem cellsU32 : Tryz.prog.cellsOf 147 = 1:=by kernel_rfl
theorem laid_list : Rows.laid_clapper_sha_roundWords (H:=Unit) = .agg (kList.map fun (k : Nat) => (.lit (.int .u32 (k : Int)) : DataW Unit)):=rfl
theorem kc_get {j : Nat} (hj : j < 64) : kList[j]? = some (kc j):=by
 have hl : kList.length = 64:=by decide
 unfold kc
 simp [List.getD,hl,hj]
theorem kt_of_laid {W : World} (h : laidMetH Tryz.prog laidL W) : KT W:=by
 unfold laidL at h
 rw [MakeChecks.laidMetH_plain _ _ _ (by kernel_rfl)] at h
 obtain ⟨ps,⟨g0,t0,cs0,f0,p0,q0,hg0,ht0,hv0,hd0,_⟩,_,_⟩:=h
 obtain rfl:=Option.some.inj (gRound.symm.trans hg0)
 obtain rfl:=Option.some.inj (tRound.symm.trans ht0)
 obtain ⟨xs,m1,rfl,hx1,hlen,hn,hel⟩:=DataW.trod_array Tryz.underlying183 hd0
 have hx2 : xs.map (·.1) = kList.map fun (k : Nat) => (.lit (.int .u32 (k : Int)) : DataW Unit):=by
  rw [laid_list] at hx1
  simp only [Prod.mk.injEq,DataW.agg.injEq] at hx1
  exact hx1.1.symm
 have cell : ∀ j,j < 64 → W.cell? ⟨0,j,none⟩ = some (.int .u32 (kc j : Nat)):=fun j hj => by
  have h1:=hel j hj
  rw [cellsU32,Nat.mul_one] at h1
  obtain ⟨x,hx⟩ : ∃ x,xs[j]? = some x:=⟨xs[j],by rw [List.getElem?_eq_getElem]⟩
  rw [hx] at h1
  obtain ⟨k,e1,e2,_⟩:=DataW.trod_int Tryz.underlying147 h1
  have h3 : (xs.map (·.1))[j]? = some (.lit (.int .u32 k)):=by simp [hx,e2]
  rw [hx2] at h3
  simp only [List.getElem?_map,kc_get hj,Option.map_some,Option.some.injEq,DataW.lit.injEq,Lit.int.injEq,true_and] at h3
  have h4 : cs0.toList[j]? = some (.int .u32 k):=by
   have : ((cs0.toList.drop j).take 1)[0]? = some (.int .u32 k):=by rw [e1]; rfl
   simpa [List.getElem?_take,List.getElem?_drop] using this
  have h5:=World.var?_cell hg0 hv0 j
  rw [h5,h3]
  simpa using h4
 exact ⟨World.block_lt_of_cell? W _ (cell 0 (by decide)),cell⟩
theorem door_met (os : Os) (args : Array Value) : laidMetH Tryz.prog laidL ((World.doorLaid Tryz.prog 14 os).forCall (fun _ _ => 0) ⟨#[],args,[]⟩).memory :=
 laidMetH_of_parts3 (fuel:=8) (laidMet_of_run' 8 (by kernel_rfl) (by kernel_rfl)) (by kernel_rfl) (by kernel_rfl)
end Go.Proofs.YthlbemnbmbmjhaaGreatDoor
namespace Go.Proofs.YthlbemnbmbmjhaaGreatDoor
open Go.ChangeShapes Go.WideShapes Go.ChangeAt Go.RowKit
open Go.Value renaming int → vI
open Go.IntKind renaming u64 → vU
open Go.Act renaming put → aP
open List renaming setIfInBounds_toArray → lA, set_cons_zero → lZ, set_cons_succ → lS
/-! ### a text -/
/-! ### '==' between sums -/
/-! ### slices cut anywhere -/
theorem Src.cut {w : World} {A : Option Addr} {r c m g : Nat} {y : Nat → Nat} (h : Src w A r y g) (hm : m ≤ r) (hc : r ≤ c) : Src w (cutA A m c) (r - m) (fun j => y (m + j)) g:=by
 by_cases h0 : r - m = 0
 ·
  exact .inl h0
 ·
  rcases h with h | ⟨b,o,rfl,hlt,hne,hcl⟩
  ·
   omega
  ·
   refine .inr ⟨b,o + m,by unfold cutA; rw [if_neg (by omega)]; simp [Addr.add_mid],hlt,hne,fun j hj => ?_⟩
   rw [Nat.add_assoc]
   exact hcl (m + j) (by omega)
theorem kt_now {w wr : World} (h : KT w) (hb : Below w.heap.size w wr) : KT wr:=h.call hb
theorem Own.but {w w' : World} {base e n r : Nat} {v : Value} {f : Nat → Value} (o : Own w base e v n f) (hb : But r w w') (hr : r < base) : Own w' base e v n f :=
 o.kept hb (by
  cases h : v.ownBlock with
  | none => exact .inl rfl
  | some k => exact .inr (fun e => by have:=(o.lt h).1; simp at e; omega))
theorem Own.call {w w' : World} {base e n : Nat} {v : Value} {f : Nat → Value} (o : Own w base e v n f) (hb : Below w.heap.size w w') : Own w' base e v n f:=o.below hb (Nat.le_refl _)
theorem HashIs.grown {w w' : World} {g L : Nat} {b : Nat → Nat} {row : Option Nat} (h : HashIs w g b L) (hg : w.grownBy w' row) (hne : some g ≠ row) : HashIs w' g b L:=h.of_block (hg.block g h.lt hne)
/-! ### arguments -/
end Go.Proofs.YthlbemnbmbmjhaaGreatDoor
namespace Go.Proofs.YthlbemnbmbmjhaaGreatDoor
open Go.RowKit
open Go.Value renaming int → vI
open Go.IntKind renaming u64 → vU
open Go.Act renaming put → aP
open List renaming setIfInBounds_toArray → lA, set_cons_zero → lZ, set_cons_succ → lS
def macIn (y : Nat → Nat) (n : Nat) (t : Nat → Nat) : Nat → Nat:=cat (fun j => kb y n j ^^^ 54) 64 t
def macOut (y : Nat → Nat) (n : Nat) (t : Nat → Nat) (m : Nat) : Nat → Nat:=cat (fun j => kb y n j ^^^ 92) 64 (fun j => dByte (shaSt (macIn y n t) (64 + m)) j)
/-! ### steps of a region that draws its order -/
def nb (k : Nat → Nat) (n : Nat) (t : Nat → Nat) (m : Nat) : Nat → Nat:=fun j => dByte (shaSt (macOut k n t m) 96) j
theorem nb_lt (k : Nat → Nat) (n : Nat) (t : Nat → Nat) (m j : Nat) : nb k n t m j < 256:=Nat.mod_lt _ (by decide)
theorem zej : Pt.nn < top:=by decide +kernel
theorem nn_words : wd Pt.nn 0 = 17562291160714782033 ∧ wd Pt.nn 1 = 13611842547513532036 ∧ wd Pt.nn 2 = 18446744073709551615 ∧ wd Pt.nn 3 = 18446744069414584320:=by decide +kernel
theorem nn_is (w : World) : Calls Tryz.prog 97 #[] w fun e w' => e = .returned (nv Pt.nn) ∧ Ext w w':=by
 obtain ⟨l0,l1,l2,l3⟩:=nn_words
 unfold nv nc
 rw [l0,l1,l2,l3]
 clear l0 l1 l2 l3
 go_enter Tryz.func97,Tryz.ntmps97
 go_wp2
 exact bodyPost_ret (results_cell_row rfl _ _ w.heap.size 27 #[vI vU 17562291160714782033,vI vU 13611842547513532036,vI vU 18446744073709551615,vI vU 18446744069414584320] (0,0) _ rfl (heap_alloc_last w _) Tryz.underlying27 rfl (by kernel_rfl)) rfl ⟨rfl,(Below.refl _ _).alloc (Nat.le_refl _) _⟩
theorem neN0 {X : Nat} (hX : X < top) (h0 : X ≠ 0) (W : World) : (binOp .neq 27 (nv X) (nv 0)).run Tryz.prog W = .ok (.bool true) W:=by
 have e:=zjb hX zcb W
 rw [decide_eq_false h0] at e
 exact neq_of e rfl
section
variable {P : Program} {o : Oper} {a : Act} {w : World}
theorem zks {x : Operand} {ty ty2 : TypeId} {c : Int} {v : Bool} (ho : o.op = .binOp .lss ty x (.const (.int .i64 0)) ty2) (hx : a.eval x = .int .i64 c) (hv : decide (c < 0) = v) : Made P o (.bool v) a w:=zbp fun W _ => by
 have h0 : a.eval (.const (.int .i64 0)) = .int .i64 0:=rfl
 unfold execOp
 simp only [ho]
 generalize a.eval = ρ at *
 subst hv
 rw [hx,h0]
 simp [go_sem,eqGuard]
end
theorem cmpL {X Y : Nat} (h : X < Y) : decide (cmpN X Y < 0) = true:=by unfold cmpN; rw [if_pos h]; rfl
theorem cmpG {X Y : Nat} (h : ¬ X < Y) : decide (cmpN X Y < 0) = false:=by
 unfold cmpN
 rw [if_neg h]
 split <;> rfl
theorem may_zero  (w : World) :
  Calls Tryz.prog 95 #[nv 0] w fun e w' => e = .returned (.bool false) ∧ Ext w w':=by
 unfold nv nc
 go_enter Tryz.func95,Tryz.ntmps95
 go_upto_region 1 with (fail)
 refine zdp fun w1 hx b0 => ?_
 have b0 : w1.heap[w.heap.size]? = some (.cells (nc 0) 27 (0,0)):=b0
 refine' zch (m:=10) (A:=_) 10 (by kernel_rfl) (by kernel_rfl) ?h1 ?h2
 case h1 =>
  refine zab (nv 0) rfl (zag rfl rfl b0 rfl uN rfl (iN _)) ?_
  refine zab (nv 0) rfl (zcd rfl rfl (bldN0 ·)) ?_;simp only [aP,lA,lZ,lS]
  refine zab (.bool false) rfl (zic rfl rfl rfl (gN _ _ _ _ _) neN) ?_
  refine zab (.bool false) rfl (zaj (.inl rfl) rfl) ?_;simp only [aP,lA,lZ,lS]
  refine zav rfl ?_
  refine zav rfl ?_;simp only [aP,lA,lZ,lS]
  refine zav rfl ?_
  refine zav rfl ?_;simp only [aP,lA,lZ,lS]
  refine zab (.bool false) rfl (zax rfl rfl rfl) ?_
  refine zab (.bool false) rfl (zaj (.inr rfl) rfl) ?_;simp only [aP,lA,lZ,lS]
  exact zaw
 refine zby rfl (by kernel_rfl) ?_
 intro w2 hE
 refine NoPanic.normal ?_
 replace hx:=hx.trans hE
 clear hE
 go_wp2
 go_ret
 exact ⟨rfl,hx⟩
theorem may_in (X : Nat) (hX : X < top) (h0 : X ≠ 0) (hl : X < Pt.nn) (w : World) :
  Calls Tryz.prog 95 #[nv X] w fun e w' => e = .returned (.bool true) ∧ Ext w w':=by
 have kX:=veil hX
 have k0:=veil h0
 have kl:=veil hl
 clear hX h0 hl
 unfold nv nc
 go_enter Tryz.func95,Tryz.ntmps95
 go_upto_region 1 with (fail)
 refine zdp fun w1 hx b0 => ?_
 have b0 : w1.heap[w.heap.size]? = some (.cells (nc X) 27 (0,0)):=b0
 refine' zch (m:=10) (A:=_) 10 (by kernel_rfl) (by kernel_rfl) ?h1 ?h2
 case h1 =>
  refine zab (nv X) rfl (zag rfl rfl b0 rfl uN rfl (iN _)) ?_
  refine zab (nv 0) rfl (zcd rfl rfl (bldN0 ·)) ?_;simp only [aP,lA,lZ,lS]
  refine zab (.bool true) rfl (zic rfl rfl rfl (gN _ _ _ _ _) (neN0 kX.out k0.out ·)) ?_
  refine zab (.bool true) rfl (zaj (.inl rfl) rfl) ?_;simp only [aP,lA,lZ,lS]
  refine zam (nv X) rfl (zag rfl rfl b0 rfl uN rfl (iN _)) ?_
  refine zam (nv Pt.nn) rfl (zak (args:=[]) rfl rfl (fun W => zad Tryz.func97 rfl rfl _ W) (fun W hW => nn_is W)) ?_;simp only [aP,lA,lZ,lS]
  refine zam (.int .i64 (cmpN X Pt.nn)) rfl (zak (args:=[nv X,nv Pt.nn]) rfl rfl (fun W => zad Tryz.func40 rfl rfl _ W) (fun W hW => zdt X Pt.nn kX.out zej W)) ?_
  refine zam (.bool true) rfl (zks rfl rfl (cmpL kl.out)) ?_;simp only [aP,lA,lZ,lS]
  refine zab (.bool true) rfl (zax rfl rfl rfl) ?_
  refine zab (.bool true) rfl (zaj (.inr rfl) rfl) ?_;simp only [aP,lA,lZ,lS]
  exact zaw
 refine zby rfl (by kernel_rfl) ?_
 intro w2 hE
 refine NoPanic.normal ?_
 replace hx:=hx.trans hE
 clear hE
 go_wp2
 go_ret
 exact ⟨rfl,hx⟩
theorem may_out (X : Nat) (hX : X < top) (h0 : X ≠ 0) (hl : ¬ X < Pt.nn) (w : World) :
  Calls Tryz.prog 95 #[nv X] w fun e w' => e = .returned (.bool false) ∧ Ext w w':=by
 have kX:=veil hX
 have k0:=veil h0
 have kl:=veil hl
 clear hX h0 hl
 unfold nv nc
 go_enter Tryz.func95,Tryz.ntmps95
 go_upto_region 1 with (fail)
 refine zdp fun w1 hx b0 => ?_
 have b0 : w1.heap[w.heap.size]? = some (.cells (nc X) 27 (0,0)):=b0
 refine' zch (m:=10) (A:=_) 10 (by kernel_rfl) (by kernel_rfl) ?h1 ?h2
 case h1 =>
  refine zab (nv X) rfl (zag rfl rfl b0 rfl uN rfl (iN _)) ?_
  refine zab (nv 0) rfl (zcd rfl rfl (bldN0 ·)) ?_;simp only [aP,lA,lZ,lS]
  refine zab (.bool true) rfl (zic rfl rfl rfl (gN _ _ _ _ _) (neN0 kX.out k0.out ·)) ?_
  refine zab (.bool true) rfl (zaj (.inl rfl) rfl) ?_;simp only [aP,lA,lZ,lS]
  refine zam (nv X) rfl (zag rfl rfl b0 rfl uN rfl (iN _)) ?_
  refine zam (nv Pt.nn) rfl (zak (args:=[]) rfl rfl (fun W => zad Tryz.func97 rfl rfl _ W) (fun W hW => nn_is W)) ?_;simp only [aP,lA,lZ,lS]
  refine zam (.int .i64 (cmpN X Pt.nn)) rfl (zak (args:=[nv X,nv Pt.nn]) rfl rfl (fun W => zad Tryz.func40 rfl rfl _ W) (fun W hW => zdt X Pt.nn kX.out zej W)) ?_
  refine zam (.bool false) rfl (zks rfl rfl (cmpG kl.out)) ?_;simp only [aP,lA,lZ,lS]
  refine zab (.bool false) rfl (zax rfl rfl rfl) ?_
  refine zab (.bool false) rfl (zaj (.inr rfl) rfl) ?_;simp only [aP,lA,lZ,lS]
  exact zaw
 refine zby rfl (by kernel_rfl) ?_
 intro w2 hE
 refine NoPanic.normal ?_
 replace hx:=hx.trans hE
 clear hE
 go_wp2
 go_ret
 exact ⟨rfl,hx⟩
def mayB (X : Nat) : Bool:=decide (X ≠ 0) && decide (X < Pt.nn)
theorem may_calls (X : Nat) (hX : X < top) (w : World) : Calls Tryz.prog 95 #[nv X] w fun e w' => e = .returned (.bool (mayB X)) ∧ Ext w w':=by
 unfold mayB
 by_cases h0 : X = 0
 ·
  subst h0
  exact may_zero w
 ·
  by_cases hl : X < Pt.nn
  ·
   rw [decide_eq_true h0,decide_eq_true hl]
   exact may_in X hX h0 hl w
  ·
   rw [decide_eq_true h0,decide_eq_false hl]
   exact may_out X hX h0 hl w
structure KV where
 k : Nat → Nat
 v : Nat → Nat
structure KV.Ok (s : KV) : Prop where
 k : ∀ j,s.k j < 256
 v : ∀ j,s.v j < 256
def num32 (y : Nat → Nat) : Nat:=lev (fun k => y (32 - 1 - k)) 32
theorem num32_lt {y : Nat → Nat} (hy : ∀ j,y j < 256) : num32 y < top:=by
 have h:=zjt (z:=fun k => y (32 - 1 - k)) (fun j => hy _) 32
 have e : 256 ^ 32 = top:=by decide +kernel
 unfold num32
 omega
def tx (v : Nat → Nat) (b : Nat) (t : Nat → Nat) : Nat → Nat:=cat v 32 (cat (fun _ => b) 1 t)
def KV.step (s : KV) : KV:=⟨s.k,nb s.k 32 s.v 32⟩
def none0 : Nat → Nat:=fun _ => 0
theorem KV.Ok.step {s : KV} (h : s.Ok) : s.step.Ok:=⟨h.k,fun j => nb_lt _ _ _ _ j⟩
def be (X j : Nat) : Nat:=dg 256 X (31 - j)
def two (D M : Nat) : Nat → Nat:=cat (be D) 32 (be M)
theorem radd_far1 (X1 Y1 X2 Y2 : Nat) (f2 : Bool) (w : World) :
  Calls Tryz.prog 102 #[.agg #[vI vU (wd X1 0),vI vU (wd X1 1),vI vU (wd X1 2),vI vU (wd X1 3),vI vU (wd Y1 0),vI vU (wd Y1 1),vI vU (wd Y1 2),vI vU (wd Y1 3),.bool (true)],.agg #[vI vU (wd X2 0),vI vU (wd X2 1),vI vU (wd X2 2),vI vU (wd X2 3),vI vU (wd Y2 0),vI vU (wd Y2 1),vI vU (wd Y2 2),vI vU (wd Y2 3),.bool (f2)]] w fun e w' => e = .returned (.agg #[vI vU (wd X2 0),vI vU (wd X2 1),vI vU (wd X2 2),vI vU (wd X2 3),vI vU (wd Y2 0),vI vU (wd Y2 1),vI vU (wd Y2 2),vI vU (wd Y2 3),.bool (f2)]) ∧ Below w.heap.size w w':=by
 have hA : (((w.alloc (.cells #[vI vU (wd X1 0),vI vU (wd X1 1),vI vU (wd X1 2),vI vU (wd X1 3),vI vU (wd Y1 0),vI vU (wd Y1 1),vI vU (wd Y1 2),vI vU (wd Y1 3),.bool (true)] 29)).alloc (.cells #[vI vU (wd X2 0),vI vU (wd X2 1),vI vU (wd X2 2),vI vU (wd X2 3),vI vU (wd Y2 0),vI vU (wd Y2 1),vI vU (wd Y2 2),vI vU (wd Y2 3),.bool (f2)] 29)).alloc (.cells #[vI vU 0,vI vU 0,vI vU 0,vI vU 0,vI vU 0,vI vU 0,vI vU 0,vI vU 0,.bool false] 29)).rowIs w.heap.size 29 9 (pc X1 Y1 true):=((zdj X1 Y1 true rfl).alloc _).alloc _
 have hC : (((w.alloc (.cells #[vI vU (wd X1 0),vI vU (wd X1 1),vI vU (wd X1 2),vI vU (wd X1 3),vI vU (wd Y1 0),vI vU (wd Y1 1),vI vU (wd Y1 2),vI vU (wd Y1 3),.bool (true)] 29)).alloc (.cells #[vI vU (wd X2 0),vI vU (wd X2 1),vI vU (wd X2 2),vI vU (wd X2 3),vI vU (wd Y2 0),vI vU (wd Y2 1),vI vU (wd Y2 2),vI vU (wd Y2 3),.bool (f2)] 29)).alloc (.cells #[vI vU 0,vI vU 0,vI vU 0,vI vU 0,vI vU 0,vI vU 0,vI vU 0,vI vU 0,.bool false] 29)).rowIs (w.heap.size + 1) 29 9 (pc X2 Y2 f2):=(zdj X2 Y2 f2 (by simp)).alloc _
 have hR : (((w.alloc (.cells #[vI vU (wd X1 0),vI vU (wd X1 1),vI vU (wd X1 2),vI vU (wd X1 3),vI vU (wd Y1 0),vI vU (wd Y1 1),vI vU (wd Y1 2),vI vU (wd Y1 3),.bool (true)] 29)).alloc (.cells #[vI vU (wd X2 0),vI vU (wd X2 1),vI vU (wd X2 2),vI vU (wd X2 3),vI vU (wd Y2 0),vI vU (wd Y2 1),vI vU (wd Y2 2),vI vU (wd Y2 3),.bool (f2)] 29)).alloc (.cells #[vI vU 0,vI vU 0,vI vU 0,vI vU 0,vI vU 0,vI vU 0,vI vU 0,vI vU 0,.bool false] 29)).rowIs (w.heap.size + 1 + 1) 29 9 (pc 0 0 false):=zez (by simp)
 have hB : Below w.heap.size w (((w.alloc (.cells #[vI vU (wd X1 0),vI vU (wd X1 1),vI vU (wd X1 2),vI vU (wd X1 3),vI vU (wd Y1 0),vI vU (wd Y1 1),vI vU (wd Y1 2),vI vU (wd Y1 3),.bool (true)] 29)).alloc (.cells #[vI vU (wd X2 0),vI vU (wd X2 1),vI vU (wd X2 2),vI vU (wd X2 3),vI vU (wd Y2 0),vI vU (wd Y2 1),vI vU (wd Y2 2),vI vU (wd Y2 3),.bool (f2)] 29)).alloc (.cells #[vI vU 0,vI vU 0,vI vU 0,vI vU 0,vI vU 0,vI vU 0,vI vU 0,vI vU 0,.bool false] 29)):=(((Below.refl _ _).alloc (by simp) _).alloc (by simp) _).alloc (by simp; omega) _
 go_enter Tryz.func102,Tryz.ntmps102
 go_upto_region 1 with (fail)
 generalize (((w.alloc (.cells #[vI vU (wd X1 0),vI vU (wd X1 1),vI vU (wd X1 2),vI vU (wd X1 3),vI vU (wd Y1 0),vI vU (wd Y1 1),vI vU (wd Y1 2),vI vU (wd Y1 3),.bool (true)] 29)).alloc (.cells #[vI vU (wd X2 0),vI vU (wd X2 1),vI vU (wd X2 2),vI vU (wd X2 3),vI vU (wd Y2 0),vI vU (wd Y2 1),vI vU (wd Y2 2),vI vU (wd Y2 3),.bool (f2)] 29)).alloc (.cells #[vI vU 0,vI vU 0,vI vU 0,vI vU 0,vI vU 0,vI vU 0,vI vU 0,vI vU 0,.bool false] 29)) = wz at *
 have fA:=pt_f hA
 have fC:=pt_f hC
 have HV:=veil (blk9 hC)
 have HR:=veil (blkOf hR)
 clear hA hC hR
 go_wp2_with (first
  | ((with_reducible refine zas 13 ?_); refine wpList_load_row rfl 29 _ rfl (w.heap.size + 1) rfl 29 #[vI vU (wd X2 0),vI vU (wd X2 1),vI vU (wd X2 2),vI vU (wd X2 3),vI vU (wd Y2 0),vI vU (wd Y2 1),vI vU (wd Y2 2),vI vU (wd Y2 3),.bool (f2)] (0,0) _ HV.out Tryz.underlying29 rfl zbd ?_)
  | ((with_reducible refine zap ?_); refine wpList_store_row rfl 29 _ _ rfl (w.heap.size + 1 + 1) #[vI vU (wd X2 0),vI vU (wd X2 1),vI vU (wd X2 2),vI vU (wd X2 3),vI vU (wd Y2 0),vI vU (wd Y2 1),vI vU (wd Y2 2),vI vU (wd Y2 3),.bool (f2)] rfl rfl 29 _ HR.out zbd (by rw [zaz]; rfl) (one9 _ _ _) ?_))
 exact bodyPost_ret (results_cell_row rfl _ _ (w.heap.size + 1 + 1) 29 #[vI vU (wd X2 0),vI vU (wd X2 1),vI vU (wd X2 2),vI vU (wd X2 3),vI vU (wd Y2 0),vI vU (wd Y2 1),vI vU (wd Y2 2),vI vU (wd Y2 3),.bool (f2)] (0,0) _ rfl (setRow_heap wz (w.heap.size + 1 + 1) _ #[vI vU (wd X2 0),vI vU (wd X2 1),vI vU (wd X2 2),vI vU (wd X2 3),vI vU (wd Y2 0),vI vU (wd Y2 1),vI vU (wd Y2 2),vI vU (wd Y2 3),.bool (f2)] 29 (0,0) HR.out) Tryz.underlying29 rfl zbd) rfl ⟨rfl,zbq hB (by omega) _⟩
theorem radd_far2 (X1 Y1 X2 Y2 : Nat) (w : World) :
  Calls Tryz.prog 102 #[.agg #[vI vU (wd X1 0),vI vU (wd X1 1),vI vU (wd X1 2),vI vU (wd X1 3),vI vU (wd Y1 0),vI vU (wd Y1 1),vI vU (wd Y1 2),vI vU (wd Y1 3),.bool (false)],.agg #[vI vU (wd X2 0),vI vU (wd X2 1),vI vU (wd X2 2),vI vU (wd X2 3),vI vU (wd Y2 0),vI vU (wd Y2 1),vI vU (wd Y2 2),vI vU (wd Y2 3),.bool (true)]] w fun e w' => e = .returned (.agg #[vI vU (wd X1 0),vI vU (wd X1 1),vI vU (wd X1 2),vI vU (wd X1 3),vI vU (wd Y1 0),vI vU (wd Y1 1),vI vU (wd Y1 2),vI vU (wd Y1 3),.bool (false)]) ∧ Below w.heap.size w w':=by
 have hA : (((w.alloc (.cells #[vI vU (wd X1 0),vI vU (wd X1 1),vI vU (wd X1 2),vI vU (wd X1 3),vI vU (wd Y1 0),vI vU (wd Y1 1),vI vU (wd Y1 2),vI vU (wd Y1 3),.bool (false)] 29)).alloc (.cells #[vI vU (wd X2 0),vI vU (wd X2 1),vI vU (wd X2 2),vI vU (wd X2 3),vI vU (wd Y2 0),vI vU (wd Y2 1),vI vU (wd Y2 2),vI vU (wd Y2 3),.bool (true)] 29)).alloc (.cells #[vI vU 0,vI vU 0,vI vU 0,vI vU 0,vI vU 0,vI vU 0,vI vU 0,vI vU 0,.bool false] 29)).rowIs w.heap.size 29 9 (pc X1 Y1 false):=((zdj X1 Y1 false rfl).alloc _).alloc _
 have hC : (((w.alloc (.cells #[vI vU (wd X1 0),vI vU (wd X1 1),vI vU (wd X1 2),vI vU (wd X1 3),vI vU (wd Y1 0),vI vU (wd Y1 1),vI vU (wd Y1 2),vI vU (wd Y1 3),.bool (false)] 29)).alloc (.cells #[vI vU (wd X2 0),vI vU (wd X2 1),vI vU (wd X2 2),vI vU (wd X2 3),vI vU (wd Y2 0),vI vU (wd Y2 1),vI vU (wd Y2 2),vI vU (wd Y2 3),.bool (true)] 29)).alloc (.cells #[vI vU 0,vI vU 0,vI vU 0,vI vU 0,vI vU 0,vI vU 0,vI vU 0,vI vU 0,.bool false] 29)).rowIs (w.heap.size + 1) 29 9 (pc X2 Y2 true):=(zdj X2 Y2 true (by simp)).alloc _
 have hR : (((w.alloc (.cells #[vI vU (wd X1 0),vI vU (wd X1 1),vI vU (wd X1 2),vI vU (wd X1 3),vI vU (wd Y1 0),vI vU (wd Y1 1),vI vU (wd Y1 2),vI vU (wd Y1 3),.bool (false)] 29)).alloc (.cells #[vI vU (wd X2 0),vI vU (wd X2 1),vI vU (wd X2 2),vI vU (wd X2 3),vI vU (wd Y2 0),vI vU (wd Y2 1),vI vU (wd Y2 2),vI vU (wd Y2 3),.bool (true)] 29)).alloc (.cells #[vI vU 0,vI vU 0,vI vU 0,vI vU 0,vI vU 0,vI vU 0,vI vU 0,vI vU 0,.bool false] 29)).rowIs (w.heap.size + 1 + 1) 29 9 (pc 0 0 false):=zez (by simp)
 have hB : Below w.heap.size w (((w.alloc (.cells #[vI vU (wd X1 0),vI vU (wd X1 1),vI vU (wd X1 2),vI vU (wd X1 3),vI vU (wd Y1 0),vI vU (wd Y1 1),vI vU (wd Y1 2),vI vU (wd Y1 3),.bool (false)] 29)).alloc (.cells #[vI vU (wd X2 0),vI vU (wd X2 1),vI vU (wd X2 2),vI vU (wd X2 3),vI vU (wd Y2 0),vI vU (wd Y2 1),vI vU (wd Y2 2),vI vU (wd Y2 3),.bool (true)] 29)).alloc (.cells #[vI vU 0,vI vU 0,vI vU 0,vI vU 0,vI vU 0,vI vU 0,vI vU 0,vI vU 0,.bool false] 29)):=(((Below.refl _ _).alloc (by simp) _).alloc (by simp) _).alloc (by simp; omega) _
 go_enter Tryz.func102,Tryz.ntmps102
 go_upto_region 1 with (fail)
 generalize (((w.alloc (.cells #[vI vU (wd X1 0),vI vU (wd X1 1),vI vU (wd X1 2),vI vU (wd X1 3),vI vU (wd Y1 0),vI vU (wd Y1 1),vI vU (wd Y1 2),vI vU (wd Y1 3),.bool (false)] 29)).alloc (.cells #[vI vU (wd X2 0),vI vU (wd X2 1),vI vU (wd X2 2),vI vU (wd X2 3),vI vU (wd Y2 0),vI vU (wd Y2 1),vI vU (wd Y2 2),vI vU (wd Y2 3),.bool (true)] 29)).alloc (.cells #[vI vU 0,vI vU 0,vI vU 0,vI vU 0,vI vU 0,vI vU 0,vI vU 0,vI vU 0,.bool false] 29)) = wz at *
 have fA:=pt_f hA
 have fC:=pt_f hC
 have HV:=veil (blk9 hA)
 have HR:=veil (blkOf hR)
 clear hA hC hR
 go_wp2_with (first
  | ((with_reducible refine zas 16 ?_); refine wpList_load_row rfl 29 _ rfl w.heap.size rfl 29 #[vI vU (wd X1 0),vI vU (wd X1 1),vI vU (wd X1 2),vI vU (wd X1 3),vI vU (wd Y1 0),vI vU (wd Y1 1),vI vU (wd Y1 2),vI vU (wd Y1 3),.bool (false)] (0,0) _ HV.out Tryz.underlying29 rfl zbd ?_)
  | ((with_reducible refine zap ?_); refine wpList_store_row rfl 29 _ _ rfl (w.heap.size + 1 + 1) #[vI vU (wd X1 0),vI vU (wd X1 1),vI vU (wd X1 2),vI vU (wd X1 3),vI vU (wd Y1 0),vI vU (wd Y1 1),vI vU (wd Y1 2),vI vU (wd Y1 3),.bool (false)] rfl rfl 29 _ HR.out zbd (by rw [zaz]; rfl) (one9 _ _ _) ?_))
 exact bodyPost_ret (results_cell_row rfl _ _ (w.heap.size + 1 + 1) 29 #[vI vU (wd X1 0),vI vU (wd X1 1),vI vU (wd X1 2),vI vU (wd X1 3),vI vU (wd Y1 0),vI vU (wd Y1 1),vI vU (wd Y1 2),vI vU (wd Y1 3),.bool (false)] (0,0) _ rfl (setRow_heap wz (w.heap.size + 1 + 1) _ #[vI vU (wd X1 0),vI vU (wd X1 1),vI vU (wd X1 2),vI vU (wd X1 3),vI vU (wd Y1 0),vI vU (wd Y1 1),vI vU (wd Y1 2),vI vU (wd Y1 3),.bool (false)] 29 (0,0) HR.out) Tryz.underlying29 rfl zbd) rfl ⟨rfl,zbq hB (by omega) _⟩
theorem zgr {w : World} {b t X Y : Nat} {f : Bool} (h : w.rowIs b t 9 (pc X Y f)) : w.rangeAt b 0 [.int .u64 (wd X 0),.int .u64 (wd X 1),.int .u64 (wd X 2),.int .u64 (wd X 3),.int .u64 (wd Y 0),.int .u64 (wd Y 1),.int .u64 (wd Y 2),.int .u64 (wd Y 3),.bool f]:=fun j v hv => by
 rw [Nat.zero_add,cell_of_row w b j _ t (0,0) (blk9 h)]
 simpa using hv
theorem radd_opp (X1 Y1 X2 Y2 : Nat) (hX1 : X1 < top) (hY1 : Y1 < top) (hX2 : X2 < top) (hY2 : Y2 < Pt.pp) (h : X1 = X2 ∧ Y1 = (0 + Pt.pp - Y2) % Pt.pp) (w : World) :
  Calls Tryz.prog 102 #[.agg #[vI vU (wd X1 0),vI vU (wd X1 1),vI vU (wd X1 2),vI vU (wd X1 3),vI vU (wd Y1 0),vI vU (wd Y1 1),vI vU (wd Y1 2),vI vU (wd Y1 3),.bool (false)],.agg #[vI vU (wd X2 0),vI vU (wd X2 1),vI vU (wd X2 2),vI vU (wd X2 3),vI vU (wd Y2 0),vI vU (wd Y2 1),vI vU (wd Y2 2),vI vU (wd Y2 3),.bool (false)]] w fun e w' => e = .returned (.agg #[vI vU 0,vI vU 0,vI vU 0,vI vU 0,vI vU 0,vI vU 0,vI vU 0,vI vU 0,.bool true]) ∧ Below w.heap.size w w':=by
 have hA : (((w.alloc (.cells #[vI vU (wd X1 0),vI vU (wd X1 1),vI vU (wd X1 2),vI vU (wd X1 3),vI vU (wd Y1 0),vI vU (wd Y1 1),vI vU (wd Y1 2),vI vU (wd Y1 3),.bool (false)] 29)).alloc (.cells #[vI vU (wd X2 0),vI vU (wd X2 1),vI vU (wd X2 2),vI vU (wd X2 3),vI vU (wd Y2 0),vI vU (wd Y2 1),vI vU (wd Y2 2),vI vU (wd Y2 3),.bool (false)] 29)).alloc (.cells #[vI vU 0,vI vU 0,vI vU 0,vI vU 0,vI vU 0,vI vU 0,vI vU 0,vI vU 0,.bool false] 29)).rowIs w.heap.size 29 9 (pc X1 Y1 false):=((zdj X1 Y1 false rfl).alloc _).alloc _
 have hC : (((w.alloc (.cells #[vI vU (wd X1 0),vI vU (wd X1 1),vI vU (wd X1 2),vI vU (wd X1 3),vI vU (wd Y1 0),vI vU (wd Y1 1),vI vU (wd Y1 2),vI vU (wd Y1 3),.bool (false)] 29)).alloc (.cells #[vI vU (wd X2 0),vI vU (wd X2 1),vI vU (wd X2 2),vI vU (wd X2 3),vI vU (wd Y2 0),vI vU (wd Y2 1),vI vU (wd Y2 2),vI vU (wd Y2 3),.bool (false)] 29)).alloc (.cells #[vI vU 0,vI vU 0,vI vU 0,vI vU 0,vI vU 0,vI vU 0,vI vU 0,vI vU 0,.bool false] 29)).rowIs (w.heap.size + 1) 29 9 (pc X2 Y2 false):=(zdj X2 Y2 false (by simp)).alloc _
 have hR : (((w.alloc (.cells #[vI vU (wd X1 0),vI vU (wd X1 1),vI vU (wd X1 2),vI vU (wd X1 3),vI vU (wd Y1 0),vI vU (wd Y1 1),vI vU (wd Y1 2),vI vU (wd Y1 3),.bool (false)] 29)).alloc (.cells #[vI vU (wd X2 0),vI vU (wd X2 1),vI vU (wd X2 2),vI vU (wd X2 3),vI vU (wd Y2 0),vI vU (wd Y2 1),vI vU (wd Y2 2),vI vU (wd Y2 3),.bool (false)] 29)).alloc (.cells #[vI vU 0,vI vU 0,vI vU 0,vI vU 0,vI vU 0,vI vU 0,vI vU 0,vI vU 0,.bool false] 29)).rowIs (w.heap.size + 1 + 1) 29 9 (pc 0 0 false):=zez (by simp)
 have hB : Below w.heap.size w (((w.alloc (.cells #[vI vU (wd X1 0),vI vU (wd X1 1),vI vU (wd X1 2),vI vU (wd X1 3),vI vU (wd Y1 0),vI vU (wd Y1 1),vI vU (wd Y1 2),vI vU (wd Y1 3),.bool (false)] 29)).alloc (.cells #[vI vU (wd X2 0),vI vU (wd X2 1),vI vU (wd X2 2),vI vU (wd X2 3),vI vU (wd Y2 0),vI vU (wd Y2 1),vI vU (wd Y2 2),vI vU (wd Y2 3),.bool (false)] 29)).alloc (.cells #[vI vU 0,vI vU 0,vI vU 0,vI vU 0,vI vU 0,vI vU 0,vI vU 0,vI vU 0,.bool false] 29)):=(((Below.refl _ _).alloc (by simp) _).alloc (by simp) _).alloc (by simp; omega) _
 obtain ⟨Z,hZ⟩ : ∃ Z,Z = (0 + Pt.pp - Y2) % Pt.pp:=⟨_,rfl⟩
 have HN:=veil (show ∀ W,Calls Tryz.prog 135 #[.agg #[vI vU (wd X2 0),vI vU (wd X2 1),vI vU (wd X2 2),vI vU (wd X2 3),vI vU (wd Y2 0),vI vU (wd Y2 1),vI vU (wd Y2 2),vI vU (wd Y2 3),.bool (false)]] W fun e W' => e = .returned (.agg #[vI vU (wd X2 0),vI vU (wd X2 1),vI vU (wd X2 2),vI vU (wd X2 3),vI vU (wd Z 0),vI vU (wd Z 1),vI vU (wd Z 2),vI vU (wd Z 3),.bool (false)]) ∧ Below W.heap.size W W' from fun W => rneg_is X2 Y2 Z false hY2 hZ W)
 have lZ : Z < top:=by rw [hZ]; exact Nat.lt_trans (Nat.mod_lt _ zgj) zbb
 have kq : ∀ W,(binOp .eql 29 (.agg #[vI vU (wd X1 0),vI vU (wd X1 1),vI vU (wd X1 2),vI vU (wd X1 3),vI vU (wd Y1 0),vI vU (wd Y1 1),vI vU (wd Y1 2),vI vU (wd Y1 3),.bool (false)]) (.agg #[vI vU (wd X2 0),vI vU (wd X2 1),vI vU (wd X2 2),vI vU (wd X2 3),vI vU (wd Z 0),vI vU (wd Z 1),vI vU (wd Z 2),vI vU (wd Z 3),.bool (false)])).run Tryz.prog W = .ok (.bool true) W:=fun W => by
  rw [eql_pt hX1 hY1 hX2 lZ false false W,decide_eq_true ⟨h.1,by rw [hZ]; exact h.2,rfl⟩]
 clear hZ h hX1 hY1 hX2 hY2 lZ
 go_enter Tryz.func102,Tryz.ntmps102
 go_upto_region 1 with (fail)
 generalize (((w.alloc (.cells #[vI vU (wd X1 0),vI vU (wd X1 1),vI vU (wd X1 2),vI vU (wd X1 3),vI vU (wd Y1 0),vI vU (wd Y1 1),vI vU (wd Y1 2),vI vU (wd Y1 3),.bool (false)] 29)).alloc (.cells #[vI vU (wd X2 0),vI vU (wd X2 1),vI vU (wd X2 2),vI vU (wd X2 3),vI vU (wd Y2 0),vI vU (wd Y2 1),vI vU (wd Y2 2),vI vU (wd Y2 3),.bool (false)] 29)).alloc (.cells #[vI vU 0,vI vU 0,vI vU 0,vI vU 0,vI vU 0,vI vU 0,vI vU 0,vI vU 0,.bool false] 29)) = wz at *
 have fA:=pt_f hA
 have fC:=pt_f hC
 go_upto_region 5 with (fail)
 have lA:=hA.lt
 have lC:=hC.lt
 have sB : ∀ W,Below wz.heap.size wz W → (Below wz.heap.size wz W ∧ W.rangeAt w.heap.size 0 [.int .u64 (wd X1 0),.int .u64 (wd X1 1),.int .u64 (wd X1 2),.int .u64 (wd X1 3),.int .u64 (wd Y1 0),.int .u64 (wd Y1 1),.int .u64 (wd Y1 2),.int .u64 (wd Y1 3),.bool false] ∧ W.rangeAt (w.heap.size + 1) 0 [.int .u64 (wd X2 0),.int .u64 (wd X2 1),.int .u64 (wd X2 2),.int .u64 (wd X2 3),.int .u64 (wd Y2 0),.int .u64 (wd Y2 1),.int .u64 (wd Y2 2),.int .u64 (wd Y2 3),.bool false]):=fun W hb => ⟨hb,zcy (zgr hA) (hb.block _ lA),zcy (zgr hC) (hb.block _ lC)⟩
 have SB:=veil sB
 clear sB
 refine wp_region_held_drew (S:=fun W => (Below wz.heap.size wz W ∧ W.rangeAt w.heap.size 0 [.int .u64 (wd X1 0),.int .u64 (wd X1 1),.int .u64 (wd X1 2),.int .u64 (wd X1 3),.int .u64 (wd Y1 0),.int .u64 (wd Y1 1),.int .u64 (wd Y1 2),.int .u64 (wd Y1 3),.bool false] ∧ W.rangeAt (w.heap.size + 1) 0 [.int .u64 (wd X2 0),.int .u64 (wd X2 1),.int .u64 (wd X2 2),.int .u64 (wd X2 3),.int .u64 (wd Y2 0),.int .u64 (wd Y2 1),.int .u64 (wd Y2 2),.int .u64 (wd Y2 3),.bool false])) (by kernel_rfl) (SB.out _ (Below.refl _ wz).drew) (fun hH => ?_)
 repeat
  ((first
    | (refine wpAnyH_take (i:=0) (v:=.agg #[vI vU (wd X1 0),vI vU (wd X1 1),vI vU (wd X1 2),vI vU (wd X1 3),vI vU (wd Y1 0),vI vU (wd Y1 1),vI vU (wd Y1 2),vI vU (wd Y1 3),.bool false]) rfl (by kernel_rfl) (by kernel_rfl) (by decide +kernel) (fun _ _ _ h => h) (yieldsIf_load_mid (by rfl) _ _ rfl _ _ rfl _ _ (fun W hSw => hSw.2.1) Tryz.underlying29 rfl zbd) (by with_reducible assumption) ?_)
    | (refine wpAnyH_take (i:=1) (v:=.agg #[vI vU (wd X2 0),vI vU (wd X2 1),vI vU (wd X2 2),vI vU (wd X2 3),vI vU (wd Y2 0),vI vU (wd Y2 1),vI vU (wd Y2 2),vI vU (wd Y2 3),.bool false]) rfl (by kernel_rfl) (by kernel_rfl) (by decide +kernel) (fun _ _ _ h => h) (yieldsIf_load_mid (by rfl) _ _ rfl _ _ rfl _ _ (fun W hSw => hSw.2.2) Tryz.underlying29 rfl zbd) (by with_reducible assumption) ?_)
    | (refine wpAnyH_ready (rs:=[2]) (by decide +kernel) (by simp) ?_; refine AllReadyH.cons rfl (fun K hK => ?_) AllReadyH.nil; go_simp; (with_reducible refine (HN.out _).mono ?_); rintro e w1 ⟨rfl,hb⟩; have hb1:=hH.1.trans (hb.mono hH.1.size); clear hb; refine hK.out _ _ (SB.out _ hb1) (fun hH => ?_); clear hK K)
    | (refine wpAnyH_take (i:=3) (v:=.bool true) rfl (by kernel_rfl) (by kernel_rfl) (by decide +kernel) (fun _ _ _ h => h) (Or.inl ⟨by rfl,fun W hSw => (by dsimp only at hSw; go_simp)⟩) (by with_reducible assumption) ?_)
    | fail);
   try simp only [Act.put,List.setIfInBounds_toArray,List.set_cons_zero,List.set_cons_succ,List.getElem_toArray,List.getElem_cons_zero,List.getElem_cons_succ])
 refine wpAnyH_done (by decide +kernel) ?_ _
 have HR:=veil (blkOf (zaa hR hb1 hR.lt))
 have hB1:=hB.trans (hb1.mono hB.size)
 clear hA hC hR hB kq fA fC hH
 go_wp2_with ((with_reducible refine zap ?_); refine wpList_store_row rfl 29 _ _ rfl (w.heap.size + 1 + 1) #[vI vU 0,vI vU 0,vI vU 0,vI vU 0,vI vU 0,vI vU 0,vI vU 0,vI vU 0,.bool true] rfl rfl 29 _ HR.out zbd (by rw [zaz]; rfl) (by simp [Value.oneCell']) ?_)
 exact bodyPost_ret (results_cell_row rfl _ _ (w.heap.size + 1 + 1) 29 #[vI vU 0,vI vU 0,vI vU 0,vI vU 0,vI vU 0,vI vU 0,vI vU 0,vI vU 0,.bool true] (0,0) _ rfl (setRow_heap w1 (w.heap.size + 1 + 1) _ #[vI vU 0,vI vU 0,vI vU 0,vI vU 0,vI vU 0,vI vU 0,vI vU 0,vI vU 0,.bool true] 29 (0,0) HR.out) Tryz.underlying29 rfl zbd) rfl ⟨rfl,zbq hB1 (by omega) _⟩
theorem far_pt : (.agg #[vI vU (wd 0 0),vI vU (wd 0 1),vI vU (wd 0 2),vI vU (wd 0 3),vI vU (wd 0 0),vI vU (wd 0 1),vI vU (wd 0 2),vI vU (wd 0 3),.bool (true)] : Value) = .agg #[vI vU 0,vI vU 0,vI vU 0,vI vU 0,vI vU 0,vI vU 0,vI vU 0,vI vU 0,.bool true]:=by simp only [wd_nil]
theorem zjc (X m : Nat) : dg w64 (X / 2) m = dg w64 X m / 2 + 9223372036854775808 * (dg w64 X (m + 1) % 2):=by
 unfold dg
 rw [Nat.pow_succ,← Nat.div_div_eq_div_mul,Nat.div_div_eq_div_mul X 2,Nat.mul_comm 2,← Nat.div_div_eq_div_mul]
 generalize X / w64 ^ m = q
 unfold w64
 omega
theorem zgf (X m : Nat) (h : wd X (m + 1) % 2 = 1) : wd X m / 2 + 9223372036854775808 = wd (X / 2) m:=by
 have e:=zjc X m
 unfold wd at *
 rw [e]; generalize dg w64 X m = a at *; generalize dg w64 X (m + 1) = b at *; omega
theorem zec (X m : Nat) (h : wd X (m + 1) % 2 = 0) : wd X m / 2 = wd (X / 2) m:=by
 have e:=zjc X m
 unfold wd at *
 rw [e]; generalize dg w64 X m = a at *; generalize dg w64 X (m + 1) = b at *; omega
theorem zge (X : Nat) (h : X < top) : wd X 3 / 2 = wd (X / 2) 3 :=
 zec X 3 (by rw [(num_wide X h).1]; rfl)
theorem zkm {X Z k : Nat} {v : Value} (_hk : k < 4) : ∀ i,i < 4 → (if i = k then Value.int .u64 (wd Z k) else if i = k then v else Value.int .u64 (if i < k then wd Z i else wd X i)) = Value.int .u64 (if i < k + 1 then wd Z i else wd X i):=by
 intro i _
 by_cases h : i = k
 ·
  subst h; simp
 ·
  rw [if_neg h,if_neg h]; by_cases h2 : i < k
  ·
   rw [if_pos h2,if_pos (by omega)]
  ·
   rw [if_neg h2,if_neg (by omega)]
theorem wd_par (X : Nat) : wd X 0 % 2 = ((X % 2 : Nat) : Int):=by
 unfold wd dg w64; rw [Nat.pow_zero,Nat.div_one]; omega
def HalfTop (S D : Nat) : Prop:=(∀ j,j < 3 → wd (S / 2) j = wd D j) ∧ wd (S / 2) 3 + 9223372036854775808 = wd D 3 ∧ wd (S / 2) 3 < 9223372036854775808
theorem halfTop {S : Nat} (h : S < top) : HalfTop S ((S + top) / 2):=by
 have h1 : ∀ j,j < 4 → dg w64 (S + top) j = dg w64 S j:=by
  intro j hj
  have e:=zdk (B:=w64) (S + top) 4 j hj
  have e0 : (S + top) % w64 ^ 4 = S:=by
   rw [show w64 ^ 4 = top from rfl,Nat.add_mod_right]; exact Nat.mod_eq_of_lt h
  rw [← e,e0]
 have h2 : dg w64 (S + top) 4 = 1:=by
  show (S + top) / top % w64 = 1
  rw [Nat.add_div_right _ zcb,Nat.div_eq_of_lt h]; rfl
 have h3 : dg w64 S 4 = 0:=by
  show S / top % w64 = 0
  rw [Nat.div_eq_of_lt h]; rfl
 have hl:=dg_lt zba S 3
 have e3:=zjc S 3
 have f3:=zjc (S + top) 3
 rw [h3] at e3
 rw [h2,h1 3 (by omega)] at f3
 have hw : w64 = 18446744073709551616:=rfl
 refine ⟨fun j hj => ?_,?_,?_⟩
 ·
  unfold wd; rw [zjc,zjc (S + top),h1 j (by omega),h1 (j + 1) (by omega)]
 ·
  unfold wd; rw [e3,f3]; omega
 ·
  unfold wd; rw [e3]; omega
theorem ghalf_even (X M : Nat) (hVt : X < top) (h : X % 2 = 0) (w : World) :
  Calls Tryz.prog 132 #[.agg #[vI vU (wd X 0),vI vU (wd X 1),vI vU (wd X 2),vI vU (wd X 3)],.agg #[vI vU (wd M 0),vI vU (wd M 1),vI vU (wd M 2),vI vU (wd M 3)]] w fun e w' => e = .returned (.agg #[vI vU (wd (X / 2) 0),vI vU (wd (X / 2) 1),vI vU (wd (X / 2) 2),vI vU (wd (X / 2) 3)]) ∧ Below w.heap.size w w':=by
 have hp : wd X 0 % 2 = 0:=by rw [wd_par,h]; rfl
 have hp0:=wd_lo X 0
 clear h
 have hA0 : (((w.alloc (.cells #[vI vU (wd X 0),vI vU (wd X 1),vI vU (wd X 2),vI vU (wd X 3)] 27)).alloc (.cells #[vI vU (wd M 0),vI vU (wd M 1),vI vU (wd M 2),vI vU (wd M 3)] 27)).alloc (.cells #[vI vU 0,vI vU 0,vI vU 0,vI vU 0] 27)).rowIs w.heap.size 27 4 (fun j => .int .u64 (wd X j)):=((zae (n:=4) (by simp) rfl (arr4 fun j => .int .u64 (wd X j))).alloc _).alloc _
 have hM0 : (((w.alloc (.cells #[vI vU (wd X 0),vI vU (wd X 1),vI vU (wd X 2),vI vU (wd X 3)] 27)).alloc (.cells #[vI vU (wd M 0),vI vU (wd M 1),vI vU (wd M 2),vI vU (wd M 3)] 27)).alloc (.cells #[vI vU 0,vI vU 0,vI vU 0,vI vU 0] 27)).rowIs (w.heap.size + 1) 27 4 (fun j => .int .u64 (wd M j)):=(zae (n:=4) (by simp) rfl (arr4 fun j => .int .u64 (wd M j))).alloc _
 have hR0 : (((w.alloc (.cells #[vI vU (wd X 0),vI vU (wd X 1),vI vU (wd X 2),vI vU (wd X 3)] 27)).alloc (.cells #[vI vU (wd M 0),vI vU (wd M 1),vI vU (wd M 2),vI vU (wd M 3)] 27)).alloc (.cells #[vI vU 0,vI vU 0,vI vU 0,vI vU 0] 27)).rowIs (w.heap.size + 1 + 1) 27 4 (fun _ => .int .u64 0):=zae (n:=4) (by simp) rfl (arr4 fun _ => .int .u64 0)
 have hb0 : Below w.heap.size w (((w.alloc (.cells #[vI vU (wd X 0),vI vU (wd X 1),vI vU (wd X 2),vI vU (wd X 3)] 27)).alloc (.cells #[vI vU (wd M 0),vI vU (wd M 1),vI vU (wd M 2),vI vU (wd M 3)] 27)).alloc (.cells #[vI vU 0,vI vU 0,vI vU 0,vI vU 0] 27)):=(((Below.refl _ _).alloc (by simp) _).alloc (by simp) _).alloc (by simp; omega) _
 go_enter Tryz.func132,Tryz.ntmps132
 go_wp2_with fail
 clear hp hp0 hM0
 generalize (((w.alloc (.cells #[vI vU (wd X 0),vI vU (wd X 1),vI vU (wd X 2),vI vU (wd X 3)] 27)).alloc (.cells #[vI vU (wd M 0),vI vU (wd M 1),vI vU (wd M 2),vI vU (wd M 3)] 27)).alloc (.cells #[vI vU 0,vI vU 0,vI vU 0,vI vU 0] 27)) = w0 at *
 go_loopw [6] (fun i wr => ∃ k : Nat,k ≤ 4 ∧ i = .int .i64 (k : Int) ∧ wr.rowIs w.heap.size 27 4 (fun j => .int .u64 (if j < k then wd (X / 2) j else wd X j)) ∧ wr.rowIs (w.heap.size + 1 + 1) 27 4 (fun _ => .int .u64 0) ∧ Below w.heap.size w wr)
  (fun i _ => 4 - (intOf i).toNat)
 case atStart => exact ⟨0,by omega,rfl,hA0.congr (fun j _ => by simp),hR0,hb0⟩
 case round =>
  obtain ⟨k,hk,rfl,hA,hR,hbel⟩:=hrel
  clear hA0 hR0 hb0
  by_cases hlt : k < 4
  ·
   have c1:=hA.cell hlt
   rw [if_neg (by omega)] at c1
   have f1:=hA.frozen k
   have l1:=wd_lo X k
   have u1:=wd_le X k
   by_cases h3 : k < 3
   ·
    have c2:=hA.cell (show k + 1 < 4 by omega)
    rw [if_neg (by omega)] at c2
    have h3i : (k : Int) < 3:=by omega
    have l2:=wd_lo X (k + 1)
    by_cases hb : wd X (k + 1) % 2 = 1
    ·
     have HC:=veil (zgf X k hb)
     go_wp2
     go_roundw
     case rel =>
      rw [HC.out]
      exact ⟨k + 1,by omega,by go_num,((hA.set k _).set k _).congr (zkm hlt),zau (zau hR (by omega) _) (by omega) _,zaq (zaq hbel (by omega) _) (by omega) _⟩
     case measure => simp [intOf]; omega
    ·
     have hb0 : wd X (k + 1) % 2 = 0:=by omega
     have HC:=veil (zec X k hb0)
     clear hb
     go_wp2
     go_roundw
     case rel =>
      rw [HC.out]
      exact ⟨k + 1,by omega,by go_num,(hA.set k _).congr (zev hlt),zau hR (by omega) _,zaq hbel (by omega) _⟩
     case measure => simp [intOf]; omega
   ·
    obtain rfl : k = 3:=by omega
    have HC:=veil (zge X hVt)
    go_wp2
    go_roundw
    case rel =>
     rw [HC.out]
     exact ⟨4,by omega,by go_num,(hA.set 3 _).congr (zev (by omega)),zau hR (by omega) _,zaq hbel (by omega) _⟩
    case measure => simp [intOf]
  ·
   obtain rfl : k = 4:=by omega
   have hA:=hA.congr (g:=fun j => .int .u64 (wd (X / 2) j)) (fun j hj => by rw [if_pos hj])
   obtain ⟨a0,a1,a2,a3⟩:=zac hA
   obtain ⟨d0,d1,d2,d3⟩:=zac hR
   obtain ⟨f0,f1,f2,f3⟩:=zaf hR
   go_wp2
   refine bodyPost_ret (results_cell_row rfl _ _ (w.heap.size + 1 + 1) 27 #[vI vU (wd ((X / 2)) 0),vI vU (wd ((X / 2)) 1),vI vU (wd ((X / 2)) 2),vI vU (wd ((X / 2)) 3)] (0,0) _ rfl (blk4 (put4 hR fun j => .int .u64 (wd (X / 2) j))) Tryz.underlying27 rfl (by kernel_rfl)) rfl ⟨rfl,zai hbel (by omega) _ _ _ _⟩
theorem ghalf_no (X M S : Nat) (hX : X < top) (hM : M < top) (h : X % 2 = 1) (hS : (X + M) % top = S) (hu : decide (top ≤ X + M) = false) (w : World) :
  Calls Tryz.prog 132 #[.agg #[vI vU (wd X 0),vI vU (wd X 1),vI vU (wd X 2),vI vU (wd X 3)],.agg #[vI vU (wd M 0),vI vU (wd M 1),vI vU (wd M 2),vI vU (wd M 3)]] w fun e w' => e = .returned (.agg #[vI vU (wd ((S / 2)) 0),vI vU (wd ((S / 2)) 1),vI vU (wd ((S / 2)) 2),vI vU (wd ((S / 2)) 3)]) ∧ Below w.heap.size w w':=by
 have hp : wd X 0 % 2 = 1:=by rw [wd_par,h]; rfl
 have hp0:=wd_lo X 0
 have hVt : S < top:=by rw [← hS]; exact Nat.mod_lt _ zcb
 have HS:=veil hS
 have HU:=veil hu
 clear h hS hu
 have hA0 : (((w.alloc (.cells #[vI vU (wd X 0),vI vU (wd X 1),vI vU (wd X 2),vI vU (wd X 3)] 27)).alloc (.cells #[vI vU (wd M 0),vI vU (wd M 1),vI vU (wd M 2),vI vU (wd M 3)] 27)).alloc (.cells #[vI vU 0,vI vU 0,vI vU 0,vI vU 0] 27)).rowIs w.heap.size 27 4 (fun j => .int .u64 (wd X j)):=((zae (n:=4) (by simp) rfl (arr4 fun j => .int .u64 (wd X j))).alloc _).alloc _
 have hM0 : (((w.alloc (.cells #[vI vU (wd X 0),vI vU (wd X 1),vI vU (wd X 2),vI vU (wd X 3)] 27)).alloc (.cells #[vI vU (wd M 0),vI vU (wd M 1),vI vU (wd M 2),vI vU (wd M 3)] 27)).alloc (.cells #[vI vU 0,vI vU 0,vI vU 0,vI vU 0] 27)).rowIs (w.heap.size + 1) 27 4 (fun j => .int .u64 (wd M j)):=(zae (n:=4) (by simp) rfl (arr4 fun j => .int .u64 (wd M j))).alloc _
 have hR0 : (((w.alloc (.cells #[vI vU (wd X 0),vI vU (wd X 1),vI vU (wd X 2),vI vU (wd X 3)] 27)).alloc (.cells #[vI vU (wd M 0),vI vU (wd M 1),vI vU (wd M 2),vI vU (wd M 3)] 27)).alloc (.cells #[vI vU 0,vI vU 0,vI vU 0,vI vU 0] 27)).rowIs (w.heap.size + 1 + 1) 27 4 (fun _ => .int .u64 0):=zae (n:=4) (by simp) rfl (arr4 fun _ => .int .u64 0)
 have hb0 : Below w.heap.size w (((w.alloc (.cells #[vI vU (wd X 0),vI vU (wd X 1),vI vU (wd X 2),vI vU (wd X 3)] 27)).alloc (.cells #[vI vU (wd M 0),vI vU (wd M 1),vI vU (wd M 2),vI vU (wd M 3)] 27)).alloc (.cells #[vI vU 0,vI vU 0,vI vU 0,vI vU 0] 27)):=(((Below.refl _ _).alloc (by simp) _).alloc (by simp) _).alloc (by simp; omega) _
 go_enter Tryz.func132,Tryz.ntmps132
 obtain ⟨a0,a1,a2,a3⟩:=zac hA0
 obtain ⟨c0,c1,c2,c3⟩:=zac hM0
 go_wp2_with fail
 refine (ziw X M S false HS.out HU.out hX hM _).mono ?_
 rintro e w1 ⟨rfl,hb1⟩
 clear a0 a1 a2 a3 c0 c1 c2 c3 hp hp0
 replace hA0:=zaa hA0 hb1 hA0.lt
 replace hR0:=zaa hR0 hb1 hR0.lt
 replace hb0:=hb0.trans (hb1.mono hb0.size)
 clear hb1 hM0
 obtain ⟨a0,a1,a2,a3⟩:=zac hA0
 obtain ⟨f0,f1,f2,f3⟩:=zaf hA0
 go_wp2_with fail
 replace hR0:=zah hR0 (b':=w.heap.size) (by omega) (.int .u64 (wd S 0)) (.int .u64 (wd S 1)) (.int .u64 (wd S 2)) (.int .u64 (wd S 3))
 replace hb0:=zai (b:=w.heap.size) hb0 (by omega) (.int .u64 (wd S 0)) (.int .u64 (wd S 1)) (.int .u64 (wd S 2)) (.int .u64 (wd S 3))
 replace hA0:=put4 hA0 (fun j => .int .u64 (wd S j))
 clear a0 a1 a2 a3 f0 f1 f2 f3
 generalize ((((w1.setCell ⟨w.heap.size,0,none⟩ (.int .u64 (wd S 0))).setCell ⟨w.heap.size,1,none⟩ (.int .u64 (wd S 1))).setCell ⟨w.heap.size,2,none⟩ (.int .u64 (wd S 2))).setCell ⟨w.heap.size,3,none⟩ (.int .u64 (wd S 3))) = w0 at *
 go_loopw [6] (fun i wr => ∃ k : Nat,k ≤ 4 ∧ i = .int .i64 (k : Int) ∧ wr.rowIs w.heap.size 27 4 (fun j => .int .u64 (if j < k then wd (S / 2) j else wd S j)) ∧ wr.rowIs (w.heap.size + 1 + 1) 27 4 (fun _ => .int .u64 0) ∧ Below w.heap.size w wr)
  (fun i _ => 4 - (intOf i).toNat)
 case atStart => exact ⟨0,by omega,rfl,hA0.congr (fun j _ => by simp),hR0,hb0⟩
 case round =>
  obtain ⟨k,hk,rfl,hA,hR,hbel⟩:=hrel
  clear hA0 hR0 hb0
  by_cases hlt : k < 4
  ·
   have c1:=hA.cell hlt
   rw [if_neg (by omega)] at c1
   have f1:=hA.frozen k
   have l1:=wd_lo S k
   have u1:=wd_le S k
   by_cases h3 : k < 3
   ·
    have c2:=hA.cell (show k + 1 < 4 by omega)
    rw [if_neg (by omega)] at c2
    have h3i : (k : Int) < 3:=by omega
    have l2:=wd_lo S (k + 1)
    by_cases hb : wd S (k + 1) % 2 = 1
    ·
     have HC:=veil (zgf S k hb)
     go_wp2
     go_roundw
     case rel =>
      rw [HC.out]
      exact ⟨k + 1,by omega,by go_num,((hA.set k _).set k _).congr (zkm hlt),zau (zau hR (by omega) _) (by omega) _,zaq (zaq hbel (by omega) _) (by omega) _⟩
     case measure => simp [intOf]; omega
    ·
     have hb0 : wd S (k + 1) % 2 = 0:=by omega
     have HC:=veil (zec S k hb0)
     clear hb
     go_wp2
     go_roundw
     case rel =>
      rw [HC.out]
      exact ⟨k + 1,by omega,by go_num,(hA.set k _).congr (zev hlt),zau hR (by omega) _,zaq hbel (by omega) _⟩
     case measure => simp [intOf]; omega
   ·
    obtain rfl : k = 3:=by omega
    have HC:=veil (zge S hVt)
    go_wp2
    go_roundw
    case rel =>
     rw [HC.out]
     exact ⟨4,by omega,by go_num,(hA.set 3 _).congr (zev (by omega)),zau hR (by omega) _,zaq hbel (by omega) _⟩
    case measure => simp [intOf]
  ·
   obtain rfl : k = 4:=by omega
   have hA:=hA.congr (g:=fun j => .int .u64 (wd (S / 2) j)) (fun j hj => by rw [if_pos hj])
   obtain ⟨a0,a1,a2,a3⟩:=zac hA
   obtain ⟨d0,d1,d2,d3⟩:=zac hR
   obtain ⟨f0,f1,f2,f3⟩:=zaf hR
   go_wp2
   refine bodyPost_ret (results_cell_row rfl _ _ (w.heap.size + 1 + 1) 27 #[vI vU (wd ((S / 2)) 0),vI vU (wd ((S / 2)) 1),vI vU (wd ((S / 2)) 2),vI vU (wd ((S / 2)) 3)] (0,0) _ rfl (blk4 (put4 hR fun j => .int .u64 (wd (S / 2) j))) Tryz.underlying27 rfl (by kernel_rfl)) rfl ⟨rfl,zai hbel (by omega) _ _ _ _⟩
theorem ghalf_over (X M S : Nat) (D : Nat) (hD : HalfTop S D) (hX : X < top) (hM : M < top) (h : X % 2 = 1) (hS : (X + M) % top = S) (hu : decide (top ≤ X + M) = true) (w : World) :
  Calls Tryz.prog 132 #[.agg #[vI vU (wd X 0),vI vU (wd X 1),vI vU (wd X 2),vI vU (wd X 3)],.agg #[vI vU (wd M 0),vI vU (wd M 1),vI vU (wd M 2),vI vU (wd M 3)]] w fun e w' => e = .returned (.agg #[vI vU (wd D 0),vI vU (wd D 1),vI vU (wd D 2),vI vU (wd D 3)]) ∧ Below w.heap.size w w':=by
 have hp : wd X 0 % 2 = 1:=by rw [wd_par,h]; rfl
 have hp0:=wd_lo X 0
 have hVt : S < top:=by rw [← hS]; exact Nat.mod_lt _ zcb
 have HS:=veil hS
 have HU:=veil hu
 clear h hS hu
 have hA0 : (((w.alloc (.cells #[vI vU (wd X 0),vI vU (wd X 1),vI vU (wd X 2),vI vU (wd X 3)] 27)).alloc (.cells #[vI vU (wd M 0),vI vU (wd M 1),vI vU (wd M 2),vI vU (wd M 3)] 27)).alloc (.cells #[vI vU 0,vI vU 0,vI vU 0,vI vU 0] 27)).rowIs w.heap.size 27 4 (fun j => .int .u64 (wd X j)):=((zae (n:=4) (by simp) rfl (arr4 fun j => .int .u64 (wd X j))).alloc _).alloc _
 have hM0 : (((w.alloc (.cells #[vI vU (wd X 0),vI vU (wd X 1),vI vU (wd X 2),vI vU (wd X 3)] 27)).alloc (.cells #[vI vU (wd M 0),vI vU (wd M 1),vI vU (wd M 2),vI vU (wd M 3)] 27)).alloc (.cells #[vI vU 0,vI vU 0,vI vU 0,vI vU 0] 27)).rowIs (w.heap.size + 1) 27 4 (fun j => .int .u64 (wd M j)):=(zae (n:=4) (by simp) rfl (arr4 fun j => .int .u64 (wd M j))).alloc _
 have hR0 : (((w.alloc (.cells #[vI vU (wd X 0),vI vU (wd X 1),vI vU (wd X 2),vI vU (wd X 3)] 27)).alloc (.cells #[vI vU (wd M 0),vI vU (wd M 1),vI vU (wd M 2),vI vU (wd M 3)] 27)).alloc (.cells #[vI vU 0,vI vU 0,vI vU 0,vI vU 0] 27)).rowIs (w.heap.size + 1 + 1) 27 4 (fun _ => .int .u64 0):=zae (n:=4) (by simp) rfl (arr4 fun _ => .int .u64 0)
 have hb0 : Below w.heap.size w (((w.alloc (.cells #[vI vU (wd X 0),vI vU (wd X 1),vI vU (wd X 2),vI vU (wd X 3)] 27)).alloc (.cells #[vI vU (wd M 0),vI vU (wd M 1),vI vU (wd M 2),vI vU (wd M 3)] 27)).alloc (.cells #[vI vU 0,vI vU 0,vI vU 0,vI vU 0] 27)):=(((Below.refl _ _).alloc (by simp) _).alloc (by simp) _).alloc (by simp; omega) _
 go_enter Tryz.func132,Tryz.ntmps132
 obtain ⟨a0,a1,a2,a3⟩:=zac hA0
 obtain ⟨c0,c1,c2,c3⟩:=zac hM0
 go_wp2_with fail
 refine (ziw X M S true HS.out HU.out hX hM _).mono ?_
 rintro e w1 ⟨rfl,hb1⟩
 clear a0 a1 a2 a3 c0 c1 c2 c3 hp hp0
 replace hA0:=zaa hA0 hb1 hA0.lt
 replace hR0:=zaa hR0 hb1 hR0.lt
 replace hb0:=hb0.trans (hb1.mono hb0.size)
 clear hb1 hM0
 obtain ⟨a0,a1,a2,a3⟩:=zac hA0
 obtain ⟨f0,f1,f2,f3⟩:=zaf hA0
 go_wp2_with fail
 replace hR0:=zah hR0 (b':=w.heap.size) (by omega) (.int .u64 (wd S 0)) (.int .u64 (wd S 1)) (.int .u64 (wd S 2)) (.int .u64 (wd S 3))
 replace hb0:=zai (b:=w.heap.size) hb0 (by omega) (.int .u64 (wd S 0)) (.int .u64 (wd S 1)) (.int .u64 (wd S 2)) (.int .u64 (wd S 3))
 replace hA0:=put4 hA0 (fun j => .int .u64 (wd S j))
 clear a0 a1 a2 a3 f0 f1 f2 f3
 generalize ((((w1.setCell ⟨w.heap.size,0,none⟩ (.int .u64 (wd S 0))).setCell ⟨w.heap.size,1,none⟩ (.int .u64 (wd S 1))).setCell ⟨w.heap.size,2,none⟩ (.int .u64 (wd S 2))).setCell ⟨w.heap.size,3,none⟩ (.int .u64 (wd S 3))) = w0 at *
 go_loopw [6] (fun i wr => ∃ k : Nat,k ≤ 4 ∧ i = .int .i64 (k : Int) ∧ wr.rowIs w.heap.size 27 4 (fun j => .int .u64 (if j < k then wd (S / 2) j else wd S j)) ∧ wr.rowIs (w.heap.size + 1 + 1) 27 4 (fun _ => .int .u64 0) ∧ Below w.heap.size w wr)
  (fun i _ => 4 - (intOf i).toNat)
 case atStart => exact ⟨0,by omega,rfl,hA0.congr (fun j _ => by simp),hR0,hb0⟩
 case round =>
  obtain ⟨k,hk,rfl,hA,hR,hbel⟩:=hrel
  clear hA0 hR0 hb0
  by_cases hlt : k < 4
  ·
   have c1:=hA.cell hlt
   rw [if_neg (by omega)] at c1
   have f1:=hA.frozen k
   have l1:=wd_lo S k
   have u1:=wd_le S k
   by_cases h3 : k < 3
   ·
    have c2:=hA.cell (show k + 1 < 4 by omega)
    rw [if_neg (by omega)] at c2
    have h3i : (k : Int) < 3:=by omega
    have l2:=wd_lo S (k + 1)
    by_cases hb : wd S (k + 1) % 2 = 1
    ·
     have HC:=veil (zgf S k hb)
     go_wp2
     go_roundw
     case rel =>
      rw [HC.out]
      exact ⟨k + 1,by omega,by go_num,((hA.set k _).set k _).congr (zkm hlt),zau (zau hR (by omega) _) (by omega) _,zaq (zaq hbel (by omega) _) (by omega) _⟩
     case measure => simp [intOf]; omega
    ·
     have hb0 : wd S (k + 1) % 2 = 0:=by omega
     have HC:=veil (zec S k hb0)
     clear hb
     go_wp2
     go_roundw
     case rel =>
      rw [HC.out]
      exact ⟨k + 1,by omega,by go_num,(hA.set k _).congr (zev hlt),zau hR (by omega) _,zaq hbel (by omega) _⟩
     case measure => simp [intOf]; omega
   ·
    obtain rfl : k = 3:=by omega
    have HC:=veil (zge S hVt)
    go_wp2
    go_roundw
    case rel =>
     rw [HC.out]
     exact ⟨4,by omega,by go_num,(hA.set 3 _).congr (zev (by omega)),zau hR (by omega) _,zaq hbel (by omega) _⟩
    case measure => simp [intOf]
  ·
   obtain rfl : k = 4:=by omega
   have hA:=hA.congr (g:=fun j => .int .u64 (wd (S / 2) j)) (fun j hj => by rw [if_pos hj])
   obtain ⟨a0,a1,a2,a3⟩:=zac hA
   obtain ⟨d0,d1,d2,d3⟩:=zac hR
   obtain ⟨f0,f1,f2,f3⟩:=zaf hR
   have g3:=hA.frozen 3
   have l3:=wd_lo (S / 2) 3
   obtain ⟨hD,hD3,hD4⟩:=hD
   have HD:=veil hD
   have HD3:=veil hD3
   clear hD hD3
   go_upto_region 11 with (fail)
   clear d0 d1 d2 d3 f0 f1 f2 f3
   go_upto_region 12 with (fail)
   rw [HD3.out]
   replace hR:=zau hR (b':=w.heap.size) (i:=3) (by omega) (.int .u64 (wd D 3))
   replace hbel:=zaq hbel (b:=w.heap.size) (i:=3) (by omega) (.int .u64 (wd D 3))
   replace hA:=(hA.set 3 (.int .u64 (wd D 3))).congr (g:=fun j => .int .u64 (wd D j)) (fun j hj => by
    by_cases e : j = 3
    ·
     subst e; simp
    ·
     rw [if_neg e,HD.out j (by omega)])
   clear a0 a1 a2 a3 g3
   generalize wr.setCell ⟨w.heap.size,3,none⟩ (.int .u64 (wd D 3)) = wz at *
   obtain ⟨a0,a1,a2,a3⟩:=zac hA
   obtain ⟨d0,d1,d2,d3⟩:=zac hR
   obtain ⟨f0,f1,f2,f3⟩:=zaf hR
   go_wp2
   refine bodyPost_ret (results_cell_row rfl _ _ (w.heap.size + 1 + 1) 27 #[vI vU (wd D 0),vI vU (wd D 1),vI vU (wd D 2),vI vU (wd D 3)] (0,0) _ rfl (blk4 (put4 hR fun j => .int .u64 (wd D j))) Tryz.underlying27 rfl (by kernel_rfl)) rfl ⟨rfl,zai hbel (by omega) _ _ _ _⟩
def hf (X M : Nat) : Nat:=if X % 2 = 0 then X / 2 else (X + M) / 2
theorem hf_lt {X M : Nat} (h : X < M) : hf X M < M:=by unfold hf; split <;> omega
theorem ghalf_calls (X M : Nat) (hX : X < M) (hM : M < top) (w : World) :
  Calls Tryz.prog 132 #[.agg #[vI vU (wd X 0),vI vU (wd X 1),vI vU (wd X 2),vI vU (wd X 3)],.agg #[vI vU (wd M 0),vI vU (wd M 1),vI vU (wd M 2),vI vU (wd M 3)]] w fun e w' => e = .returned (.agg #[vI vU (wd (hf X M) 0),vI vU (wd (hf X M) 1),vI vU (wd (hf X M) 2),vI vU (wd (hf X M) 3)]) ∧ Below w.heap.size w w':=by
 unfold hf
 by_cases h : X % 2 = 0
 ·
  rw [if_pos h]; exact ghalf_even X M (by omega) h w
 ·
  rw [if_neg h]
  by_cases h2 : top ≤ X + M
  ·
   have e : (X + M) % top = X + M - top:=by rw [Nat.mod_eq_sub_mod h2,Nat.mod_eq_of_lt (by omega)]
   have hd:=halfTop (S:=X + M - top) (by omega)
   rw [show X + M - top + top = X + M by omega] at hd
   exact ghalf_over X M _ _ hd (by omega) hM (by omega) e (by simpa using h2) w
  ·
   have e : (X + M) % top = X + M:=Nat.mod_eq_of_lt (by omega)
   exact ghalf_no X M _ (by omega) hM (by omega) e (by simpa using h2) w
end Go.Proofs.YthlbemnbmbmjhaaGreatDoor
