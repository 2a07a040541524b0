/-
  Of M4 M5 NS1 NS2 NE NF.
-/
import Derived.Laws.CopyOwn
import Derived.Deep.RegionHeld3
import Derived.Deep.CutBlock
import Derived.Test.YtmfjigcdhijkjaaDoorZB8
set_option maxRecDepth 1000000
set_option maxHeartbeats 20000000
namespace Go.Proofs.YtmfjigcdhijkjaaDoor
open Go.RowKit
open Go.Act renaming put → aP
open List renaming setIfInBounds_toArray → lA, set_cons_zero → lZ, set_cons_succ → lS
theorem zfa {P : Program} {w : World} {ops : Array Oper} {rest : List Oper} {o : Oper} {a : Act} {Q : Exit → Act → World → Prop} (hgd : o.guard = none) (d s : Operand) (dT sT : TypeId)
  (ho : o.op = .call { callee:=.builtin .copy,args:=#[d,s],argTypes:=#[dT,sT] }) (elem : TypeId) (hu : P.underlying dT = some (.slice elem)) (hsz : (P.info? elem).map (·.size) = some 1)
  (g dLen dCap : Nat) (A : Option Addr) (m c : Nat) (hd : a.eval d = .slice (some ⟨g,0,none⟩) dLen dCap) (hs : a.eval s = .slice A m c)
  (t n : Nat) (f : Nat → Value) (hrow : w.rowIs g t n f) (hm : m ≤ dLen) (hfit : m ≤ n) (v : Nat → Value) (hsrc : From w A m v)
  (h1 : ∀ j,j < m → (v j).oneCell' = true)
  (h : ∀ w',But g w w' → w'.rowIs g t n (fun j => if j < m then v j else f j) → wpList P ops Q rest (a.put o.dst (goInt (m : Nat))) w') : wpList P ops Q (o :: rest) a w:=by
 rcases hsrc with h0 | ⟨ad,rfl,hc⟩
 ·
  subst h0
  exact wpList_copy_nothing hgd d s dT sT ho elem hu hsz _ A dLen dCap 0 c hd hs (by simp) (h w (But.refl _ _) (hrow.congr fun j _ => by rw [if_neg (by omega)]))
 ·
  refine zfn hgd d s dT sT ho elem hu hsz g 0 dLen dCap ad m c hd hs t n f hrow m (Nat.min_eq_left hm).symm v hc (by omega) h1 fun w' hb hr => h w' hb (hr.congr fun j _ => ?_)
  by_cases e : j < m
  ·
   rw [if_pos ⟨by omega,by omega⟩,if_pos e]; rfl
  ·
   rw [if_neg (by omega),if_neg e]
theorem info64 : (Tryd.prog.info? 112).map (·.size) = some 64:=by kernel_rfl
theorem zB64 : (#[.int .u8 0,.int .u8 0,.int .u8 0,.int .u8 0,.int .u8 0,.int .u8 0,.int .u8 0,.int .u8 0,.int .u8 0,.int .u8 0,.int .u8 0,.int .u8 0,.int .u8 0,.int .u8 0,.int .u8 0,.int .u8 0,.int .u8 0,.int .u8 0,.int .u8 0,.int .u8 0,.int .u8 0,.int .u8 0,.int .u8 0,.int .u8 0,.int .u8 0,.int .u8 0,.int .u8 0,.int .u8 0,.int .u8 0,.int .u8 0,.int .u8 0,.int .u8 0,.int .u8 0,.int .u8 0,.int .u8 0,.int .u8 0,.int .u8 0,.int .u8 0,.int .u8 0,.int .u8 0,.int .u8 0,.int .u8 0,.int .u8 0,.int .u8 0,.int .u8 0,.int .u8 0,.int .u8 0,.int .u8 0,.int .u8 0,.int .u8 0,.int .u8 0,.int .u8 0,.int .u8 0,.int .u8 0,.int .u8 0,.int .u8 0,.int .u8 0,.int .u8 0,.int .u8 0,.int .u8 0,.int .u8 0,.int .u8 0,.int .u8 0,.int .u8 0] : Array Value) = arrOf 64 (fun _ => .int .u8 0):=rfl
theorem blockOf_calls (A : Option Addr) (n c : Nat) (y : Nat → Nat) (hy : ∀ j,y j < 256) (hnc : n ≤ c) (hn : n ≤ 1048576) (w : World) (hK : KT w) (hS : Src w A n y w.heap.size) :
  Calls Tryd.prog 102 #[.slice A n c] w fun e w' => e = .returned (.agg (arrOf 64 fun j => .int .u8 (kb y n j : Nat))) ∧ Below w.heap.size w w':=by
 have HK:=veil hK
 have HS:=veil hS
 have HY:=veil hy
 have hg0:=hK.lt
 clear hK hS hy
 go_enter Tryd.func102,Tryd.ntmps102
 go_upto_region 2 with (fail)
 rw [zB64]
 have hN0:=zcd w 64 112 (fun _ => Value.int .u8 0) rfl
 have hb0 : Below w.heap.size w (w.alloc (.cells (arrOf 64 (fun _ => .int .u8 0)) 112)):=(Below.refl _ _).alloc (Nat.le_refl _) _
 have hz0 : (w.alloc (.cells (arrOf 64 (fun _ => .int .u8 0)) 112)).heap.size = w.heap.size + 1:=by simp
 generalize w.alloc (.cells (arrOf 64 (fun _ => .int .u8 0)) 112) = w0 at *
 have hR1:=zcd w0 64 112 (fun _ => Value.int .u8 0) rfl
 rw [hz0] at hR1
 have hN1:=hN0.alloc (.cells (arrOf 64 (fun _ => .int .u8 0)) 112)
 have hb1:=hb0.alloc hb0.size (.cells (arrOf 64 (fun _ => .int .u8 0)) 112)
 have hz1 : (w0.alloc (.cells (arrOf 64 (fun _ => .int .u8 0)) 112)).heap.size = w.heap.size + 1 + 1:=by simp [hz0]
 generalize w0.alloc (.cells (arrOf 64 (fun _ => .int .u8 0)) 112) = w1 at *
 clear hN0 hb0 hz0
 have hzle : w.heap.size + 1 < w1.heap.size:=by omega
 by_cases hlong : n > 64
 ·
  have hil : (64 : Int) < (n : Int):=by omega
  go_wp2_with fail
  refine (sum_calls A n c y HY.out hnc hn w1 (zgp HK.out hb1) (src_now HS.out hb1 (by omega))).mono ?_
  rintro e w3 ⟨rfl,hb3⟩
  have HZ:=veil (And.intro (zch y n) (And.intro (show (dgst y n).all (·.oneCell') = true from zca fun _ _ => rfl) (show (Tryd.prog.info? 38).map (·.size) = some (dgst y n).size by rw [zch]; exact infoD)))
  have hR3:=zak hR1 hb3 (by omega)
  have hN3:=zak hN1 hb3 (by omega)
  have hB3:=hb1.trans (hb3.mono (by omega))
  have hz3:=hb3.size
  obtain ⟨D,hD⟩ : ∃ D,D = dgst y n:=⟨_,rfl⟩
  rw [← hD] at HZ ⊢
  have HD:=veil hD
  clear hD hR1 hN1 hb1 hb3
  go_upto_region 4 with ((with_reducible refine zck ?_); refine wpList_store_row rfl 38 _ _ rfl w3.heap.size D rfl rfl 38 _ (heap_alloc_last w3 _) HZ.out.2.2 (by rw [HZ.out.1]; rfl) HZ.out.2.1 ?_; rw [World.setRow_alloc_new])
  have hD4 : (w3.alloc (.cells D 38)).rowIs w3.heap.size 38 32 (fun j => .int .u8 (dByte (shaSt y n) j : Nat)):=by rw [HD.out]; exact zcd w3 32 38 _ rfl
  have hR4:=hR3.alloc (.cells D 38)
  have hN4:=hN3.alloc (.cells D 38)
  have hB4:=hB3.alloc hB3.size (.cells D 38)
  generalize w3.alloc (.cells D 38) = w4 at *
  generalize w3.heap.size = g4 at *
  obtain ⟨t,ht⟩ : ∃ t,t = fun j => dByte (shaSt y n) j:=⟨_,rfl⟩
  have HSR:=veil (show From w4 (some ⟨g4,0,none⟩) 32 (fun j => .int .u8 (t j : Nat)) from .inr ⟨_,rfl,fun j hj => by rw [Addr.add_mid,Nat.zero_add,ht]; exact hD4.cell hj⟩)
  have HT:=veil (show ∀ j,j < 64 → (if j < 32 then Value.int .u8 (t j : Nat) else .int .u8 0) = .int .u8 (kb y n j : Nat) from fun j _ => by
   unfold kb upTo
   rw [if_pos hlong,ht]
   split <;> rfl)
  have HR:=veil hR4
  have HN:=veil hN4
  have HB:=veil hB4
  clear hR4 hN4 hB4 hD4 ht hR3 hN3 hB3 hil
  obtain ⟨E,hE⟩ : ∃ E,E = arrOf 64 (fun j => Value.int .u8 (kb y n j : Nat)):=⟨_,rfl⟩
  have hEs : E.size = 64:=by rw [hE,zbb]
  have hE1 : E.all (·.oneCell') = true:=by rw [hE]; exact zca fun _ _ => rfl
  have HEI:=veil (And.intro hEs (And.intro hE1 (show (Tryd.prog.info? 112).map (·.size) = some E.size by rw [hEs]; exact info64)))
  have HE:=veil hE
  clear hE hEs hE1
  go_wp2_with (first
   | ((with_reducible refine zbw 13 ?_); refine zfa rfl _ _ 27 27 rfl 5 Tryd.underlying27 infoB (w.heap.size + 1) 64 64 (some ⟨g4,0,none⟩) 32 32 rfl rfl 112 64 _ HR.out (by omega) (by omega) (fun j => .int .u8 (t j : Nat)) HSR.out (fun _ _ => rfl) ?_; intro w6 hb6 hr6; have hr6 : w6.rowIs (w.heap.size + 1) 112 64 (fun j => Value.int .u8 (kb y n j : Nat)):=hr6.congr HT.out; have hR6:=blkOf hr6; rw [← HE.out] at hR6; have hR6:=veil hR6; have hN6:=veil (blkOf (zei HN.out hb6 (by omega))); have hB6:=veil (HB.out.trans (But.new hb6 (B:=w.heap.size) (by omega) HB.out.size)); clear hb6 hr6)
   | ((with_reducible refine zbw 14 ?_); refine wpList_load_row rfl 112 _ rfl (w.heap.size + 1) rfl 112 E (0,0) _ hR6.out Tryd.underlying112 rfl HEI.out.2.2 ?_)
   | ((with_reducible refine zck ?_); refine wpList_store_row rfl 112 _ _ rfl w.heap.size E rfl rfl 112 _ hN6.out HEI.out.2.2 (by rw [HEI.out.1,zbb]) HEI.out.2.1 ?_))
  exact bodyPost_ret (results_cell_row rfl _ _ w.heap.size 112 E (0,0) _ rfl (setRow_heap w6 w.heap.size _ E 112 (0,0) hN6.out) Tryd.underlying112 rfl HEI.out.2.2) rfl ⟨by rw [HE.out],zcy hB6.out (Nat.le_refl _) _⟩
 ·
  have hil : ¬ ((64 : Int) < (n : Int)):=by omega
  have HSR:=veil (from_now HS.out hb1)
  have HT:=veil (show ∀ j,j < 64 → (if j < n then Value.int .u8 (y j : Nat) else .int .u8 0) = .int .u8 (kb y n j : Nat) from fun j _ => by
   unfold kb upTo
   rw [if_neg hlong]
   split <;> rfl)
  have HR:=veil hR1
  have HN:=veil hN1
  have HB:=veil hb1
  clear hR1 hN1 hb1
  obtain ⟨E,hE⟩ : ∃ E,E = arrOf 64 (fun j => Value.int .u8 (kb y n j : Nat)):=⟨_,rfl⟩
  have hEs : E.size = 64:=by rw [hE,zbb]
  have hE1 : E.all (·.oneCell') = true:=by rw [hE]; exact zca fun _ _ => rfl
  have HEI:=veil (And.intro hEs (And.intro hE1 (show (Tryd.prog.info? 112).map (·.size) = some E.size by rw [hEs]; exact info64)))
  have HE:=veil hE
  clear hE hEs hE1
  go_wp2_with (first
   | ((with_reducible refine zbw 13 ?_); refine zfa rfl _ _ 27 27 rfl 5 Tryd.underlying27 infoB (w.heap.size + 1) 64 64 A n c rfl rfl 112 64 _ HR.out (by omega) (by omega) (fun j => .int .u8 (y j : Nat)) HSR.out (fun _ _ => rfl) ?_; intro w6 hb6 hr6; have hr6 : w6.rowIs (w.heap.size + 1) 112 64 (fun j => Value.int .u8 (kb y n j : Nat)):=hr6.congr HT.out; have hR6:=blkOf hr6; rw [← HE.out] at hR6; have hR6:=veil hR6; have hN6:=veil (blkOf (zei HN.out hb6 (by omega))); have hB6:=veil (HB.out.trans (But.new hb6 (B:=w.heap.size) (by omega) HB.out.size)); clear hb6 hr6)
   | ((with_reducible refine zbw 14 ?_); refine wpList_load_row rfl 112 _ rfl (w.heap.size + 1) rfl 112 E (0,0) _ hR6.out Tryd.underlying112 rfl HEI.out.2.2 ?_)
   | ((with_reducible refine zck ?_); refine wpList_store_row rfl 112 _ _ rfl w.heap.size E rfl rfl 112 _ hN6.out HEI.out.2.2 (by rw [HEI.out.1,zbb]) HEI.out.2.1 ?_))
  exact bodyPost_ret (results_cell_row rfl _ _ w.heap.size 112 E (0,0) _ rfl (setRow_heap w6 w.heap.size _ E 112 (0,0) hN6.out) Tryd.underlying112 rfl HEI.out.2.2) rfl ⟨by rw [HE.out],zcy hB6.out (Nat.le_refl _) _⟩
theorem text_one (t : Nat → Nat) : textN (fun _ => 32) (fun _ => t) 1 = t:=zgc _ t
theorem parts_one {W : World} {b g : Nat} {t : Nat → Nat} (ht : ∀ j,t j < 256) (hb : W.cell? ⟨b,0,none⟩ = some (.slice (some ⟨g,0,none⟩) 32 32)) (hg : g < W.heap.size) (hc : ∀ j,j < 32 → W.cell? ⟨g,j,none⟩ = some (.int .u8 (t j : Nat))) :
  Parts3 W (some ⟨b,0,none⟩) 1 (fun _ => some ⟨g,0,none⟩) (fun _ => 32) (fun _ => 32) (fun _ => t) where
 row:=.inr ⟨b,0,rfl,World.block_lt_of_cell? W _ hb,fun r hr => by
                                     obtain rfl : r = 0:=by omega
                                     exact hb⟩
 src:=fun r hr => .inr ⟨g,0,rfl,hg,by omega,fun j hj => by rw [Nat.zero_add]; exact hc j hj⟩
 cap:=fun _ _ => Nat.le_refl _
 lt:=fun _ => ht
theorem ofmac_calls (K : Option Addr) (n c : Nat) (y : Nat → Nat) (hy : ∀ j,y j < 256) (hnc : n ≤ c) (hn : n ≤ 1048576) (AL : Option Addr) (nl cl : Nat) (A : Nat → Option Addr) (L C : Nat → Nat) (Y : Nat → Nat → Nat) (hnl : nl ≤ 100000) (hT : lenN L nl ≤ 100000)
  (w : World) (hK : KT w) (hS : Src w K n y w.heap.size) (hP : Parts3 w AL nl A L C Y) :
  Calls Tryd.prog 95 #[.slice K n c,.slice AL nl cl] w fun e w' => e = .returned (.agg (macD y n (textN L Y nl) (lenN L nl))) ∧ Below w.heap.size w w':=by
 have HK:=veil hK
 have HS:=veil hS
 have HY:=veil hy
 have HP:=veil hP
 have HT:=veil (And.intro hT hnl)
 have hg0:=hK.lt
 clear hK hS hy hP hT hnl
 go_enter Tryd.func95,Tryd.ntmps95
 go_upto_region 1 with (fail)
 rw [zeros32]
 have hR1:=zcd w 32 38 (fun _ => Value.int .u8 0) rfl
 have hb1 : Below w.heap.size w (w.alloc (.cells (arrOf 32 (fun _ => .int .u8 0)) 38)):=(Below.refl _ _).alloc (Nat.le_refl _) _
 generalize w.alloc (.cells (arrOf 32 (fun _ => .int .u8 0)) 38) = w1 at *
 go_wp2_with fail
 refine (blockOf_calls K n c y HY.out hnc hn w1 (zgp HK.out hb1) (src_now HS.out hb1 hb1.size)).mono ?_
 rintro e w2 ⟨rfl,hb2⟩
 have hR2:=zak hR1 hb2 hR1.lt
 have hB2:=hb1.trans (hb2.mono hb1.size)
 have hlt2:=hR2.lt
 obtain ⟨E,hE⟩ : ∃ E,E = arrOf 64 (fun j => Value.int .u8 (kb y n j : Nat)):=⟨_,rfl⟩
 have hEs : E.size = 64:=by rw [hE,zbb]
 have hE1 : E.all (·.oneCell') = true:=by rw [hE]; exact zca fun _ _ => rfl
 have HEI:=veil (And.intro hEs (And.intro hE1 (show (Tryd.prog.info? 112).map (·.size) = some E.size by rw [hEs]; exact info64)))
 rw [← hE]
 have HE:=veil hE
 clear hE hEs hE1 hR1 hb1 hb2
 have HM1:=veil (fun W (hk : KT W) (hp : Parts3 W AL nl A L C Y) => zhd (kb y n) (kb_lt HY.out n) 54 (by decide) AL nl cl A L C Y HT.out.2 HT.out.1 W hk hp)
 have HM2:=veil (fun W g d (t : Nat → Nat) (ht : ∀ j,t j < 256) (hk : KT W) (hp : Parts3 W (some ⟨g,0,none⟩) 1 (fun _ => some ⟨d,0,none⟩) (fun _ => 32) (fun _ => 32) (fun _ => t)) =>
  zhd (kb y n) (kb_lt HY.out n) 92 (by decide) (some ⟨g,0,none⟩) 1 1 (fun _ => some ⟨d,0,none⟩) (fun _ => 32) (fun _ => 32) (fun _ => t) (by decide) (by decide) W hk hp)
 rw [← HE.out] at HM1 HM2
 go_upto_region 2 with ((with_reducible refine zck ?_); refine wpList_store_row rfl 112 _ _ rfl w2.heap.size E rfl rfl 112 _ (heap_alloc_last w2 _) HEI.out.2.2 (by rw [HEI.out.1]; rfl) HEI.out.2.1 ?_; rw [World.setRow_alloc_new])
 have hE3 : (w2.alloc (.cells E 112)).heap[w2.heap.size]? = some (.cells E 112 (0,0)):=heap_alloc_last w2 _
 have hR3:=hR2.alloc (.cells E 112)
 have hB3:=hB2.alloc hB2.size (.cells E 112)
 have hlt3 : w2.heap.size < (w2.alloc (.cells E 112)).heap.size:=by simp
 generalize w2.alloc (.cells E 112) = w3 at *
 generalize hg5 : w2.heap.size = g5 at *
 clear hR2 hB2 hg5
 obtain ⟨D,hD⟩ : ∃ D,D = dgst (macIn y n (textN L Y nl)) (64 + lenN L nl):=⟨_,rfl⟩
 have HZ:=veil (And.intro (zch (macIn y n (textN L Y nl)) (64 + lenN L nl)) (And.intro (show (dgst (macIn y n (textN L Y nl)) (64 + lenN L nl)).all (·.oneCell') = true from zca fun _ _ => rfl) (show (Tryd.prog.info? 38).map (·.size) = some (dgst (macIn y n (textN L Y nl)) (64 + lenN L nl)).size by rw [zch]; exact infoD)))
 have HM1':=veil (show ∀ W,KT W → Parts3 W AL nl A L C Y → Calls Tryd.prog 103 #[.agg E,.int .u8 54,.slice AL nl cl] W fun e W' => e = .returned (.agg D) ∧ Below W.heap.size W W' from by rw [hD]; exact HM1.out)
 rw [← hD] at HZ
 have HD:=veil hD
 have HE3:=veil hE3
 have H3:=veil (And.intro hR3 hB3)
 clear hD HM1 hE3 hR3 hB3
 go_upto_region 3 with (first
  | ((with_reducible refine zbw 9 ?_); refine wpList_load_row rfl 112 _ rfl g5 rfl 112 E (0,0) _ HE3.out Tryd.underlying112 rfl HEI.out.2.2 ?_)
  | (go_at_call 103; refine (HM1'.out w3 (zgp HK.out H3.out.2) (HP.out.call H3.out.2)).mono ?_; rintro e w4 ⟨rfl,hb4⟩)
  | ((with_reducible refine zck ?_); refine wpList_store_row rfl 38 _ _ rfl w4.heap.size D rfl rfl 38 _ (heap_alloc_last w4 _) HZ.out.2.2 (by rw [HZ.out.1]; rfl) HZ.out.2.1 ?_; rw [World.setRow_alloc_new]))
 have hE5 : (w4.alloc (.cells D 38)).heap[g5]? = some (.cells E 112 (0,0)):=((Below.heap_alloc _ _ _ (by have:=hb4.size; omega)).trans (hb4.block g5 hlt3)).trans HE3.out
 have hR5:=(zak H3.out.1 hb4 (by omega)).alloc (.cells D 38)
 have hB5:=(H3.out.2.trans (hb4.mono H3.out.2.size)).alloc (H3.out.2.trans (hb4.mono H3.out.2.size)).size (.cells D 38)
 have hD5 : (w4.alloc (.cells D 38)).rowIs w4.heap.size 38 32 (fun j => .int .u8 (dByte (shaSt (macIn y n (textN L Y nl)) (64 + lenN L nl)) j : Nat)):=by rw [HD.out]; exact zcd w4 32 38 _ rfl
 have hlt4 : g5 < w4.heap.size:=by have:=hb4.size; omega
 have hlt5 : w4.heap.size < (w4.alloc (.cells D 38)).heap.size:=by simp
 generalize w4.alloc (.cells D 38) = w5 at *
 generalize hg6 : w4.heap.size = g6 at *
 clear hb4 H3 HE3 HM1' hg6
 obtain ⟨t,ht⟩ : ∃ t,t = fun j => dByte (shaSt (macIn y n (textN L Y nl)) (64 + lenN L nl)) j:=⟨_,rfl⟩
 have hD5 : w5.rowIs g6 38 32 (fun j => .int .u8 (t j : Nat)):=by rw [ht]; exact hD5
 obtain ⟨F,hF⟩ : ∃ F,F = macD y n (textN L Y nl) (lenN L nl):=⟨_,rfl⟩
 have HF:=veil (show F.size = 32 ∧ F.all (·.oneCell') = true ∧ (Tryd.prog.info? 38).map (·.size) = some F.size from by
  rw [hF]; exact ⟨zch _ _,zca fun _ _ => rfl,by show _ = some (dgst _ _).size; rw [zch]; exact infoD⟩)
 have HM3:=veil (show ∀ W g,KT W → But w.heap.size w5 W → W.cell? ⟨g,0,none⟩ = some (.slice (some ⟨g6,0,none⟩) 32 32) → Calls Tryd.prog 103 #[.agg E,.int .u8 92,.slice (some ⟨g,0,none⟩) 1 1] W fun e W' => e = .returned (.agg F) ∧ Below W.heap.size W W' from fun W g hk hbt hc => by
  have h:=HM2.out W g g6 t (fun j => by rw [ht]; exact zhi _ j) hk (parts_one (fun j => by rw [ht]; exact zhi _ j) hc (by have:=hbt.size; omega) (fun j hj => (World.cell?_of_block (a:=⟨g6,j,none⟩) (hbt.block g6 hlt5 (by simp; omega))).trans (hD5.cell hj)))
  rw [text_one,ht] at h
  rw [hF]
  exact h)
 have HFF:=veil hF
 have hrg : w5.rangeAt g5 0 E.toList:=fun j v hv => by
  rw [Nat.zero_add,cell_of_row w5 g5 j E 112 (0,0) hE5]
  simpa using hv
 have HN:=veil hR5
 have hoF : ∀ v ∈ F.toList,v.oneCell' = true:=fun v hv => (Array.all_eq_true_iff_forall_mem.1 HF.out.2.1) v (by simpa using hv)
 have hiF : (Tryd.prog.info? 38).map (·.size) = some F.toList.length:=by rw [Array.length_toList]; exact HF.out.2.2
 have HK5:=veil (And.intro (zgp HK.out hB5) hB5)
 have hu:=Tryd.underlying112
 have hii : (Tryd.prog.info? 112).map (·.size) = some E.toList.length:=by rw [Array.length_toList]; exact HEI.out.2.2
 have hl64 : E.toList.length = 64:=by rw [Array.length_toList]; exact HEI.out.1
 have hone : ∀ v ∈ E.toList,v.oneCell' = true:=fun v hv => (Array.all_eq_true_iff_forall_mem.1 HEI.out.2.1) v (by simpa using hv)
 have hT : E.toList.toArray = E:=by simp
 obtain ⟨Z,hZ⟩ : ∃ Z,Z = E.toList:=⟨_,rfl⟩
 rw [← hZ] at hii hl64 hone hT hrg
 have hg5 : g5 < w5.heap.size:=by omega
 clear hZ hF ht hD5 HM2 hE5 hR5 hB5 HE HD HZ HEI
 have hS0 : w5.rangeAt g5 0 Z ∧ But w.heap.size w5 w5:=⟨hrg,But.refl _ _⟩
 go_region_held3 (fun w' => w'.rangeAt g5 0 Z ∧ But w.heap.size w5 w')
  (first
   | with_reducible assumption
   | exact hS0
   | exact keepD hS0
   | exact keepD (keepA hg5 hS0)
   | exact keepC hb' hgW (by assumption)
   | exact keepS (Nat.ne_of_gt hlt2) (by assumption))
  (first
   | (go_at_call 103; have hgW:=(show g5 < (w5.alloc (.cells #[.slice (some ⟨g6,0,none⟩) 32 32] 27)).drew.heap.size from by simp [World.drew]; omega); refine (HM3.out _ w5.heap.size ((HK5.out.1.alloc _).drew) (But.alloc (But.refl _ w5) _).drew (by rw [World.cell?_drew,World.cell?_alloc_mark]; rfl)).mono ?_; rintro e w' ⟨rfl,hb'⟩; have hN':=veil (zak (zcq (HN.out.alloc (.cells #[.slice (some ⟨g6,0,none⟩) 32 32] 27)) 1) hb' (by omega)); have hth:=there_row hN'.out (show F.toList.length = 32 by rw [Array.length_toList]; exact HF.out.1)))
 rename (_ ∧ But _ _ _) => hHeld
 clear hu hrg hT hone hl64 hii hS0 hoF hiF hth
 go_wp2
 exact bodyPost_ret (results_cell_row rfl _ _ w.heap.size 38 F (0,0) _ rfl (blk_setCells hN'.out HF.out.1) Tryd.underlying38 rfl HF.out.2.2) rfl ⟨by rw [HFF.out],HK5.out.2.trans (But.new hHeld.2 (B:=w.heap.size) (Nat.le_refl _) HK5.out.2.size)⟩
def sb (s : KV) (j : Nat) : Value:=.int .u8 ((if j < 32 then s.k j else s.v (j - 32) : Nat) : Int)
def SRow (w : World) (g : Nat) (s : KV) : Prop:=w.rowIs g 119 64 (sb s)
section
variable {w w' : World} {g : Nat} {s : KV}
theorem SRow.lt (h : SRow w g s) : g < w.heap.size:=World.rowIs.lt h
theorem SRow.key (h : SRow w g s) : Src w (some ⟨g,0,none⟩) 32 s.k w.heap.size:=.inr ⟨g,0,rfl,h.lt,Nat.ne_of_lt h.lt,fun j hj => by
 have h1:=World.rowIs.cell h (show j < 64 by omega)
 unfold sb at h1
 rw [if_pos hj] at h1
 rw [Nat.zero_add]; exact h1⟩
theorem SRow.cellV (h : SRow w g s) (j : Nat) (hj : j < 32) : w.cell? ⟨g,32 + j,none⟩ = some (.int .u8 (s.v j : Nat)):=by
 have h1:=World.rowIs.cell h (show 32 + j < 64 by omega)
 unfold sb at h1
 rw [if_neg (by omega),show 32 + j - 32 = j by omega] at h1
 exact h1
theorem SRow.val (h : SRow w g s) : Src w (some ⟨g,32,none⟩) 32 s.v w.heap.size:=.inr ⟨g,32,rfl,h.lt,Nat.ne_of_lt h.lt,h.cellV⟩
theorem SRow.call (h : SRow w g s) (hb : Below w.heap.size w w') : SRow w' g s:=zak h hb h.lt
theorem SRow.but {r : Nat} (h : SRow w g s) (k : But r w w') (hne : g ≠ r) : SRow w' g s:=zei h k hne
theorem SRow.alloc (h : SRow w g s) (o : Obj) : SRow (w.alloc o) g s:=World.rowIs.alloc h o
theorem SRow.putV {y : Nat → Nat} {F : Array Value} (h : SRow w g s) (hF : F = arrOf 32 (fun i => .int .u8 (y i : Nat))) : SRow (w.setCells g 32 F.toList) g ⟨s.k,y⟩ :=
 (zdm F.toList 32 w (sb s) h).congr fun j hj => by
  have hl : F.toList.length = 32:=by rw [Array.length_toList,hF,zbb]
  unfold sb
  by_cases h1 : j < 32
  ·
   rw [if_neg (by omega),if_pos h1,if_pos h1]
  ·
   rw [if_pos (by omega),if_neg h1,List.getD_eq_getElem?_getD,Array.getElem?_toList,hF,zcw _ (by omega)]
   rfl
theorem SRow.putK {y : Nat → Nat} {F : Array Value} (h : SRow w g s) (hF : F = arrOf 32 (fun i => .int .u8 (y i : Nat))) : SRow (w.setCells g 0 F.toList) g ⟨y,s.v⟩ :=
 (zdm F.toList 0 w (sb s) h).congr fun j hj => by
  have hl : F.toList.length = 32:=by rw [Array.length_toList,hF,zbb]
  unfold sb
  by_cases h1 : j < 32
  ·
   rw [if_pos (by omega),if_pos h1,List.getD_eq_getElem?_getD,Array.getElem?_toList,hF,Nat.sub_zero,zcw _ (by omega)]
   rfl
  ·
   rw [if_neg (by omega),if_neg h1,if_neg h1]
theorem there_mid {b t n o m : Nat} {f : Nat → Value} (h : w.rowIs b t n f) (hm : o + m ≤ n) : w.there b o m:=fun j hj => by
 rw [h.cell (by omega)]
 exact ⟨rfl,h.frozen _⟩
end
theorem parts_at {W : World} {b g o : Nat} {t : Nat → Nat} (ht : ∀ j,t j < 256) (hb : W.cell? ⟨b,0,none⟩ = some (.slice (some ⟨g,o,none⟩) 32 32)) (hg : g < W.heap.size) (hc : ∀ j,j < 32 → W.cell? ⟨g,o + j,none⟩ = some (.int .u8 (t j : Nat))) :
  Parts3 W (some ⟨b,0,none⟩) 1 (fun _ => some ⟨g,o,none⟩) (fun _ => 32) (fun _ => 32) (fun _ => t) where
 row:=.inr ⟨b,0,rfl,World.block_lt_of_cell? W _ hb,fun r hr => by
                                     obtain rfl : r = 0:=by omega
                                     exact hb⟩
 src:=fun r hr => .inr ⟨g,o,rfl,hg,by omega,fun j hj => hc j hj⟩
 cap:=fun _ _ => Nat.le_refl _
 lt:=fun _ => ht
theorem step_calls (g : Nat) (s : KV) (hs : s.Ok) (w : World) (hK : KT w) (hS : SRow w g s) :
  Calls Tryd.prog 81 #[.pointer (some ⟨g,0,none⟩)] w fun e w' => e = .returned (.tuple #[]) ∧ SRow w' g s.step ∧ But g w w':=by
 obtain ⟨F,hF⟩ : ∃ F,F = macD s.k 32 s.v 32:=⟨_,rfl⟩
 have HF:=veil (show F.size = 32 ∧ F.all (·.oneCell') = true ∧ (Tryd.prog.info? 38).map (·.size) = some F.size from by
  rw [hF]; exact ⟨zch _ _,zca fun _ _ => rfl,by show _ = some (dgst _ _).size; rw [zch]; exact infoD⟩)
 have HM:=veil (show ∀ W b,Below w.heap.size w W → W.cell? ⟨b,0,none⟩ = some (.slice (some ⟨g,32,none⟩) 32 32) → Calls Tryd.prog 95 #[.slice (some ⟨g,0,none⟩) 32 32,.slice (some ⟨b,0,none⟩) 1 1] W fun e W' => e = .returned (.agg F) ∧ Below W.heap.size W W' from fun W b hb hc => by
  have hS':=hS.call hb
  have h:=ofmac_calls (some ⟨g,0,none⟩) 32 32 s.k hs.k (by decide) (by decide) (some ⟨b,0,none⟩) 1 1 (fun _ => some ⟨g,32,none⟩) (fun _ => 32) (fun _ => 32) (fun _ => s.v) (by decide) (by decide) W (hK.call hb) hS'.key (parts_at hs.v hc hS'.lt hS'.cellV)
  rw [text_one] at h
  rw [hF]
  exact h)
 have HFF:=veil (hF.trans (macD_nb _ _ _ _))
 have HS:=veil hS
 have hoF : ∀ v ∈ F.toList,v.oneCell' = true:=fun v hv => (Array.all_eq_true_iff_forall_mem.1 HF.out.2.1) v (by simpa using hv)
 have hiF : (Tryd.prog.info? 38).map (·.size) = some F.toList.length:=by rw [Array.length_toList]; exact HF.out.2.2
 have hS0 : Bt g 119 64 w w:=.of hS (But.refl _ _)
 have hlt:=hS.lt
 clear hF hs hK hS
 go_enter Tryd.func81,Tryd.ntmps81
 go_region_held3 (fun w' => Bt g 119 64 w w')
  (first
   | with_reducible assumption
   | exact hS0
   | exact hS0.drew
   | exact hS0.alloc _
   | exact (hS0.alloc _).drew
   | exact Bt.drew (by with_reducible assumption)
   | exact Bt.setCells (by with_reducible assumption) _ _
   | exact Bt.call (by with_reducible assumption) (by assumption))
  (first
   | (go_at_call 95; refine (HM.out _ w.heap.size ((Below.refl _ _).alloc (Nat.le_refl _) _).drew (by rw [World.cell?_drew,World.cell?_alloc_mark]; rfl)).mono ?_; rintro e w' ⟨rfl,hb'⟩; have hN':=veil (HS.out.call (((Below.refl _ _).alloc (Nat.le_refl _) _).drew.trans (hb'.mono (by simp [World.drew])))); have hth:=there_mid (o:=32) (m:=F.toList.length) hN'.out (by rw [Array.length_toList,HF.out.1]; decide)))
 rename (Bt _ _ _ _ _) => hHeld
 clear hoF hiF hS0 hth
 go_wp2
 go_end0
 exact ⟨rfl,hN'.out.putV HFF.out,hHeld.1⟩
def pL (L : Nat → Nat) (r : Nat) : Nat:=if r = 0 then 32 else if r = 1 then 1 else L (r - 2)
def pY (v : Nat → Nat) (b : Nat) (Y : Nat → Nat → Nat) (r : Nat) : Nat → Nat:=if r = 0 then v else if r = 1 then cat (fun _ => b) 1 none0 else Y (r - 2)
theorem textN_two (v : Nat → Nat) (b : Nat) (L : Nat → Nat) (Y : Nat → Nat → Nat) (n : Nat) :
  textN (pL L) (pY v b Y) (2 + n) = tx v b (textN L Y n) ∧ lenN (pL L) (2 + n) = 33 + lenN L n:=by
 induction n with
 | zero =>
  refine ⟨?_,rfl⟩
  show cat (cat (fun _ => 0) 0 v) 32 (cat (fun _ => b) 1 none0) = cat v 32 (cat (fun _ => b) 1 none0)
  rw [zgc]
 | succ n ih =>
  obtain ⟨h1,h2⟩:=ih
  have e : 2 + (n + 1) = (2 + n) + 1:=by omega
  have e2 : pY v b Y (2 + n) = Y n:=by
   unfold pY
   rw [if_neg (by omega),if_neg (by omega),show 2 + n - 2 = n by omega]
  have e3 : pL L (2 + n) = L n:=by
   unfold pL
   rw [if_neg (by omega),if_neg (by omega),show 2 + n - 2 = n by omega]
  rw [e]
  refine ⟨?_,?_⟩
  ·
   show cat (textN _ _ (2 + n)) (lenN _ (2 + n)) (pY v b Y (2 + n)) = tx v b (cat (textN L Y n) (lenN L n) (Y n))
   rw [h1,h2,e2]
   unfold tx
   rw [show 33 + lenN L n = 32 + (1 + lenN L n) by omega,cat_assoc,cat_assoc]
  ·
   show lenN _ (2 + n) + pL L (2 + n) = 33 + (lenN L n + L n)
   rw [h2,e3]
   omega
theorem infoS3 : (Tryd.prog.info? 27).map (fun i => (i.zero,i.size,i.bytes)) = some (some (.slice none 0 0),1,24):=by kernel_rfl
theorem parts_two {W : World} {g g1 g3 b : Nat} {s : KV} (hs : s.Ok) (hb : b < 256) {np : Nat} {AL : Option Addr} {A : Nat → Option Addr} {L C : Nat → Nat} {Y : Nat → Nat → Nat} (hS : SRow W g s) (hP : Parts3 W AL np A L C Y)
  (h1 : W.cell? ⟨g1,0,none⟩ = some (.int .u8 (b : Int)))
  (h3 : Pre W g3 27 (2 + np) (fun j => if j < 2 then (if j = 0 then .slice (some ⟨g,32,none⟩) 32 32 else .slice (some ⟨g1,0,none⟩) 1 1) else .slice (A (j - 2)) (L (j - 2)) (C (j - 2)))) :
  Parts3 W (some ⟨g3,0,none⟩) (2 + np) (fun r => if r = 0 then some ⟨g,32,none⟩ else if r = 1 then some ⟨g1,0,none⟩ else A (r - 2)) (pL L) (pL C) (pY s.v b Y) where
 row:=.inr ⟨g3,0,rfl,h3.lt,fun r hr => by
  rw [Nat.zero_add,h3.cell hr]
  unfold pL
  by_cases e0 : r = 0
  ·
   subst e0; rfl
  ·
   by_cases e1 : r = 1
   ·
    subst e1; rfl
   ·
    simp only [e0,e1,if_false,show ¬ r < 2 by omega]⟩
 src:=fun r hr => by
  unfold pL pY
  by_cases e0 : r = 0
  ·
   subst e0; exact hS.val
  ·
   by_cases e1 : r = 1
   ·
    subst e1
    exact .inr ⟨g1,0,rfl,World.block_lt_of_cell? W _ h1,Nat.ne_of_lt (World.block_lt_of_cell? W _ h1),fun j hj => by
     have hj' : j < 1:=hj
     obtain rfl : j = 0:=by omega
     exact h1⟩
   ·
    simp only [e0,e1,if_false]
    exact hP.src (r - 2) (by omega)
 cap:=fun r hr => by
  unfold pL
  by_cases e0 : r = 0
  ·
   subst e0; exact Nat.le_refl _
  ·
   by_cases e1 : r = 1
   ·
    subst e1; exact Nat.le_refl _
   ·
    simp only [e0,e1,if_false]
    exact hP.cap (r - 2) (by omega)
 lt:=fun r j => by
  unfold pY
  split
  ·
   exact hs.v j
  ·
   split
   ·
    exact cat_lt (fun _ => hb) (fun _ => by show (0 : Nat) < 256; decide) j
   ·
    exact hP.lt _ j
theorem nmix_calls (g : Nat) (hg : g ≠ 0) (s : KV) (hs : s.Ok) (b : Nat) (hb : b < 256) (AL : Option Addr) (np cl : Nat) (A : Nat → Option Addr) (L C : Nat → Nat) (Y : Nat → Nat → Nat) (hnp : np ≤ 2) (hT : lenN L np ≤ 1000)
  (w : World) (hK : KT w) (hS : SRow w g s) (hP : Parts3 w AL np A L C Y) :
  Calls Tryd.prog 80 #[.pointer (some ⟨g,0,none⟩),.int .u8 (b : Int),.slice AL np cl] w fun e w' => e = .returned (.tuple #[]) ∧ SRow w' g (s.mix b (textN L Y np) (lenN L np)) ∧ But g w w':=by
 obtain ⟨i8,hi8,hz0,hz1,hz2⟩:=info_parts infoS3
 have HI:=veil (And.intro hi8 (And.intro hz0 (And.intro hz1 hz2)))
 clear hi8 hz0 hz1 hz2
 have HK:=veil hK
 have HS:=veil hS
 have HP:=veil hP
 have HT:=veil (And.intro hnp hT)
 have HB:=veil (And.intro hs hb)
 have HG:=veil hg
 clear hK hS hP hnp hT hs hb hg
 have hz1 : (w.alloc (.cells #[.int .u8 (b : Int)] 5)).heap.size = w.heap.size + 1:=by simp
 have hO:=Own.made (base:=w.heap.size) (e:=27) (f:=fun j => if j = 0 then .slice (some ⟨g,32,none⟩) 32 32 else .slice (some ⟨w.heap.size,0,none⟩) 1 1) (w.alloc (.cells #[.int .u8 (b : Int)] 5))
  (cs:=#[.slice (some ⟨g,32,none⟩) 32 32,.slice (some ⟨w.heap.size,0,none⟩) 1 1]) (by rw [hz1]; omega) (by show 2 ≤ maxLen; decide) (fun i hi => by
   have : i < 2:=hi
   obtain rfl | rfl : i = 0 ∨ i = 1:=by omega
   ·
    rfl
   ·
    rfl)
 rw [hz1] at hO
 have hb2 : Below w.heap.size w ((w.alloc (.cells #[.int .u8 (b : Int)] 5)).alloc (.cells #[.slice (some ⟨g,32,none⟩) 32 32,.slice (some ⟨w.heap.size,0,none⟩) 1 1] 27)):=((Below.refl _ _).alloc (Nat.le_refl _) _).alloc (by rw [hz1]; omega) _
 have hF : From ((w.alloc (.cells #[.int .u8 (b : Int)] 5)).alloc (.cells #[.slice (some ⟨g,32,none⟩) 32 32,.slice (some ⟨w.heap.size,0,none⟩) 1 1] 27)) AL np (fun j => .slice (A j) (L j) (C j)):=by
  rcases HP.out.row with h | ⟨bb,o,h,hlt,hc⟩
  ·
   exact .inl h
  ·
   exact .inr ⟨_,h,fun j hj => by rw [Addr.add_mid]; exact (hb2.cell (p:=⟨bb,o + j,none⟩) hlt).trans (hc j hj)⟩
 have hm : ((w.alloc (.cells #[.int .u8 (b : Int)] 5)).alloc (.cells #[.slice (some ⟨g,32,none⟩) 32 32,.slice (some ⟨w.heap.size,0,none⟩) 1 1] 27)).heap[w.heap.size]? = some (.cells #[.int .u8 (b : Int)] 5 (0,0)):=(Below.heap_alloc _ _ _ (by rw [hz1]; omega)).trans (heap_alloc_last w _)
 have HO:=veil (And.intro hO (And.intro hF (And.intro hb2 hm)))
 clear hO hF hb2 hm hz1
 go_enter Tryd.func80,Tryd.ntmps80
 go_upto_region 1 with (at_builtin; refine zdg _ rfl _ _ _ rfl w.heap.size 27 i8 (.slice none 0 0) 24 Tryd.underlying84 HI.out.1 HI.out.2.1 HI.out.2.2.1 HI.out.2.2.2 rfl _ 2 _ rfl HO.out.1 AL np cl rfl (fun j => .slice (A j) (L j) (C j)) HO.out.2.1 (fun _ => rfl) (by have:=HT.out.1; unfold maxLen; omega) (by have:=HT.out.1; omega) (by simp; omega) ?_; intro v3 w3 hO3 hg3 ha3)
 replace hg3 : World.grownBy _ w3 (some (w.heap.size + 1)):=hg3
 have hb3 : Below w.heap.size w w3:=zec HO.out.2.2.1 hg3 (by simp; omega) (fun k e => by injection e; omega)
 have hm3 : w3.cell? ⟨w.heap.size,0,none⟩ = some (.int .u8 (b : Int)):=by
  rw [cell_of_row w3 _ 0 #[.int .u8 (b : Int)] 5 (0,0) ((hg3.block w.heap.size (by simp; omega) (by intro e; injection e; omega)).trans HO.out.2.2.2)]; rfl
 obtain ⟨g3,cap,rfl,hc3,hbg3,hp3⟩:=hO3.pre (by omega)
 have hP3:=parts_two HB.out.1 HB.out.2 (HS.out.call hb3) (HP.out.call hb3) hm3 hp3
 obtain ⟨F,hF⟩ : ∃ F,F = macD s.k 32 (tx s.v b (textN L Y np)) (33 + lenN L np):=⟨_,rfl⟩
 have HF:=veil (show F.size = 32 ∧ F.all (·.oneCell') = true ∧ (Tryd.prog.info? 38).map (·.size) = some F.size from by
  rw [hF]; exact ⟨zch _ _,zca fun _ _ => rfl,by show _ = some (dgst _ _).size; rw [zch]; exact infoD⟩)
 have hM:=ofmac_calls (some ⟨g,0,none⟩) 32 32 s.k HB.out.1.k (by decide) (by decide) (some ⟨g3,0,none⟩) (2 + np) cap _ _ _ _ (by have:=HT.out.1; omega) (by rw [(textN_two s.v b L Y np).2]; have:=HT.out.2; omega) w3 (HK.out.call hb3) (HS.out.call hb3).key hP3
 rw [(textN_two s.v b L Y np).1,(textN_two s.v b L Y np).2,← hF] at hM
 have HM:=veil hM
 have HFF:=veil (hF.trans (macD_nb _ _ _ _))
 have H3:=veil (And.intro (HS.out.call hb3) hb3)
 clear hF hM hP3 hp3 hm3 hb3 hO3 hg3 ha3 hc3 hbg3 HO HI HP HT
 go_upto_region 2 with (first
  | (go_at_call 95; refine HM.out.mono ?_; rintro e w4 ⟨rfl,hb4⟩)
  | ((with_reducible refine zck ?_); refine wpList_store_mid rfl 38 _ _ rfl g 0 F rfl rfl (there_mid (o:=0) (H3.out.1.call hb4) (by rw [HF.out.1]; decide)) HF.out.2.2 HF.out.2.1 ?_))
 have hS5:=(H3.out.1.call hb4).putK HFF.out
 have hB5 : But g w (w4.setCells g 0 F.toList):=But.setCells _ _ _ (But.of_below (H3.out.2.trans (hb4.mono H3.out.2.size)))
 generalize w4.setCells g 0 F.toList = w5 at *
 have HQ:=veil (step_calls g (⟨nb s.k 32 (tx s.v b (textN L Y np)) (33 + lenN L np),s.v⟩ : KV) ⟨fun j => nb_lt _ _ _ _ j,HB.out.1.v⟩ w5 (HK.out.grown hB5 (Ne.symm HG.out)) hS5)
 have H5:=veil hB5
 clear hS5 hB5 hb4 H3 HM HF HFF
 go_wp2_with fail
 refine HQ.out.mono ?_
 rintro e w6 ⟨rfl,hS6,hB6⟩
 have H6:=veil (And.intro hS6 (H5.out.trans hB6))
 clear hS6 hB6 H5 HQ
 go_wp2
 go_end0
 exact ⟨rfl,H6.out.1,H6.out.2⟩
end Go.Proofs.YtmfjigcdhijkjaaDoor
namespace Go.Proofs.YtmfjigcdhijkjaaDoor
theorem shaSt_same {b b' : Nat → Nat} {n : Nat} (h : ∀ i,i < n → b i = b' i) : shaSt b n = shaSt b' n:=by
 unfold shaSt
 refine zey _ fun i _ => ?_
 unfold padded
 by_cases c : i < n
 ·
  rw [if_pos c,if_pos c,h i c]
 ·
  rw [if_neg c,if_neg c]
def sumL (l : List Nat) (n : Nat) : List Nat:=(List.range 32).map fun i => dByte (shaSt (fun j => l.getD j 0) n) i
theorem sumL_at (l : List Nat) (n : Nat) {j : Nat} (hj : j < 32) : (sumL l n).getD j 0 = dByte (shaSt (fun j => l.getD j 0) n) j:=by simp [sumL,List.getD,hj]
structure MacL (kL tL iL jL oL rL : List Nat) (m : Nat) : Prop where
 i : ((List.range 64).map fun j => kL.getD j 0 ^^^ 54) ++ tL = iL
 j : sumL iL (64 + m) = jL
 o : ((List.range 64).map fun j => kL.getD j 0 ^^^ 92) ++ jL = oL
 r : sumL oL 96 = rL
theorem kb_lit {k : Nat → Nat} {kL : List Nat} (hl : kL.length = 32) (hk : ∀ j,j < 32 → k j = kL.getD j 0) (j : Nat) (hj : j < 64) : kb k 32 j = kL.getD j 0:=by
 unfold kb
 rw [if_neg (by decide)]
 unfold upTo
 split
 ·
  exact hk j (by assumption)
 ·
  rw [List.getD_eq_getElem?_getD,List.getElem?_eq_none (by omega)]; rfl
theorem app_lit {l : List Nat} {x : Nat → Nat} {k : Nat → Nat} {c n m : Nat} (f : Nat → Nat) (hf : ∀ j,j < c → x j = f j) (hk : ∀ j,j < m → k j = l.getD j 0) (hn : n = c + m) : ∀ j,j < n → cat x c k j = (((List.range c).map f) ++ l).getD j 0:=fun j hj => by
 unfold cat
 by_cases h : j < c
 ·
  rw [if_pos h,hf j h,List.getD_eq_getElem?_getD,List.getElem?_append_left (by simpa using h)]
  simp [h]
 ·
  rw [if_neg h,hk _ (by omega),List.getD_eq_getElem?_getD,List.getD_eq_getElem?_getD,List.getElem?_append_right (by simpa using Nat.le_of_not_lt h)]
  simp
theorem nb_lit {k t : Nat → Nat} {m : Nat} {kL tL iL jL oL rL : List Nat} (hl : kL.length = 32) (hk : ∀ j,j < 32 → k j = kL.getD j 0) (ht : ∀ j,j < m → t j = tL.getD j 0) (h : MacL kL tL iL jL oL rL m) : ∀ j,j < 32 → nb k 32 t m j = rL.getD j 0:=fun j hj => by
 have h1 : ∀ i,i < 64 + m → macIn k 32 t i = iL.getD i 0:=fun i hi => by
  rw [← h.i]
  exact app_lit _ (fun j hj => by rw [kb_lit hl hk j hj]) ht rfl i hi
 have h2 : ∀ i,i < 32 → dByte (shaSt (macIn k 32 t) (64 + m)) i = jL.getD i 0:=fun i hi => by
  rw [shaSt_same h1,← h.j,sumL_at _ _ hi]
 have h3 : ∀ i,i < 96 → macOut k 32 t m i = oL.getD i 0:=fun i hi => by
  rw [← h.o]
  exact app_lit _ (fun j hj => by rw [kb_lit hl hk j hj]) h2 rfl i hi
 unfold nb
 rw [shaSt_same h3,← h.r,sumL_at _ _ hj]
theorem tx_lit {v t : Nat → Nat} {m b : Nat} {vL tL : List Nat} (hl : vL.length = 32) (hv : ∀ j,j < 32 → v j = vL.getD j 0) (ht : ∀ j,j < m → t j = tL.getD j 0) : ∀ j,j < 33 + m → tx v b t j = (vL ++ b :: tL).getD j 0:=fun j hj => by
 unfold tx cat
 by_cases h : j < 32
 ·
  rw [if_pos h,hv j h,List.getD_eq_getElem?_getD,List.getD_eq_getElem?_getD,List.getElem?_append_left (by omega)]
 ·
  rw [if_neg h,List.getD_eq_getElem?_getD,List.getElem?_append_right (by omega),hl]
  by_cases h2 : j - 32 < 1
  ·
   rw [if_pos h2,show j - 32 = 0 by omega]; rfl
  ·
   rw [if_neg h2,ht _ (by omega),List.getD_eq_getElem?_getD,show j - 32 = (j - 32 - 1) + 1 by omega]; simp
structure KVL (s : KV) (kL vL : List Nat) : Prop where
 k : ∀ j,j < 32 → s.k j = kL.getD j 0
 v : ∀ j,j < 32 → s.v j = vL.getD j 0
 kl : kL.length = 32
 vl : vL.length = 32
theorem KVL.mix {s : KV} {kL vL k2 v2 tL a b c d e f : List Nat} {t : Nat → Nat} {m x : Nat} (h : KVL s kL vL) (ht : ∀ j,j < m → t j = tL.getD j 0) (h1 : MacL kL (vL ++ x :: tL) a b c k2 (33 + m)) (h2 : MacL k2 vL d e f v2 32) : KVL (s.mix x t m) k2 v2:=by
 have hk : ∀ j,j < 32 → nb s.k 32 (tx s.v x t) (33 + m) j = k2.getD j 0:=nb_lit h.kl h.k (tx_lit h.vl h.v ht) h1
 have hkl : k2.length = 32:=by rw [← h1.r]; simp [sumL]
 exact ⟨hk,nb_lit hkl hk h.v h2,hkl,by rw [← h2.r]; simp [sumL]⟩
def exK0 : List Nat:=[0,0,0,0,0,0,0,0,0,0,0,0,0,0,0,0,0,0,0,0,0,0,0,0,0,0,0,0,0,0,0,0]
def exV0 : List Nat:=[1,1,1,1,1,1,1,1,1,1,1,1,1,1,1,1,1,1,1,1,1,1,1,1,1,1,1,1,1,1,1,1]
def exT : List Nat:=[201,175,169,216,69,186,117,22,107,92,33,87,103,177,214,147,78,80,195,219,54,232,155,18,123,138,98,43,18,15,103,33,175,43,219,225,170,155,110,193,226,173,225,214,148,244,31,199,26,131,29,2,104,233,137,21,98,17,61,138,98,173,209,191]
def exK1I : List Nat:=[54,54,54,54,54,54,54,54,54,54,54,54,54,54,54,54,54,54,54,54,54,54,54,54,54,54,54,54,54,54,54,54,54,54,54,54,54,54,54,54,54,54,54,54,54,54,54,54,54,54,54,54,54,54,54,54,54,54,54,54,54,54,54,54,1,1,1,1,1,1,1,1,1,1,1,1,1,1,1,1,1,1,1,1,1,1,1,1,1,1,1,1,1,1,1,1,0,201,175,169,216,69,186,117,22,107,92,33,87,103,177,214,147,78,80,195,219,54,232,155,18,123,138,98,43,18,15,103,33,175,43,219,225,170,155,110,193,226,173,225,214,148,244,31,199,26,131,29,2,104,233,137,21,98,17,61,138,98,173,209,191]
def exK1J : List Nat:=[125,230,0,215,33,227,144,105,112,79,21,150,126,237,140,79,30,0,233,186,253,177,107,176,159,35,154,203,177,114,169,7]
def exK1O : List Nat:=[92,92,92,92,92,92,92,92,92,92,92,92,92,92,92,92,92,92,92,92,92,92,92,92,92,92,92,92,92,92,92,92,92,92,92,92,92,92,92,92,92,92,92,92,92,92,92,92,92,92,92,92,92,92,92,92,92,92,92,92,92,92,92,92,125,230,0,215,33,227,144,105,112,79,21,150,126,237,140,79,30,0,233,186,253,177,107,176,159,35,154,203,177,114,169,7]
def exK1 : List Nat:=[18,45,177,222,152,218,228,223,163,63,45,168,233,132,148,200,11,255,128,123,71,159,215,146,97,179,126,37,242,103,238,88]
theorem exK1_mac : MacL exK0 (exV0 ++ 0 :: exT) exK1I exK1J exK1O exK1 97:=⟨by decide +kernel,by decide +kernel,by decide +kernel,by decide +kernel⟩
def exV1I : List Nat:=[36,27,135,232,174,236,210,233,149,9,27,158,223,178,162,254,61,201,182,77,113,169,225,164,87,133,72,19,196,81,216,110,54,54,54,54,54,54,54,54,54,54,54,54,54,54,54,54,54,54,54,54,54,54,54,54,54,54,54,54,54,54,54,54,1,1,1,1,1,1,1,1,1,1,1,1,1,1,1,1,1,1,1,1,1,1,1,1,1,1,1,1,1,1,1,1]
def exV1J : List Nat:=[88,16,220,226,184,65,116,76,208,1,60,178,211,216,27,220,151,159,225,50,22,231,99,163,96,8,16,198,57,219,248,69]
def exV1O : List Nat:=[78,113,237,130,196,134,184,131,255,99,113,244,181,216,200,148,87,163,220,39,27,195,139,206,61,239,34,121,174,59,178,4,92,92,92,92,92,92,92,92,92,92,92,92,92,92,92,92,92,92,92,92,92,92,92,92,92,92,92,92,92,92,92,92,88,16,220,226,184,65,116,76,208,1,60,178,211,216,27,220,151,159,225,50,22,231,99,163,96,8,16,198,57,219,248,69]
def exV1 : List Nat:=[201,148,120,3,167,71,252,96,194,53,53,253,204,19,181,202,86,107,72,34,28,166,125,73,100,210,45,170,72,39,88,68]
theorem exV1_mac : MacL exK1 (exV0) exV1I exV1J exV1O exV1 32:=⟨by decide +kernel,by decide +kernel,by decide +kernel,by decide +kernel⟩
def exK2I : List Nat:=[36,27,135,232,174,236,210,233,149,9,27,158,223,178,162,254,61,201,182,77,113,169,225,164,87,133,72,19,196,81,216,110,54,54,54,54,54,54,54,54,54,54,54,54,54,54,54,54,54,54,54,54,54,54,54,54,54,54,54,54,54,54,54,54,201,148,120,3,167,71,252,96,194,53,53,253,204,19,181,202,86,107,72,34,28,166,125,73,100,210,45,170,72,39,88,68,1,201,175,169,216,69,186,117,22,107,92,33,87,103,177,214,147,78,80,195,219,54,232,155,18,123,138,98,43,18,15,103,33,175,43,219,225,170,155,110,193,226,173,225,214,148,244,31,199,26,131,29,2,104,233,137,21,98,17,61,138,98,173,209,191]
def exK2J : List Nat:=[43,67,202,155,90,142,168,8,18,251,105,237,111,46,85,127,104,211,127,224,43,64,199,25,19,107,218,227,92,85,110,155]
def exK2O : List Nat:=[78,113,237,130,196,134,184,131,255,99,113,244,181,216,200,148,87,163,220,39,27,195,139,206,61,239,34,121,174,59,178,4,92,92,92,92,92,92,92,92,92,92,92,92,92,92,92,92,92,92,92,92,92,92,92,92,92,92,92,92,92,92,92,92,43,67,202,155,90,142,168,8,18,251,105,237,111,46,85,127,104,211,127,224,43,64,199,25,19,107,218,227,92,85,110,155]
def exK2 : List Nat:=[182,212,249,142,186,231,10,161,90,34,56,173,228,226,10,179,35,252,30,119,125,34,240,197,130,216,239,46,107,167,53,105]
theorem exK2_mac : MacL exK1 (exV1 ++ 1 :: exT) exK2I exK2J exK2O exK2 97:=⟨by decide +kernel,by decide +kernel,by decide +kernel,by decide +kernel⟩
def exV2I : List Nat:=[128,226,207,184,140,209,60,151,108,20,14,155,210,212,60,133,21,202,40,65,75,20,198,243,180,238,217,24,93,145,3,95,54,54,54,54,54,54,54,54,54,54,54,54,54,54,54,54,54,54,54,54,54,54,54,54,54,54,54,54,54,54,54,54,201,148,120,3,167,71,252,96,194,53,53,253,204,19,181,202,86,107,72,34,28,166,125,73,100,210,45,170,72,39,88,68]
def exV2J : List Nat:=[184,206,113,35,205,184,19,154,104,15,34,43,43,131,243,74,55,231,233,175,227,20,244,122,220,1,223,228,146,77,213,5]
def exV2O : List Nat:=[234,136,165,210,230,187,86,253,6,126,100,241,184,190,86,239,127,160,66,43,33,126,172,153,222,132,179,114,55,251,105,53,92,92,92,92,92,92,92,92,92,92,92,92,92,92,92,92,92,92,92,92,92,92,92,92,92,92,92,92,92,92,92,92,184,206,113,35,205,184,19,154,104,15,34,43,43,131,243,74,55,231,233,175,227,20,244,122,220,1,223,228,146,77,213,5]
def exV2 : List Nat:=[186,229,127,226,86,222,45,232,6,177,6,53,73,114,55,231,186,233,103,84,88,37,102,56,76,71,198,195,65,100,148,209]
theorem exV2_mac : MacL exK2 (exV1) exV2I exV2J exV2O exV2 32:=⟨by decide +kernel,by decide +kernel,by decide +kernel,by decide +kernel⟩
def exV3I : List Nat:=[128,226,207,184,140,209,60,151,108,20,14,155,210,212,60,133,21,202,40,65,75,20,198,243,180,238,217,24,93,145,3,95,54,54,54,54,54,54,54,54,54,54,54,54,54,54,54,54,54,54,54,54,54,54,54,54,54,54,54,54,54,54,54,54,186,229,127,226,86,222,45,232,6,177,6,53,73,114,55,231,186,233,103,84,88,37,102,56,76,71,198,195,65,100,148,209]
def exV3J : List Nat:=[220,7,25,109,50,98,156,228,4,109,141,115,212,90,239,255,19,109,209,10,88,242,183,100,111,68,181,82,25,151,55,12]
def exV3O : List Nat:=[234,136,165,210,230,187,86,253,6,126,100,241,184,190,86,239,127,160,66,43,33,126,172,153,222,132,179,114,55,251,105,53,92,92,92,92,92,92,92,92,92,92,92,92,92,92,92,92,92,92,92,92,92,92,92,92,92,92,92,92,92,92,92,92,220,7,25,109,50,98,156,228,4,109,141,115,212,90,239,255,19,109,209,10,88,242,183,100,111,68,181,82,25,151,55,12]
def exV3 : List Nat:=[166,227,197,125,208,26,190,144,8,101,56,57,131,85,221,76,59,23,170,135,51,130,176,242,77,97,41,73,61,138,173,96]
theorem exV3_mac : MacL exK2 (exV2) exV3I exV3J exV3O exV3 32:=⟨by decide +kernel,by decide +kernel,by decide +kernel,by decide +kernel⟩
def exD : Nat:=0xc9afa9d845ba75166b5c215767b1d6934e50c3db36e89b127b8a622b120f6721
def exM : Nat:=0xaf2bdbe1aa9b6ec1e2ade1d694f41fc71a831d0268e9891562113d8a62add1bf
def exX : Nat:=0xa6e3c57dd01abe90086538398355dd4c3b17aa873382b0f24d6129493d8aad60
def smpL : List Nat:=[115,97,109,112,108,101]
def smp : Nat → Nat:=fun j => smpL.getD j 0
def exH : Nat → Nat:=fun j => dByte (shaSt smp 6) j
def exHL : List Nat:=[175,43,219,225,170,155,110,193,226,173,225,214,148,244,31,199,26,131,29,2,104,233,137,21,98,17,61,138,98,173,209,191]
theorem exH_lt (j : Nat) : exH j < 256:=zhi _ j
theorem exH_lit : ∀ j,j < 32 → exH j = exHL.getD j 0:=fun j hj => by
 have h : sumL smpL 6 = exHL:=by decide +kernel
 rw [← h,sumL_at _ _ hj]; rfl
theorem zgm {y y' : Nat → Nat} (h : ∀ j,j < 32 → y j = y' j) : num32 y = num32 y':=by
 unfold num32
 have : ∀ n,n ≤ 32 → lev (fun k => y (32 - 1 - k)) n = lev (fun k => y' (32 - 1 - k)) n:=by
  intro n
  induction n with
  | zero => intro _; rfl
  | succ n ih =>
   intro hn
   show lev _ n + _ = lev _ n + _
   rw [ih (by omega),show (fun k => y (32 - 1 - k)) n = (fun k => y' (32 - 1 - k)) n from h (32 - 1 - n) (by omega)]
 exact this 32 (Nat.le_refl _)
theorem ex_mod : num32 exH % Pt.nn = exM:=by
 rw [zgm exH_lit]
 decide +kernel
theorem ex_two : ∀ j,j < 64 → two exD exM j = exT.getD j 0:=by
 have h : (List.range 64).all (fun j => two exD exM j == exT.getD j 0) = true:=by decide +kernel
 exact fun j hj => eq_of_beq (List.all_eq_true.1 h j (by simpa using hj))
theorem ex_kv0 : KVL kv0 exK0 exV0:=by
 have h : (List.range 32).all (fun j => exK0.getD j 0 == 0 && exV0.getD j 0 == 1) = true:=by decide +kernel
 refine ⟨fun j hj => ?_,fun j hj => ?_,rfl,rfl⟩
 ·
  have:=List.all_eq_true.1 h j (by simpa using hj)
  simp only [Bool.and_eq_true,beq_iff_eq] at this
  exact this.1.symm
 ·
  have:=List.all_eq_true.1 h j (by simpa using hj)
  simp only [Bool.and_eq_true,beq_iff_eq] at this
  exact this.2.symm
theorem ex_kvS : KVL (kvS exD exM) exK2 exV2:=(ex_kv0.mix ex_two exK1_mac exV1_mac).mix ex_two exK2_mac exV2_mac
theorem ex_num : numN exD exM 0 = exX:=by
 show num32 (nb (kvS exD exM).k 32 (kvS exD exM).v 32) = _
 rw [zgm (nb_lit ex_kvS.kl ex_kvS.k ex_kvS.v exV3_mac)]
 decide +kernel
theorem ex_may : mayB exX = true:=by decide +kernel
theorem ex_mayD : mayB exD = true:=by decide +kernel
theorem ex_out : outN exD exM 1 = [exX]:=by
 show (if mayB (numN exD exM 0) = true then [] ++ [numN exD exM 0] else []) = _
 rw [ex_num,if_pos ex_may]; rfl
theorem ex_words : wd exD 0 = 8902035550577321761 ∧ wd exD 1 = 5643225679381699346 ∧ wd exD 2 = 7736094919201248915 ∧ wd exD 3 = 14533021268895757590:=by decide +kernel
end Go.Proofs.YtmfjigcdhijkjaaDoor
namespace Go.Proofs.YtmfjigcdhijkjaaDoor
theorem KVL.step {s : KV} {kL vL v1 a b c : List Nat} (h : KVL s kL vL) (h1 : MacL kL vL a b c v1 32) : KVL s.step kL v1 :=
 ⟨h.k,nb_lit h.kl h.k h.v h1,h.kl,by rw [← h1.r]; simp [sumL]⟩
theorem KVL.next {s : KV} {kL vL v1 k2 v2 a b c a2 b2 c2 a3 b3 c3 : List Nat} (h : KVL s kL vL) (h1 : MacL kL vL a b c v1 32) (h2 : MacL kL (v1 ++ 0 :: []) a2 b2 c2 k2 33) (h3 : MacL k2 v1 a3 b3 c3 v2 32) : KVL s.next k2 v2 :=
 (h.step h1).mix (t:=none0) (m:=0) (tL:=[]) (fun j hj => by omega) h2 h3
def fK0 : List Nat:=[182,212,249,142,186,231,10,161,90,34,56,173,228,226,10,179,35,252,30,119,125,34,240,197,130,216,239,46,107,167,53,105]
def fV0 : List Nat:=[186,229,127,226,86,222,45,232,6,177,6,53,73,114,55,231,186,233,103,84,88,37,102,56,76,71,198,195,65,100,148,209]
def fK1 : List Nat:=[5,255,120,171,204,74,213,112,214,35,246,96,21,19,60,166,37,137,207,96,62,122,203,246,173,187,251,171,155,153,43,213]
def fV1 : List Nat:=[71,57,202,239,199,194,204,141,220,223,227,63,194,183,250,126,17,23,226,234,40,151,67,115,169,169,31,150,34,109,67,216]
def fK2 : List Nat:=[39,126,217,228,138,185,238,61,12,73,21,126,31,97,206,51,105,0,165,100,226,112,54,130,39,157,142,222,234,185,152,180]
def fV2 : List Nat:=[206,6,113,23,3,255,116,84,91,193,142,38,83,219,137,97,41,202,155,101,11,78,182,113,197,187,139,86,143,94,161,64]
def fK3 : List Nat:=[113,182,232,71,38,136,22,217,27,215,252,77,157,150,231,19,235,32,54,229,28,223,210,26,165,8,97,123,21,203,36,87]
def fV3 : List Nat:=[15,172,7,65,221,150,125,224,83,250,144,145,245,239,191,138,143,231,211,95,68,9,194,183,118,100,126,181,117,252,77,214]
def fK4 : List Nat:=[170,234,211,117,255,167,71,128,82,106,229,125,112,235,141,189,239,194,7,235,245,198,125,20,11,114,38,184,240,7,56,18]
def fV4 : List Nat:=[76,60,103,92,159,69,180,224,190,144,4,234,79,2,33,32,180,60,165,235,184,125,179,148,102,241,108,153,133,131,10,235]
def fK5 : List Nat:=[238,123,184,197,194,198,219,13,27,217,87,20,245,160,247,165,176,207,90,166,81,107,139,92,138,104,242,150,173,84,228,93]
def fV5 : List Nat:=[137,44,136,1,70,193,225,24,168,80,220,117,133,29,213,167,228,164,88,65,127,228,75,6,220,3,32,159,149,26,16,143]
def fK6 : List Nat:=[8,91,201,18,159,128,77,206,197,18,158,181,57,29,47,154,46,106,179,54,96,168,132,181,57,89,59,169,231,228,149,86]
def fV6 : List Nat:=[201,91,193,240,229,76,111,111,238,154,184,233,227,66,185,14,89,42,172,64,25,160,209,224,41,128,103,183,162,223,210,203]
def fK7 : List Nat:=[68,255,254,19,135,44,131,238,90,54,115,175,181,174,145,196,23,50,24,203,20,149,5,59,54,67,167,49,56,98,21,198]
def fV7 : List Nat:=[158,186,88,224,74,17,156,194,170,5,233,22,116,154,72,237,46,146,118,165,56,23,230,74,146,255,47,49,128,140,40,157]
def fK8 : List Nat:=[127,196,86,152,18,222,14,103,63,87,146,150,112,63,224,147,204,210,219,72,37,56,242,77,8,50,73,102,212,185,96,127]
def fV8 : List Nat:=[141,191,108,229,63,250,117,232,41,186,92,14,115,82,203,192,45,134,177,147,52,243,255,212,60,1,84,209,141,53,103,165]
def fK9 : List Nat:=[136,201,228,3,118,40,108,22,177,240,178,52,242,193,243,165,136,170,1,1,92,183,201,14,158,166,94,42,118,3,253,63]
def fV9 : List Nat:=[201,27,191,69,242,28,189,115,237,223,175,182,164,22,247,248,2,135,27,23,29,174,162,67,84,76,85,251,32,29,242,127]
def fK10 : List Nat:=[7,8,25,25,174,234,36,51,200,150,207,160,77,214,159,83,99,82,9,37,183,99,59,239,51,111,184,93,184,177,174,144]
def fV10 : List Nat:=[31,150,27,29,196,180,13,87,31,184,237,105,104,7,6,57,1,61,245,11,87,22,109,28,61,120,145,212,118,211,244,114]
def fK11 : List Nat:=[241,122,160,144,173,179,129,86,246,146,245,37,228,203,185,212,164,152,242,3,182,4,197,89,61,170,187,96,9,153,64,223]
def fV11 : List Nat:=[3,1,187,86,138,56,57,193,214,139,110,181,208,202,113,71,59,171,211,97,183,190,229,202,57,45,101,164,242,223,55,63]
def fK12 : List Nat:=[157,128,122,92,116,13,175,10,176,91,239,191,157,71,245,129,231,164,36,40,7,205,40,250,174,131,237,7,17,83,41,251]
def fV12 : List Nat:=[34,101,76,176,41,125,102,173,146,10,207,91,195,194,203,179,187,232,37,10,232,0,128,110,84,104,26,165,239,119,238,154]
def fK13 : List Nat:=[21,208,128,155,174,200,174,210,80,192,92,72,242,232,54,19,167,215,214,132,227,23,145,125,152,158,164,201,15,178,75,121]
def fV13 : List Nat:=[122,246,227,133,89,222,17,11,190,147,251,153,162,41,192,51,137,154,130,201,30,234,183,20,110,203,186,68,212,169,136,57]
def fK14 : List Nat:=[171,104,195,191,198,50,104,88,43,96,245,53,128,243,218,30,190,8,46,181,20,193,224,124,70,240,171,71,106,205,218,114]
def fV14 : List Nat:=[236,87,199,26,146,98,243,115,109,231,90,23,147,163,250,172,148,2,94,162,74,57,205,80,72,91,216,208,140,5,133,224]
def fK15 : List Nat:=[13,211,207,254,132,202,125,46,96,131,195,206,138,223,117,55,127,201,187,83,228,38,35,170,22,95,215,160,17,78,120,207]
def fV15 : List Nat:=[43,169,164,202,33,134,77,133,246,232,240,33,100,46,116,99,97,199,235,135,197,60,50,166,63,53,26,22,69,110,185,38]
def fW0 : List Nat:=[166,227,197,125,208,26,190,144,8,101,56,57,131,85,221,76,59,23,170,135,51,130,176,242,77,97,41,73,61,138,173,96]
def fW1 : List Nat:=[142,131,220,73,11,197,252,77,89,146,189,99,205,135,242,84,173,255,203,147,15,138,128,17,112,42,136,135,15,99,143,219]
def fW2 : List Nat:=[123,141,201,173,140,225,89,171,202,27,153,21,252,20,112,233,29,90,210,68,59,48,50,85,126,120,244,126,24,10,183,2]
def fW3 : List Nat:=[12,33,97,115,10,112,34,125,165,92,125,22,223,27,110,19,2,231,81,186,176,202,247,35,255,131,15,123,166,10,48,173]
def fW4 : List Nat:=[222,187,134,199,207,230,122,222,34,231,123,159,20,40,95,129,156,100,216,177,84,245,172,119,135,49,185,30,120,92,175,124]
def fW5 : List Nat:=[145,102,69,251,2,69,111,189,217,173,19,109,218,121,215,164,171,204,176,171,167,30,239,15,11,53,76,10,27,230,233,56]
def fW6 : List Nat:=[14,111,224,46,1,243,175,206,227,224,10,165,199,195,250,77,187,231,250,237,226,13,145,220,143,4,11,234,114,47,80,170]
def fW7 : List Nat:=[27,68,46,64,221,148,132,172,140,162,245,174,55,146,22,145,14,80,117,196,90,171,223,99,235,249,138,64,193,42,78,113]
def fW8 : List Nat:=[98,79,89,169,246,223,44,9,42,211,128,1,37,186,112,9,160,191,126,240,210,81,154,251,250,236,54,211,113,169,252,135]
def fW9 : List Nat:=[36,37,208,64,22,209,221,27,86,102,67,117,209,162,71,40,151,23,161,111,233,8,25,75,2,164,119,225,93,85,194,96]
def fW10 : List Nat:=[135,49,246,101,62,185,73,250,55,228,116,41,253,3,201,55,154,157,21,115,218,195,155,252,202,224,85,227,125,81,32,85]
def fW11 : List Nat:=[18,136,110,59,26,16,119,137,250,105,132,115,19,42,136,5,147,71,120,0,115,87,155,110,248,88,196,255,46,35,25,212]
def fW12 : List Nat:=[12,186,188,67,110,4,140,93,195,130,50,98,227,143,254,159,250,33,150,197,83,173,222,33,57,181,40,130,76,123,242,233]
def fW13 : List Nat:=[26,172,244,70,25,115,125,214,30,76,48,30,182,25,143,152,105,134,191,192,59,106,180,119,66,209,179,29,233,157,189,73]
def fW14 : List Nat:=[47,104,217,20,198,251,74,167,167,206,9,53,87,124,242,110,30,207,240,226,191,40,3,160,193,206,226,53,146,195,60,80]
def fW15 : List Nat:=[97,185,168,100,125,240,135,158,78,228,126,111,61,36,119,103,217,105,199,73,213,245,16,17,111,45,106,22,78,247,181,216]
theorem fS : KVL (kvN exD exM 0) fK0 fV0:=ex_kvS
end Go.Proofs.YtmfjigcdhijkjaaDoor
