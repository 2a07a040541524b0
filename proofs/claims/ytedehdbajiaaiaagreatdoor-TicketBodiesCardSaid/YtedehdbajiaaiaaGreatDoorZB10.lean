/-
  Of M3 NK Word Bytes ROf Q2 Q5 Q6.
-/
import Derived.Deep.QuietTactic
import Derived.BigQuiet
import Derived.Deep.RegionWith
import Derived.BigRegion
import Derived.Deep.RegionHeld3
import Derived.Test.YtedehdbajiaaiaaGreatDoorZB9
import Derived.Test.YtedehdbajiaaiaaGreatDoorZB4
import Derived.Test.YtedehdbajiaaiaaGreatDoorZB1
import Derived.Test.YtedehdbajiaaiaaGreatDoorZB6
set_option maxRecDepth 1000000
set_option maxHeartbeats 20000000
namespace Go.Proofs.YtedehdbajiaaiaaGreatDoor
open Go.RowKit
open Go.Value renaming int → vI
open Go.IntKind renaming u64 → vU
open Go.Act renaming put → aP
open List renaming setIfInBounds_toArray → lA, set_cons_zero → lZ, set_cons_succ → lS
theorem cat_assoc (a b c : Nat → Nat) (n m : Nat) : cat (cat a n b) (n + m) c = cat a n (cat b m c):=by
 funext i
 unfold cat
 by_cases h1 : i < n
 ·
  have h2 : i < n + m:=by omega
  simp only [h1,h2,if_true]
 ·
  by_cases h2 : i < n + m
  ·
   have h3 : i - n < m:=by omega
   simp only [h1,h2,h3,if_true,if_false]
  ·
   have h3 : ¬ i - n < m:=by omega
   simp only [h1,h2,h3,if_false]
   congr 1; omega
theorem lenN_mono {L : Nat → Nat} {i j : Nat} (h : i ≤ j) : lenN L i ≤ lenN L j:=by
 induction j with
 | zero =>
      obtain rfl : i = 0:=by omega
      exact Nat.le_refl _
 | succ j ih =>
  by_cases e : i = j + 1
  ·
   subst e; exact Nat.le_refl _
  ·
   have:=ih (by omega)
   show _ ≤ lenN L j + L j
   omega
theorem Parts3.call {W W' : World} {AL : Option Addr} {nl : Nat} {A : Nat → Option Addr} {L C : Nat → Nat} {Y : Nat → Nat → Nat} (h : Parts3 W AL nl A L C Y) (hb : Below W.heap.size W W') : Parts3 W' AL nl A L C Y where
 row:=h.row.imp id fun ⟨b,o,e,hlt,hc⟩ => ⟨b,o,e,by have:=hb.size; omega,fun r hr => (hb.cell (p:=⟨b,o + r,none⟩) hlt).trans (hc r hr)⟩
 src:=fun r hr => ((h.src r hr).at (g':=W'.heap.size) hb.size).below hb
 cap:=h.cap
 lt:=h.lt
theorem zjw (k : Nat → Nat) (hk : ∀ j,k j < 256) (x : Nat) (hx : x < 256) (AL : Option Addr) (nl cl : Nat) (A : Nat → Option Addr) (L C : Nat → Nat) (Y : Nat → Nat → Nat) (hnl : nl ≤ 100000) (hT : lenN L nl ≤ 100000) (w : World) (hK : KT w) (hP : Parts3 w AL nl A L C Y) :
  Calls Tryz.prog 167 #[.agg (arrOf 64 fun j => .int .u8 (k j : Nat)),.int .u8 (x : Int),.slice AL nl cl] w fun e w' => e = .returned (.agg (dgst (cat (fun j => k j ^^^ x) 64 (textN L Y nl)) (64 + lenN L nl))) ∧ Below w.heap.size w w':=by
 obtain ⟨F,hF⟩ : ∃ F,F = arrOf 64 fun j => Value.int .u8 (k j : Nat):=⟨_,rfl⟩
 rw [← hF]
 have HF:=veil hF
 have HK:=veil hK
 have HP:=veil hP
 have HX:=veil (And.intro hx hk)
 have HT:=veil hT
 have hg0:=hK.lt
 clear hF hK hP hx hk hT
 go_enter Tryz.func167,Tryz.ntmps167
 go_upto_region 1 with (fail)
 rw [zeros32]
 have hB0 : (w.alloc (.cells F 161)).rowIs w.heap.size 161 64 (fun j => Value.int .u8 (k j : Nat)):=by rw [HF.out]; exact zbj w 64 161 _ rfl
 have hb0 : Below w.heap.size w (w.alloc (.cells F 161)):=(Below.refl _ _).alloc (Nat.le_refl _) _
 have hz0 : (w.alloc (.cells F 161)).heap.size = w.heap.size + 1:=by simp
 generalize w.alloc (.cells F 161) = w0 at *
 have hR1:=zbj w0 32 43 (fun _ => Value.int .u8 0) rfl
 rw [hz0] at hR1
 have hB1:=hB0.alloc (.cells (arrOf 32 (fun _ => .int .u8 0)) 43)
 have hb1:=hb0.alloc hb0.size (.cells (arrOf 32 (fun _ => .int .u8 0)) 43)
 generalize w0.alloc (.cells (arrOf 32 (fun _ => .int .u8 0)) 43) = w1 at *
 clear hB0 hb0 hz0
 go_wp2
 go_loopw [11] (fun v wr => ∃ i : Nat,i ≤ 64 ∧ v = .int .i64 (i : Int) ∧ wr.rowIs w.heap.size 161 64 (fun j => .int .u8 ((if j < i then k j ^^^ x else k j : Nat) : Int)) ∧ wr.rowIs (w.heap.size + 1) 43 32 (fun _ => .int .u8 0) ∧ Below w.heap.size w wr)
  (fun v _ => 64 - (intOf v).toNat)
 case atStart => exact ⟨0,by omega,rfl,hB1,hR1,hb1⟩
 case round =>
  obtain ⟨i,hi,rfl,hRB,hR,hB⟩:=hrel
  by_cases hlt : i < 64
  ·
   obtain ⟨c,hc⟩ : ∃ c,c = k i:=⟨_,rfl⟩
   have c0:=hRB.cell hlt
   have f0:=hRB.frozen i
   rw [if_neg (Nat.lt_irrefl i),← hc] at c0
   have hxor:=xor8 c x (by rw [hc]; exact HX.out.2 i) HX.out.1
   have HC:=veil hc
   clear hc
   go_wp2
   go_roundw
   case rel =>
    refine ⟨i + 1,by omega,by go_num,(hRB.set i _).congr fun q hq => ?_,zax hR (by omega) _,zat hB (Nat.le_refl _) _⟩
    by_cases h : q = i
    ·
     rw [if_pos h,if_pos (by omega),HC.out,h]
    ·
     rw [if_neg h]
     by_cases h2 : q < i
     ·
      rw [if_pos h2,if_pos (by omega)]
     ·
      rw [if_neg h2,if_neg (by omega)]
   case measure => simp [intOf]; omega
  ·
   have e64 : i = 64:=by omega
   have hRB : wr.rowIs w.heap.size 161 64 (fun j => .int .u8 ((k j ^^^ x : Nat) : Int)):=hRB.congr fun p hp => by rw [if_pos (by omega)]
   have hd : decide ((i : Int) < 64) = false:=by simp; omega
   clear e64 hlt hi
   go_wp2_with fail
   refine (new_calls wr).mono ?_
   rintro e w2 ⟨rfl,hC,hb2⟩
   have hRB2:=zab hRB hb2 hRB.lt
   have hR2:=zab hR hb2 hR.lt
   have hB2:=hB.trans (hb2.mono hB.size)
   have hC2:=hC (fun _ => 0)
   have hgH:=hC2.lt
   have hHR:=hR.lt
   generalize wr.heap.size = gH at *
   clear hRB hR hB hC hb2
   have hS2 : Src w2 (some ⟨w.heap.size,0,none⟩) 64 (fun j => k j ^^^ x) gH:=.inr ⟨_,0,rfl,hRB2.lt,by omega,fun j hj => by rw [Nat.zero_add]; exact hRB2.cell hj⟩
   go_wp2_with fail
   refine (zfx gH (fun _ => 0) 0 _ 64 64 (fun j => k j ^^^ x) (fun j => xor8_lt (HX.out.2 j) HX.out.1) (by decide) (by decide) (by omega) w2 (zgh HK.out hB2) hC2 hS2).mono ?_
   rintro e w3 ⟨rfl,hH3,hb3⟩
   rw [Nat.zero_add,zig] at hH3
   have hR3:=zfb hR2 hb3 (by omega)
   have hB3:=but_below hB2 hb3 (by omega)
   clear hRB2 hR2 hB2 hC2 hS2 hb3
   have hH3 : HashIs w3 gH (cat (fun j => k j ^^^ x) 64 (textN L Y 0)) (64 + lenN L 0):=hH3.congr fun i hi => by unfold cat; rw [if_pos hi]
   go_wp2
   go_loopw [27] (fun v wr => ∃ i : Nat,i ≤ nl ∧ v = .int .i64 (i : Int) ∧ HashIs wr gH (cat (fun j => k j ^^^ x) 64 (textN L Y i)) (64 + lenN L i) ∧ wr.rowIs (w.heap.size + 1) 43 32 (fun _ => .int .u8 0) ∧ Below w.heap.size w wr)
    (fun v _ => nl - (intOf v).toNat)
   case atStart => exact ⟨0,by omega,rfl,hH3,hR3,hB3⟩
   case round =>
    obtain ⟨i,hi,rfl,hH,hR,hB⟩:=hrel
    by_cases hlt : i < nl
    ·
     have hd2 : decide ((i : Int) < (nl : Int)) = true:=by simp; omega
     have hd1 : decide (i < nl) = true:=by simp; omega
     have hii : (i : Int) < (nl : Int):=by omega
     obtain ⟨bl,ol,hAL,hbl,hcl⟩:=HP.out.row.resolve_left (by omega)
     have cr : wr.cell? ⟨bl,ol + i,none⟩ = some (.slice (A i) (L i) (C i)):=(hB.cell (p:=⟨bl,ol + i,none⟩) hbl).trans (hcl i hlt)
     clear hcl
     subst hAL
     go_wp2_with fail
     have hL1:=lenN_mono (L:=L) (show i + 1 ≤ nl by omega)
     have hT:=HT.out
     have hL2 : lenN L (i + 1) = lenN L i + L i:=rfl
     refine (zfx gH _ (64 + lenN L i) (A i) (L i) (C i) (Y i) (HP.out.lt i) (HP.out.cap i hlt) (by omega) (by omega) wr (zgh HK.out hB) hH (zij (HP.out.src i hlt) hB (by omega))).mono ?_
     rintro e w4 ⟨rfl,hH4,hb4⟩
     rw [cat_assoc,Nat.add_assoc] at hH4
     have hH5 : HashIs w4 gH (cat (fun j => k j ^^^ x) 64 (textN L Y (i + 1))) (64 + lenN L (i + 1)):=hH4
     clear hH4
     have hR4:=zfb hR hb4 (by omega)
     have hB4:=but_below hB hb4 (by omega)
     clear hR hB hH hb4 cr hT hL1 hL2
     go_wp2
     go_roundw
     case rel => exact ⟨i + 1,by omega,by go_num,hH5,hR4,hB4⟩
     case measure => simp [intOf]; omega
    ·
     obtain rfl : i = nl:=by omega
     go_wp2_with fail
     have hT:=HT.out
     refine (hsum_calls gH _ _ (by omega) wr (zgh HK.out hB) hH).mono ?_
     rintro e w4 ⟨rfl,hb4⟩
     have hR4:=zab hR hb4 hR.lt
     have hB4:=hB.trans (hb4.mono hB.size)
     obtain ⟨y,hy⟩ : ∃ y,y = cat (fun j => k j ^^^ x) 64 (textN L Y i):=⟨_,rfl⟩
     obtain ⟨n,hn⟩ : ∃ n,n = 64 + lenN L i:=⟨_,rfl⟩
     rw [← hy,← hn]
     have HN:=veil (blkOf hR4)
     have HZ:=veil (And.intro (zbm y n) (And.intro (show (dgst y n).all (·.oneCell') = true from zbq fun _ _ => rfl) (show (Tryz.prog.info? 43).map (·.size) = some (dgst y n).size by rw [zbm]; exact infoD)))
     obtain ⟨D,hD⟩ : ∃ D,D = dgst y n:=⟨_,rfl⟩
     rw [← hD] at HZ ⊢
     have HD:=veil (show D = dgst (cat (fun j => k j ^^^ x) 64 (textN L Y i)) (64 + lenN L i) by rw [hD,hy,hn])
     clear hD hR4 hR hB hH hb4 hy hn hT hH3 hR3 hB3
     go_wp2_with ((with_reducible refine zbb ?_); refine wpList_store_row rfl 43 _ _ rfl (w.heap.size + 1) D rfl rfl 43 _ HN.out HZ.out.2.2 (by rw [HZ.out.1,zaw]) HZ.out.2.1 ?_)
     exact bodyPost_ret (results_cell_row rfl _ _ (w.heap.size + 1) 43 D (0,0) _ rfl (setRow_heap w4 (w.heap.size + 1) _ D 43 (0,0) HN.out) Tryz.underlying43 rfl HZ.out.2.2) rfl ⟨by rw [HD.out],zbn hB4 (by omega) _⟩
structure KV where
 k : Nat → Nat
 v : Nat → Nat
structure KV.Ok (s : KV) : Prop where
 k : ∀ j,s.k j < 256
 v : ∀ j,s.v j < 256
def num32 (y : Nat → Nat) : Nat:=lev (fun k => y (32 - 1 - k)) 32
theorem zhu {y : Nat → Nat} (hy : ∀ j,y j < 256) : num32 y < top:=by
 have h:=zje (z:=fun k => y (32 - 1 - k)) (fun j => hy _) 32
 have e : 256 ^ 32 = top:=by decide +kernel
 unfold num32
 omega
def tx (v : Nat → Nat) (b : Nat) (t : Nat → Nat) : Nat → Nat:=cat v 32 (cat (fun _ => b) 1 t)
def KV.step (s : KV) : KV:=⟨s.k,nb s.k 32 s.v 32⟩
def KV.mix (s : KV) (b : Nat) (t : Nat → Nat) (m : Nat) : KV:=KV.step ⟨nb s.k 32 (tx s.v b t) (33 + m),s.v⟩
def none0 : Nat → Nat:=fun _ => 0
def KV.next (s : KV) : KV:=s.step.mix 0 none0 0
theorem KV.Ok.step {s : KV} (h : s.Ok) : s.step.Ok:=⟨h.k,fun j => nb_lt _ _ _ _ j⟩
theorem KV.Ok.mix {s : KV} (_h : s.Ok) (b : Nat) (t : Nat → Nat) (m : Nat) : (s.mix b t m).Ok:=⟨fun j => nb_lt _ _ _ _ j,fun j => nb_lt _ _ _ _ j⟩
theorem KV.Ok.next {s : KV} (h : s.Ok) : s.next.Ok:=h.step.mix _ _ _
def kv0 : KV:=⟨fun _ => 0,fun _ => 1⟩
theorem kv0_ok : kv0.Ok:=⟨fun _ => by show (0 : Nat) < 256; decide,fun _ => by show (1 : Nat) < 256; decide⟩
def be (X j : Nat) : Nat:=dg 256 X (31 - j)
theorem be_lt (X j : Nat) : be X j < 256:=Nat.mod_lt _ (by decide)
def two (D M : Nat) : Nat → Nat:=cat (be D) 32 (be M)
theorem two_lt (D M j : Nat) : two D M j < 256:=cat_lt (be_lt D) (be_lt M) j
def kvS (D M : Nat) : KV:=(kv0.mix 0 (two D M) 64).mix 1 (two D M) 64
def kvN (D M : Nat) : Nat → KV
 | 0 => kvS D M
 | i + 1 => (kvN D M i).next
theorem kvN_ok (D M : Nat) : ∀ i,(kvN D M i).Ok
 | 0 => (kv0_ok.mix _ _ _).mix _ _ _
 | i + 1 => (kvN_ok D M i).next
def numN (D M i : Nat) : Nat:=num32 (kvN D M i).step.v
theorem numN_lt (D M i : Nat) : numN D M i < top:=zhu (kvN_ok D M i).step.v
def outN (D M : Nat) : Nat → List Nat
 | 0 => []
 | i + 1 => if mayB (numN D M i) = true then outN D M i ++ [numN D M i] else outN D M i
theorem outN_step (D M i : Nat) : (outN D M i).length ≤ (outN D M (i + 1)).length ∧ (outN D M (i + 1)).length ≤ (outN D M i).length + 1:=by
 have e : outN D M (i + 1) = if mayB (numN D M i) = true then outN D M i ++ [numN D M i] else outN D M i:=rfl
 rw [e]
 split <;> simp
theorem zju (D M : Nat) : ∀ i,∀ x ∈ outN D M i,mayB x = true ∧ x < top
 | 0,x,h => by simp [outN] at h
 | i + 1,x,h => by
  unfold outN at h
  split at h
  ·
   rcases List.mem_append.1 h with h | h
   ·
    exact zju D M i x h
   ·
    simp only [List.mem_singleton] at h
    subst h
    exact ⟨by assumption,numN_lt D M i⟩
  ·
   exact zju D M i x h
structure Ends (D M many s : Nat) : Prop where
 le : s ≤ 100
 pre : ∀ j,j < s → (outN D M j).length < many
 fin : s = 100 ∨ ¬ (outN D M s).length < many
theorem Ends.same {D M many s s' : Nat} (h : Ends D M many s) (h' : Ends D M many s') : s = s':=by
 rcases Nat.lt_trichotomy s s' with e | e | e
 ·
  have:=h'.pre s e
  rcases h.fin with f | f
  ·
   have:=h'.le; omega
  ·
   exact absurd this f
 ·
  exact e
 ·
  have:=h.pre s' e
  rcases h'.fin with f | f
  ·
   have:=h.le; omega
  ·
   exact absurd this f
theorem Ends.most {D M many s : Nat} (h : Ends D M many s) : (outN D M s).length ≤ many:=by
 cases s with
 | zero => simp [outN]
 | succ s =>
  have h1:=h.pre s (by omega)
  have h2:=(outN_step D M s).2
  omega
theorem Ends.full {D M many s : Nat} (h : Ends D M many s) (hn : ¬ (outN D M s).length < many) : (outN D M s).length = many:=by
 have:=h.most
 omega
theorem word_core (Z g n c j : Nat) (hn : n ≤ 32) (hj : j + 4 ≤ n) (w : World) (hp : Pre w g 3 n (ptv Z)) :
  Calls Tryz.prog 152 #[.slice (some ⟨g,0,none⟩) n c,.int .i64 (j : Int)] w fun e w' => e = .returned (.int .u64 (pt Z j + 65536 * pt Z (j + 1) + 4294967296 * pt Z (j + 2) + 281474976710656 * pt Z (j + 3))) ∧ ∃ m,w' = w.drewN m:=by
 have c0 : w.cell? ⟨g,j,none⟩ = some (.int .i64 (pt Z j)):=hp.cell (by omega)
 have c1 : w.cell? ⟨g,j + 1,none⟩ = some (.int .i64 (pt Z (j + 1))):=hp.cell (by omega)
 have c2 : w.cell? ⟨g,j + 2,none⟩ = some (.int .i64 (pt Z (j + 2))):=hp.cell (by omega)
 have c3 : w.cell? ⟨g,j + 3,none⟩ = some (.int .i64 (pt Z (j + 3))):=hp.cell (by omega)
 have l0:=pt_lo Z j
 have l1:=pt_lo Z (j + 1)
 have l2:=pt_lo Z (j + 2)
 have l3:=pt_lo Z (j + 3)
 have u0:=pt_lt Z j
 have u1:=pt_lt Z (j + 1)
 have u2:=pt_lt Z (j + 2)
 have u3:=pt_lt Z (j + 3)
 clear hp
 go_enter Tryz.func152,Tryz.ntmps152
 go_wp2
 go_quiet (fail)
 go_wp2
 go_ret
 exact ⟨rfl,_,rfl⟩
theorem zha (Z g n c q : Nat) (a : Int) (ha : a = ((4 * q : Nat) : Int)) (hn : n ≤ 32) (hj : 4 * q + 4 ≤ n) (w : World) (hp : Pre w g 3 n (ptv Z)) :
  Calls Tryz.prog 152 #[.slice (some ⟨g,0,none⟩) n c,.int .i64 a] w fun e w' => e = .returned (.int .u64 (wd Z q)) ∧ ∃ m,w' = w.drewN m:=by
 subst ha
 rw [wd_pt]
 exact word_core Z g n c (4 * q) hn hj w hp
theorem num_calls (Z g c : Nat) (w : World) (hp : Pre w g 3 16 (ptv Z)) :
  Calls Tryz.prog 120 #[.slice (some ⟨g,0,none⟩) 16 c] w fun e w' => e = .returned (.agg #[vI vU (wd Z 0),vI vU (wd Z 1),vI vU (wd Z 2),vI vU (wd Z 3)]) ∧ Below w.heap.size w w':=by
 have hR : (w.alloc (.cells #[vI vU 0,vI vU 0,vI vU 0,vI vU 0] 26)).rowIs w.heap.size 26 4 (fun _ => .int .u64 0):=zag (n:=4) rfl rfl (arr4 fun _ => .int .u64 0)
 have HR:=veil hR
 have HP:=veil (hp.alloc (.cells #[vI vU 0,vI vU 0,vI vU 0,vI vU 0] 26))
 obtain ⟨d0,d1,d2,d3⟩:=zac hR
 obtain ⟨f0,f1,f2,f3⟩:=zah hR
 clear hR hp
 go_enter Tryz.func120,Tryz.ntmps120
 go_wp2_with fail
 refine (zha Z g 16 c 0 0 rfl (by omega) (by omega) _ HP.out).mono ?_
 rintro e w1 ⟨rfl,m1,rfl⟩
 go_wp2_with fail
 refine (zha Z g 16 c 1 4 rfl (by omega) (by omega) _ (HP.out.drewN _)).mono ?_
 rintro e w1 ⟨rfl,m2,rfl⟩
 go_wp2_with fail
 refine (zha Z g 16 c 2 8 rfl (by omega) (by omega) _ (HP.out.drewN _)).mono ?_
 rintro e w1 ⟨rfl,m3,rfl⟩
 go_wp2_with fail
 refine (zha Z g 16 c 3 12 rfl (by omega) (by omega) _ (HP.out.drewN _)).mono ?_
 rintro e w1 ⟨rfl,m4,rfl⟩
 go_wp2
 refine bodyPost_ret (results_cell_row rfl _ _ w.heap.size 26 #[vI vU (wd Z 0),vI vU (wd Z 1),vI vU (wd Z 2),vI vU (wd Z 3)] (0,0) _ rfl (blk4 (put4 (zbw HR.out _) fun j => .int .u64 (wd Z j))) Tryz.underlying26 rfl (by kernel_rfl)) rfl ⟨rfl,zaj (zbk ((Below.refl _ _).alloc (Nat.le_refl _) _) _) (Nat.le_refl _) _ _ _ _⟩
def byv (X i : Nat) : Int:=(dg 256 X i : Nat)
theorem dg_byte (X m q r : Nat) (hr : r < m) : dg (256 ^ m) X q / 256 ^ r % 256 = dg 256 X (m * q + r):=by
 show dg 256 (X / (256 ^ m) ^ q % 256 ^ m) r = _
 rw [zdi _ m r hr,dg,dg,← Nat.pow_mul,Nat.div_div_eq_div_mul,← Nat.pow_add]
theorem byte_word (X k : Nat) : wd X (k / 8) / 2 ^ (k % 8 * 8) % 256 = byv X k:=by
 have e : wd X (k / 8) / 2 ^ (k % 8 * 8) = ((dg w64 X (k / 8) / 256 ^ (k % 8) : Nat) : Int):=by
  unfold wd
  rw [← two_256,Int.natCast_ediv]
  simp
 rw [e]
 have h:=dg_byte X 8 (k / 8) (k % 8) (Nat.mod_lt _ (by omega))
 rw [Nat.div_add_mod,← w64_bytes] at h
 unfold byv
 omega
theorem bytes_step {X k j : Nat} (hk : k < 32) (hj : j = 31 - k) : ∀ i,i < 32 → (if i = j then Value.int .u8 (byv X k) else Value.int .u8 (if 32 ≤ i + k then byv X (31 - i) else 0)) = Value.int .u8 (if 32 ≤ i + (k + 1) then byv X (31 - i) else 0):=by
 intro i hi
 by_cases h : i = j
 ·
  rw [if_pos h,if_pos (by omega),show 31 - i = k by omega]
 ·
  rw [if_neg h]
  by_cases h2 : 32 ≤ i + k
  ·
   rw [if_pos h2,if_pos (by omega)]
  ·
   rw [if_neg h2,if_neg (by omega)]
theorem infoByte : (Tryz.prog.info? 5).map (fun i => (i.zero,i.size,i.bytes)) = some (some (.int .u8 0),1,1):=by kernel_rfl
theorem row_filled {w : World} {z : Value} {n b t : Nat} (hb : b = w.heap.size) : (w.alloc (.cells (madeCells #[z] n) t)).rowIs b t n (fun _ => z):=by
 subst hb
 exact World.rowIs_made w z n t
theorem bytes_calls (X : Nat) (w : World) :
  Calls Tryz.prog 65 #[.agg #[vI vU (wd X 0),vI vU (wd X 1),vI vU (wd X 2),vI vU (wd X 3)]] w fun e w' => ∃ g,e = .returned (.slice (some ⟨g,0,none⟩) 32 32) ∧ w.heap.size ≤ g ∧ w'.rowIs g 5 32 (fun j => .int .u8 (byv X (31 - j))) ∧ Below w.heap.size w w':=by
 obtain ⟨i0,hi,hz0,hz1,hz2⟩:=info_parts infoByte
 have hmk : ∀ W : World,(Instr.makeSlice 29 (.int .i64 32) (.int .i64 32)).run Tryz.prog W = .ok (.slice (some ⟨W.heap.size,0,none⟩) 32 32) (W.alloc (.cells (madeCells #[.int .u8 0] 32) 5)) :=
  fun W => run_make_row 29 5 i0 (.int .u8 0) Tryz.underlying29 hi hz0 hz1 rfl .i64 .i64 32 (by rw [hz2]; omega) (by omega) W
 go_enter Tryz.func65,Tryz.ntmps65
 go_wp2
 go_loopw [6] (fun i wr => ∃ k : Nat,k ≤ 32 ∧ i = .int .i64 k ∧ wr.rowIs w.heap.size 26 4 (fun j => .int .u64 (wd X j)) ∧ wr.rowIs (w.heap.size + 1) 5 32 (fun j => .int .u8 (if 32 ≤ j + k then byv X (31 - j) else 0)) ∧ Below w.heap.size w wr)
  (fun i _ => 32 - (intOf i).toNat)
 case atStart => exact ⟨0,by omega,rfl,(zag (n:=4) rfl rfl (arr4 fun j => .int .u64 (wd X j))).alloc _,(row_filled (w:=w.alloc (.cells #[vI vU (wd X 0),vI vU (wd X 1),vI vU (wd X 2),vI vU (wd X 3)] 26)) (z:=.int .u8 0) (by simp)).congr (fun i hi => by rw [if_neg (by omega)]),((Below.refl _ _).alloc (by simp) _).alloc (by simp) _⟩
 case round =>
  obtain ⟨k,hk,rfl,hR,hS,hbel⟩:=hrel
  by_cases hlt : k < 32
  ·
   have c1:=hR.cell (i:=k / 8) (by omega)
   obtain ⟨j,hj⟩ : ∃ j,j = 31 - k:=⟨_,rfl⟩
   have hji : (31 : Int) - (k : Int) = (j : Int):=by omega
   have hjn : (j : Int) < (32 : Int):=by omega
   have c2:=hS.cell (i:=j) (by omega)
   have f2:=hS.frozen j
   have l1:=wd_lo X (k / 8)
   have u1:=wd_le X (k / 8)
   have HJ:=veil hj
   clear hj
   go_wp2
   go_roundw
   case rel =>
    rw [byte_word]
    exact ⟨k + 1,by omega,by go_num,zax hR (by omega) _,(hS.set j _).congr (bytes_step hlt HJ.out),zat hbel (by omega) _⟩
   case measure => simp [intOf]; omega
  ·
   obtain rfl : k = 32:=by omega
   go_wp2
   go_ret
   exact ⟨_,rfl,by omega,hS.congr (fun i hi => by rw [if_pos (by omega)]),hbel⟩
theorem pt_put (L c k j : Nat) (hL : L < 256 ^ k) (hc : c < 256) : pt (L + c * 256 ^ k) j = if j = k / 2 then pt L j + (c * 256 ^ (k % 2) : Nat) else pt L j:=by
 have h:=dg_put 2 (k / 2) (k % 2) L c (Nat.mod_lt _ (by omega)) (by rw [Nat.div_add_mod]; exact hL) hc j
 rw [Nat.div_add_mod,← w16_bytes] at h
 unfold pt
 rw [h]
 split
 ·
  rw [Int.natCast_add]
 ·
  rfl
theorem rof_even (L c k : Nat) (hL : L < 256 ^ k) (hc : c < 256) (hk : k % 2 = 0) : pt L (k / 2) + (c : Int) = pt (L + c * 256 ^ k) (k / 2):=by
 rw [pt_put L c k _ hL hc,if_pos rfl,hk]; simp
theorem rof_odd (L c k : Nat) (hL : L < 256 ^ k) (hc : c < 256) (hk : k % 2 = 1) : pt L (k / 2) + 256 * (c : Int) = pt (L + c * 256 ^ k) (k / 2):=by
 rw [pt_put L c k _ hL hc,if_pos rfl,hk]; omega
theorem rof_step (z : Nat → Nat) (k : Nat) (hz : ∀ j,z j < 256) (i : Nat) :
  (if i = k / 2 then Value.int .i64 (pt (lev z k + z k * 256 ^ k) (k / 2)) else Value.int .i64 (pt (lev z k) i)) = Value.int .i64 (pt (lev z (k + 1)) i):=by
 show _ = Value.int .i64 (pt (lev z k + z k * 256 ^ k) i)
 by_cases h : i = k / 2
 ·
  rw [if_pos h,h]
 ·
  rw [if_neg h,pt_put _ _ _ _ (zje hz k) (hz k),if_neg h]
theorem pt_zero (i : Nat) : pt 0 i = 0:=by unfold pt dg; simp
theorem rof_some (b o n c : Nat) (y : Nat → Nat) (hy : ∀ j,y j < 256) (hn : n ≤ 32) (w : World) (hb : b < w.heap.size) (hcell : ∀ j,j < n → w.cell? ⟨b,o + j,none⟩ = some (.int .u8 (y j))) :
  Calls Tryz.prog 68 #[.slice (some ⟨b,o,none⟩) n c] w fun e w' => e = .returned (.agg #[vI vU (wd (lev (fun k => y (n - 1 - k)) n) 0),vI vU (wd (lev (fun k => y (n - 1 - k)) n) 1),vI vU (wd (lev (fun k => y (n - 1 - k)) n) 2),vI vU (wd (lev (fun k => y (n - 1 - k)) n) 3)]) ∧ Below w.heap.size w w':=by
 obtain ⟨i0,hi,hz0,hz1,hz2⟩:=info_parts infoInt
 have hmk : ∀ W : World,(Instr.makeSlice 70 (.int .i64 16) (.int .i64 16)).run Tryz.prog W = .ok (.slice (some ⟨W.heap.size,0,none⟩) 16 16) (W.alloc (.cells (madeCells #[.int .i64 0] 16) 3)) :=
  fun W => run_make_row 70 3 i0 (.int .i64 0) Tryz.underlying70 hi hz0 hz1 rfl .i64 .i64 16 (by rw [hz2]; omega) (by omega) W
 have HY:=veil hy
 have HC:=veil hcell
 clear hy hcell
 have hn' : (n : Int) ≤ 32:=by omega
 go_enter Tryz.func68,Tryz.ntmps68
 go_wp2
 go_loopw [4] (fun i wr => ∃ k : Nat,k ≤ n ∧ i = .int .i64 k ∧ wr.rowIs w.heap.size 26 4 (fun _ => .int .u64 0) ∧ wr.rowIs (w.heap.size + 1) 3 16 (fun j => .int .i64 (pt (lev (fun k => y (n - 1 - k)) k) j)) ∧ Below w.heap.size w wr)
  (fun i _ => n - (intOf i).toNat)
 case atStart => exact ⟨0,by omega,rfl,(zag (n:=4) rfl rfl (arr4 fun _ => .int .u64 0)).alloc _,(row_filled (z:=.int .i64 0) (by simp)).congr (fun i _ => by rw [lev,pt_zero]),((Below.refl _ _).alloc (by simp) _).alloc (by simp) _⟩
 case round =>
  obtain ⟨k,hk,rfl,hR,hS,hbel⟩:=hrel
  by_cases hlt : k < n
  ·
   have c1:=hS.cell (i:=k / 2) (by omega)
   have f1:=hS.frozen (k / 2)
   obtain ⟨j,hj⟩ : ∃ j,j = n - 1 - k:=⟨_,rfl⟩
   have hji : (n : Int) - 1 - (k : Int) = (j : Int):=by omega
   have hjn : (j : Int) < (n : Int):=by omega
   have hj0 : (0 : Int) ≤ (j : Int):=by omega
   have hkn : (k : Int) < (n : Int):=by omega
   have c2:=(hbel.cell (p:=⟨b,o + j,none⟩) hb).trans (HC.out j (by omega))
   have l1:=pt_lo (lev (fun k => y (n - 1 - k)) k) (k / 2)
   have u1 : pt (lev (fun k => y (n - 1 - k)) k) (k / 2) ≤ 65535:=by have:=pt_lt (lev (fun k => y (n - 1 - k)) k) (k / 2); omega
   have u2 : (y j : Int) ≤ 255:=by have:=HY.out j; omega
   have u3 : (0 : Int) ≤ (y j : Int):=by omega
   have HS:=veil (rof_step (fun k => y (n - 1 - k)) k (fun j => HY.out _))
   have HJ:=veil hj
   clear hj
   rcases Nat.mod_two_eq_zero_or_one k with h2 | h2
   ·
    have hm : ((k : Int) % 2 == 0) = true:=by rw [beq_iff_eq]; omega
    have HM:=veil h2
    clear h2
    go_wp2
    go_region
    all_goals
     go_wp2
     go_roundw
     case rel =>
      rw [show y j = y (n - 1 - k) by rw [HJ.out],rof_even _ _ _ (zje (fun j => HY.out _) k) (HY.out _) HM.out]
      exact ⟨k + 1,by omega,by go_num,(zax hR (by omega) _).drew,((hS.set (k / 2) _).congr fun i _ => HS.out i).drew,(zat hbel (by omega) _).drew⟩
     case measure => simp [intOf]; omega
   ·
    have hm : ((k : Int) % 2 == 0) = false:=by rw [beq_eq_false_iff_ne]; omega
    have HM:=veil h2
    clear h2
    go_wp2
    go_region
    all_goals
     go_wp2
     go_roundw
     case rel =>
      rw [show y j = y (n - 1 - k) by rw [HJ.out],rof_odd _ _ _ (zje (fun j => HY.out _) k) (HY.out _) HM.out]
      exact ⟨k + 1,by omega,by go_num,(zax hR (by omega) _).drew,((hS.set (k / 2) _).congr fun i _ => HS.out i).drew,(zat hbel (by omega) _).drew⟩
     case measure => simp [intOf]; omega
  ·
   obtain rfl : k = n:=by omega
   go_wp2_with fail
   refine (num_calls (lev (fun j => y (k - 1 - j)) k) (w.heap.size + 1) 16 _ (Pre.of_row hS)).mono ?_
   rintro e w3 ⟨rfl,hb3⟩
   have hR3:=zab hR hb3 hR.lt
   have hB3:=hbel.trans (hb3.mono hbel.size)
   obtain ⟨d0,d1,d2,d3⟩:=zac hR3
   obtain ⟨f0,f1,f2,f3⟩:=zah hR3
   clear hR hS hbel hb3
   go_wp2
   refine bodyPost_ret (results_cell_row rfl _ _ w.heap.size 26 #[vI vU (wd (lev (fun j => y (k - 1 - j)) k) 0),vI vU (wd (lev (fun j => y (k - 1 - j)) k) 1),vI vU (wd (lev (fun j => y (k - 1 - j)) k) 2),vI vU (wd (lev (fun j => y (k - 1 - j)) k) 3)] (0,0) _ rfl (blk4 (put4 hR3 fun j => .int .u64 (wd (lev (fun j => y (k - 1 - j)) k) j))) Tryz.underlying26 rfl (by kernel_rfl)) rfl ⟨rfl,zaj hB3 (by omega) _ _ _ _⟩
theorem zga (X Y Z : Nat) (hX : X < Pt.pp) (hY : Y < top) (hZ : Z = X * Y % Pt.pp) (w : World) :
  Calls Tryz.prog 124 #[.agg #[vI vU (wd X 0),vI vU (wd X 1),vI vU (wd X 2),vI vU (wd X 3)],.agg #[vI vU (wd Y 0),vI vU (wd Y 1),vI vU (wd Y 2),vI vU (wd Y 3)]] w fun e w' => e = .returned (.agg #[vI vU (wd Z 0),vI vU (wd Z 1),vI vU (wd Z 2),vI vU (wd Z 3)]) ∧ Below w.heap.size w w':=by
 obtain ⟨M,hM⟩ : ∃ M,M = Pt.pp:=⟨_,rfl⟩
 have HG:=veil (show ∀ W,Calls Tryz.prog 79 #[.agg #[vI vU (wd X 0),vI vU (wd X 1),vI vU (wd X 2),vI vU (wd X 3)],.agg #[vI vU (wd Y 0),vI vU (wd Y 1),vI vU (wd Y 2),vI vU (wd Y 3)],.agg #[vI vU (wd M 0),vI vU (wd M 1),vI vU (wd M 2),vI vU (wd M 3)]] W fun e W' => e = .returned (.agg #[vI vU (wd Z 0),vI vU (wd Z 1),vI vU (wd Z 2),vI vU (wd Z 3)]) ∧ Below W.heap.size W W' from fun W => by rw [hM,hZ]; exact gmul_calls X Y Pt.pp hX hY zbp W)
 have HP:=veil (show ∀ W,Calls Tryz.prog 125 #[] W fun e W' => e = .returned (.agg #[vI vU (wd M 0),vI vU (wd M 1),vI vU (wd M 2),vI vU (wd M 3)]) ∧ Below W.heap.size W W' from fun W => by rw [hM]; exact zjs W)
 clear hM hZ
 have hRX : (((w.alloc (.cells #[vI vU (wd X 0),vI vU (wd X 1),vI vU (wd X 2),vI vU (wd X 3)] 26)).alloc (.cells #[vI vU (wd Y 0),vI vU (wd Y 1),vI vU (wd Y 2),vI vU (wd Y 3)] 26)).alloc (.cells #[vI vU 0,vI vU 0,vI vU 0,vI vU 0] 26)).rowIs w.heap.size 26 4 (fun j => .int .u64 (wd X j)):=((zag (n:=4) rfl rfl (arr4 fun j => .int .u64 (wd X j))).alloc _).alloc _
 have hRY : (((w.alloc (.cells #[vI vU (wd X 0),vI vU (wd X 1),vI vU (wd X 2),vI vU (wd X 3)] 26)).alloc (.cells #[vI vU (wd Y 0),vI vU (wd Y 1),vI vU (wd Y 2),vI vU (wd Y 3)] 26)).alloc (.cells #[vI vU 0,vI vU 0,vI vU 0,vI vU 0] 26)).rowIs (w.heap.size + 1) 26 4 (fun j => .int .u64 (wd Y j)):=(zag (n:=4) (by simp) rfl (arr4 fun j => .int .u64 (wd Y j))).alloc _
 have hRR : (((w.alloc (.cells #[vI vU (wd X 0),vI vU (wd X 1),vI vU (wd X 2),vI vU (wd X 3)] 26)).alloc (.cells #[vI vU (wd Y 0),vI vU (wd Y 1),vI vU (wd Y 2),vI vU (wd Y 3)] 26)).alloc (.cells #[vI vU 0,vI vU 0,vI vU 0,vI vU 0] 26)).rowIs (w.heap.size + 1 + 1) 26 4 (fun _ => .int .u64 0):=zag (n:=4) (by simp) rfl (arr4 fun _ => .int .u64 0)
 have hB0 : Below w.heap.size w (((w.alloc (.cells #[vI vU (wd X 0),vI vU (wd X 1),vI vU (wd X 2),vI vU (wd X 3)] 26)).alloc (.cells #[vI vU (wd Y 0),vI vU (wd Y 1),vI vU (wd Y 2),vI vU (wd Y 3)] 26)).alloc (.cells #[vI vU 0,vI vU 0,vI vU 0,vI vU 0] 26)):=(((Below.refl _ _).alloc (by simp) _).alloc (by simp) _).alloc (by simp; omega) _
 go_enter Tryz.func124,Tryz.ntmps124
 go_upto_region 1 with (fail)
 generalize (((w.alloc (.cells #[vI vU (wd X 0),vI vU (wd X 1),vI vU (wd X 2),vI vU (wd X 3)] 26)).alloc (.cells #[vI vU (wd Y 0),vI vU (wd Y 1),vI vU (wd Y 2),vI vU (wd Y 3)] 26)).alloc (.cells #[vI vU 0,vI vU 0,vI vU 0,vI vU 0] 26)) = wz at *
 obtain ⟨x0,x1,x2,x3⟩:=zac hRX
 obtain ⟨y0,y1,y2,y3⟩:=zac hRY
 have l1:=hRX.lt
 have l2:=hRY.lt
 have sB : ∀ W,Bt (w.heap.size + 1 + 1) 26 4 wz W → (Bt (w.heap.size + 1 + 1) 26 4 wz W ∧ W.cell? ⟨w.heap.size,0,none⟩ = some (vI vU (wd X 0)) ∧ W.cell? ⟨w.heap.size,1,none⟩ = some (vI vU (wd X 1)) ∧ W.cell? ⟨w.heap.size,2,none⟩ = some (vI vU (wd X 2)) ∧ W.cell? ⟨w.heap.size,3,none⟩ = some (vI vU (wd X 3)) ∧ W.cell? ⟨(w.heap.size + 1),0,none⟩ = some (vI vU (wd Y 0)) ∧ W.cell? ⟨(w.heap.size + 1),1,none⟩ = some (vI vU (wd Y 1)) ∧ W.cell? ⟨(w.heap.size + 1),2,none⟩ = some (vI vU (wd Y 2)) ∧ W.cell? ⟨(w.heap.size + 1),3,none⟩ = some (vI vU (wd Y 3))):=fun W hB => ⟨hB,(hB.cell l1 (by omega)).trans x0,(hB.cell l1 (by omega)).trans x1,(hB.cell l1 (by omega)).trans x2,(hB.cell l1 (by omega)).trans x3,(hB.cell l2 (by omega)).trans y0,(hB.cell l2 (by omega)).trans y1,(hB.cell l2 (by omega)).trans y2,(hB.cell l2 (by omega)).trans y3⟩
 have hS0:=sB wz (.of hRR (But.refl _ _))
 have SB:=veil sB
 have HB0:=veil hB0
 clear sB hB0 hRX hRY hRR
 go_region_held3 (fun W => Bt (w.heap.size + 1 + 1) 26 4 wz W ∧ W.cell? ⟨w.heap.size,0,none⟩ = some (vI vU (wd X 0)) ∧ W.cell? ⟨w.heap.size,1,none⟩ = some (vI vU (wd X 1)) ∧ W.cell? ⟨w.heap.size,2,none⟩ = some (vI vU (wd X 2)) ∧ W.cell? ⟨w.heap.size,3,none⟩ = some (vI vU (wd X 3)) ∧ W.cell? ⟨(w.heap.size + 1),0,none⟩ = some (vI vU (wd Y 0)) ∧ W.cell? ⟨(w.heap.size + 1),1,none⟩ = some (vI vU (wd Y 1)) ∧ W.cell? ⟨(w.heap.size + 1),2,none⟩ = some (vI vU (wd Y 2)) ∧ W.cell? ⟨(w.heap.size + 1),3,none⟩ = some (vI vU (wd Y 3)))
  (first
   | with_reducible assumption
   | exact hS0
   | exact SB.out _ hS0.1.drew
   | exact SB.out _ ((((hb2.set 0 _).set 1 _).set 2 _).set 3 _))
  (first
   | (go_at_call 125; (with_reducible refine (HP.out _).mono ?_); rintro e w1 ⟨rfl,hb⟩; have hb1:=hS0.1.drew.call hb; have hS1:=SB.out _ hb1; clear hb)
   | (go_at_call 79; (with_reducible refine (HG.out _).mono ?_); rintro e w2 ⟨rfl,hb⟩; have hb2:=hb1.call hb; have hS2:=SB.out _ hb2; clear hb; obtain ⟨fz,hz⟩:=hb2.2; have HZ:=veil hz; obtain ⟨z0,z1,z2,z3⟩:=zac hz; obtain ⟨f0,f1,f2,f3⟩:=zah hz; clear hz))
 clear z0 z1 z2 z3 f0 f1 f2 f3 x0 x1 x2 x3 y0 y1 y2 y3
 go_wp2
 exact bodyPost_ret (results_cell_row rfl _ _ (w.heap.size + 1 + 1) 26 #[vI vU (wd Z 0),vI vU (wd Z 1),vI vU (wd Z 2),vI vU (wd Z 3)] (0,0) _ rfl (blk4 (put4 HZ.out fun j => .int .u64 (wd Z j))) Tryz.underlying26 rfl (by kernel_rfl)) rfl ⟨rfl,zaj (HB0.out.trans (hb2.below (by omega) HB0.out.size)) (by omega) _ _ _ _⟩
theorem zdg (X Y Z : Nat) (hX : X < Pt.pp) (hY : Y < Pt.pp) (hZ : Z = (X + Pt.pp - Y) % Pt.pp) (w : World) :
  Calls Tryz.prog 123 #[.agg #[vI vU (wd X 0),vI vU (wd X 1),vI vU (wd X 2),vI vU (wd X 3)],.agg #[vI vU (wd Y 0),vI vU (wd Y 1),vI vU (wd Y 2),vI vU (wd Y 3)]] w fun e w' => e = .returned (.agg #[vI vU (wd Z 0),vI vU (wd Z 1),vI vU (wd Z 2),vI vU (wd Z 3)]) ∧ Below w.heap.size w w':=by
 obtain ⟨M,hM⟩ : ∃ M,M = Pt.pp:=⟨_,rfl⟩
 have HG:=veil (show ∀ W,Calls Tryz.prog 78 #[.agg #[vI vU (wd X 0),vI vU (wd X 1),vI vU (wd X 2),vI vU (wd X 3)],.agg #[vI vU (wd Y 0),vI vU (wd Y 1),vI vU (wd Y 2),vI vU (wd Y 3)],.agg #[vI vU (wd M 0),vI vU (wd M 1),vI vU (wd M 2),vI vU (wd M 3)]] W fun e W' => e = .returned (.agg #[vI vU (wd Z 0),vI vU (wd Z 1),vI vU (wd Z 2),vI vU (wd Z 3)]) ∧ Below W.heap.size W W' from fun W => by rw [hM,hZ]; exact zjg X Y Pt.pp hX hY zbp W)
 have HP:=veil (show ∀ W,Calls Tryz.prog 125 #[] W fun e W' => e = .returned (.agg #[vI vU (wd M 0),vI vU (wd M 1),vI vU (wd M 2),vI vU (wd M 3)]) ∧ Below W.heap.size W W' from fun W => by rw [hM]; exact zjs W)
 clear hM hZ
 have hRX : (((w.alloc (.cells #[vI vU (wd X 0),vI vU (wd X 1),vI vU (wd X 2),vI vU (wd X 3)] 26)).alloc (.cells #[vI vU (wd Y 0),vI vU (wd Y 1),vI vU (wd Y 2),vI vU (wd Y 3)] 26)).alloc (.cells #[vI vU 0,vI vU 0,vI vU 0,vI vU 0] 26)).rowIs w.heap.size 26 4 (fun j => .int .u64 (wd X j)):=((zag (n:=4) rfl rfl (arr4 fun j => .int .u64 (wd X j))).alloc _).alloc _
 have hRY : (((w.alloc (.cells #[vI vU (wd X 0),vI vU (wd X 1),vI vU (wd X 2),vI vU (wd X 3)] 26)).alloc (.cells #[vI vU (wd Y 0),vI vU (wd Y 1),vI vU (wd Y 2),vI vU (wd Y 3)] 26)).alloc (.cells #[vI vU 0,vI vU 0,vI vU 0,vI vU 0] 26)).rowIs (w.heap.size + 1) 26 4 (fun j => .int .u64 (wd Y j)):=(zag (n:=4) (by simp) rfl (arr4 fun j => .int .u64 (wd Y j))).alloc _
 have hRR : (((w.alloc (.cells #[vI vU (wd X 0),vI vU (wd X 1),vI vU (wd X 2),vI vU (wd X 3)] 26)).alloc (.cells #[vI vU (wd Y 0),vI vU (wd Y 1),vI vU (wd Y 2),vI vU (wd Y 3)] 26)).alloc (.cells #[vI vU 0,vI vU 0,vI vU 0,vI vU 0] 26)).rowIs (w.heap.size + 1 + 1) 26 4 (fun _ => .int .u64 0):=zag (n:=4) (by simp) rfl (arr4 fun _ => .int .u64 0)
 have hB0 : Below w.heap.size w (((w.alloc (.cells #[vI vU (wd X 0),vI vU (wd X 1),vI vU (wd X 2),vI vU (wd X 3)] 26)).alloc (.cells #[vI vU (wd Y 0),vI vU (wd Y 1),vI vU (wd Y 2),vI vU (wd Y 3)] 26)).alloc (.cells #[vI vU 0,vI vU 0,vI vU 0,vI vU 0] 26)):=(((Below.refl _ _).alloc (by simp) _).alloc (by simp) _).alloc (by simp; omega) _
 go_enter Tryz.func123,Tryz.ntmps123
 go_upto_region 1 with (fail)
 generalize (((w.alloc (.cells #[vI vU (wd X 0),vI vU (wd X 1),vI vU (wd X 2),vI vU (wd X 3)] 26)).alloc (.cells #[vI vU (wd Y 0),vI vU (wd Y 1),vI vU (wd Y 2),vI vU (wd Y 3)] 26)).alloc (.cells #[vI vU 0,vI vU 0,vI vU 0,vI vU 0] 26)) = wz at *
 obtain ⟨x0,x1,x2,x3⟩:=zac hRX
 obtain ⟨y0,y1,y2,y3⟩:=zac hRY
 have l1:=hRX.lt
 have l2:=hRY.lt
 have sB : ∀ W,Bt (w.heap.size + 1 + 1) 26 4 wz W → (Bt (w.heap.size + 1 + 1) 26 4 wz W ∧ W.cell? ⟨w.heap.size,0,none⟩ = some (vI vU (wd X 0)) ∧ W.cell? ⟨w.heap.size,1,none⟩ = some (vI vU (wd X 1)) ∧ W.cell? ⟨w.heap.size,2,none⟩ = some (vI vU (wd X 2)) ∧ W.cell? ⟨w.heap.size,3,none⟩ = some (vI vU (wd X 3)) ∧ W.cell? ⟨(w.heap.size + 1),0,none⟩ = some (vI vU (wd Y 0)) ∧ W.cell? ⟨(w.heap.size + 1),1,none⟩ = some (vI vU (wd Y 1)) ∧ W.cell? ⟨(w.heap.size + 1),2,none⟩ = some (vI vU (wd Y 2)) ∧ W.cell? ⟨(w.heap.size + 1),3,none⟩ = some (vI vU (wd Y 3))):=fun W hB => ⟨hB,(hB.cell l1 (by omega)).trans x0,(hB.cell l1 (by omega)).trans x1,(hB.cell l1 (by omega)).trans x2,(hB.cell l1 (by omega)).trans x3,(hB.cell l2 (by omega)).trans y0,(hB.cell l2 (by omega)).trans y1,(hB.cell l2 (by omega)).trans y2,(hB.cell l2 (by omega)).trans y3⟩
 have hS0:=sB wz (.of hRR (But.refl _ _))
 have SB:=veil sB
 have HB0:=veil hB0
 clear sB hB0 hRX hRY hRR
 go_region_held3 (fun W => Bt (w.heap.size + 1 + 1) 26 4 wz W ∧ W.cell? ⟨w.heap.size,0,none⟩ = some (vI vU (wd X 0)) ∧ W.cell? ⟨w.heap.size,1,none⟩ = some (vI vU (wd X 1)) ∧ W.cell? ⟨w.heap.size,2,none⟩ = some (vI vU (wd X 2)) ∧ W.cell? ⟨w.heap.size,3,none⟩ = some (vI vU (wd X 3)) ∧ W.cell? ⟨(w.heap.size + 1),0,none⟩ = some (vI vU (wd Y 0)) ∧ W.cell? ⟨(w.heap.size + 1),1,none⟩ = some (vI vU (wd Y 1)) ∧ W.cell? ⟨(w.heap.size + 1),2,none⟩ = some (vI vU (wd Y 2)) ∧ W.cell? ⟨(w.heap.size + 1),3,none⟩ = some (vI vU (wd Y 3)))
  (first
   | with_reducible assumption
   | exact hS0
   | exact SB.out _ hS0.1.drew
   | exact SB.out _ ((((hb2.set 0 _).set 1 _).set 2 _).set 3 _))
  (first
   | (go_at_call 125; (with_reducible refine (HP.out _).mono ?_); rintro e w1 ⟨rfl,hb⟩; have hb1:=hS0.1.drew.call hb; have hS1:=SB.out _ hb1; clear hb)
   | (go_at_call 78; (with_reducible refine (HG.out _).mono ?_); rintro e w2 ⟨rfl,hb⟩; have hb2:=hb1.call hb; have hS2:=SB.out _ hb2; clear hb; obtain ⟨fz,hz⟩:=hb2.2; have HZ:=veil hz; obtain ⟨z0,z1,z2,z3⟩:=zac hz; obtain ⟨f0,f1,f2,f3⟩:=zah hz; clear hz))
 clear z0 z1 z2 z3 f0 f1 f2 f3 x0 x1 x2 x3 y0 y1 y2 y3
 go_wp2
 exact bodyPost_ret (results_cell_row rfl _ _ (w.heap.size + 1 + 1) 26 #[vI vU (wd Z 0),vI vU (wd Z 1),vI vU (wd Z 2),vI vU (wd Z 3)] (0,0) _ rfl (blk4 (put4 HZ.out fun j => .int .u64 (wd Z j))) Tryz.underlying26 rfl (by kernel_rfl)) rfl ⟨rfl,zaj (HB0.out.trans (hb2.below (by omega) HB0.out.size)) (by omega) _ _ _ _⟩
theorem wd_nil (i : Nat) : wd 0 i = 0:=by unfold wd dg; simp
theorem zes {w : World} {b : Nat} {t : Nat} (hb : b = w.heap.size) : (w.alloc (.cells #[vI vU 0,vI vU 0,vI vU 0,vI vU 0,vI vU 0,vI vU 0,vI vU 0,vI vU 0,.bool false] t)).rowIs b t 9 (pc 0 0 false):=zag (n:=9) hb rfl fun i hi => by
 have h:=arr9 0 0 false i hi
 simp only [wd_nil] at h
 exact h
theorem rneg_is (X Y Z : Nat) (f : Bool) (hY : Y < Pt.pp) (hZ : Z = (0 + Pt.pp - Y) % Pt.pp) (w : World) :
  Calls Tryz.prog 122 #[.agg #[vI vU (wd X 0),vI vU (wd X 1),vI vU (wd X 2),vI vU (wd X 3),vI vU (wd Y 0),vI vU (wd Y 1),vI vU (wd Y 2),vI vU (wd Y 3),.bool (f)]] w fun e w' => e = .returned (.agg #[vI vU (wd X 0),vI vU (wd X 1),vI vU (wd X 2),vI vU (wd X 3),vI vU (wd Z 0),vI vU (wd Z 1),vI vU (wd Z 2),vI vU (wd Z 3),.bool (f)]) ∧ Below w.heap.size w w':=by
 have hRA : ((w.alloc (.cells #[vI vU (wd X 0),vI vU (wd X 1),vI vU (wd X 2),vI vU (wd X 3),vI vU (wd Y 0),vI vU (wd Y 1),vI vU (wd Y 2),vI vU (wd Y 3),.bool (f)] 48)).alloc (.cells #[vI vU 0,vI vU 0,vI vU 0,vI vU 0,vI vU 0,vI vU 0,vI vU 0,vI vU 0,.bool false] 48)).rowIs w.heap.size 48 9 (pc X Y f):=(zez X Y f rfl).alloc _
 have hRR : ((w.alloc (.cells #[vI vU (wd X 0),vI vU (wd X 1),vI vU (wd X 2),vI vU (wd X 3),vI vU (wd Y 0),vI vU (wd Y 1),vI vU (wd Y 2),vI vU (wd Y 3),.bool (f)] 48)).alloc (.cells #[vI vU 0,vI vU 0,vI vU 0,vI vU 0,vI vU 0,vI vU 0,vI vU 0,vI vU 0,.bool false] 48)).rowIs (w.heap.size + 1) 48 9 (pc 0 0 false):=zes (by simp)
 have hB0 : Below w.heap.size w ((w.alloc (.cells #[vI vU (wd X 0),vI vU (wd X 1),vI vU (wd X 2),vI vU (wd X 3),vI vU (wd Y 0),vI vU (wd Y 1),vI vU (wd Y 2),vI vU (wd Y 3),.bool (f)] 48)).alloc (.cells #[vI vU 0,vI vU 0,vI vU 0,vI vU 0,vI vU 0,vI vU 0,vI vU 0,vI vU 0,.bool false] 48)):=((Below.refl _ _).alloc (by simp) _).alloc (by simp) _
 have HS:=veil (show ∀ W,Calls Tryz.prog 123 #[.agg #[vI vU 0,vI vU 0,vI vU 0,vI vU 0],.agg #[vI vU (wd Y 0),vI vU (wd Y 1),vI vU (wd Y 2),vI vU (wd Y 3)]] W fun e W' => e = .returned (.agg #[vI vU (wd Z 0),vI vU (wd Z 1),vI vU (wd Z 2),vI vU (wd Z 3)]) ∧ Below W.heap.size W W' from fun W => by
  have h:=zdg 0 Y Z zhi hY hZ W
  simp only [wd_nil] at h
  exact h)
 clear hY hZ
 go_enter Tryz.func122,Tryz.ntmps122
 go_upto_region 1 with (fail)
 generalize ((w.alloc (.cells #[vI vU (wd X 0),vI vU (wd X 1),vI vU (wd X 2),vI vU (wd X 3),vI vU (wd Y 0),vI vU (wd Y 1),vI vU (wd Y 2),vI vU (wd Y 3),.bool (f)] 48)).alloc (.cells #[vI vU 0,vI vU 0,vI vU 0,vI vU 0,vI vU 0,vI vU 0,vI vU 0,vI vU 0,.bool false] 48)) = wz at *
 obtain ⟨x0,x1,x2,x3⟩:=pt_x hRA
 obtain ⟨y0,y1,y2,y3⟩:=pt_y hRA
 have f0:=pt_f hRA
 have lz:=hRA.lt
 have sB : ∀ W,Bt (w.heap.size + 1) 48 9 wz W → (Bt (w.heap.size + 1) 48 9 wz W ∧ W.cell? ⟨w.heap.size,0,none⟩ = some (vI vU (wd X 0)) ∧ W.cell? ⟨w.heap.size,1,none⟩ = some (vI vU (wd X 1)) ∧ W.cell? ⟨w.heap.size,2,none⟩ = some (vI vU (wd X 2)) ∧ W.cell? ⟨w.heap.size,3,none⟩ = some (vI vU (wd X 3)) ∧ W.cell? ⟨w.heap.size,4,none⟩ = some (vI vU (wd Y 0)) ∧ W.cell? ⟨w.heap.size,5,none⟩ = some (vI vU (wd Y 1)) ∧ W.cell? ⟨w.heap.size,6,none⟩ = some (vI vU (wd Y 2)) ∧ W.cell? ⟨w.heap.size,7,none⟩ = some (vI vU (wd Y 3)) ∧ W.cell? ⟨w.heap.size,8,none⟩ = some (.bool f)):=fun W hB => ⟨hB,(hB.cell lz (by omega)).trans x0,(hB.cell lz (by omega)).trans x1,(hB.cell lz (by omega)).trans x2,(hB.cell lz (by omega)).trans x3,(hB.cell lz (by omega)).trans y0,(hB.cell lz (by omega)).trans y1,(hB.cell lz (by omega)).trans y2,(hB.cell lz (by omega)).trans y3,(hB.cell lz (by omega)).trans f0⟩
 have hS0:=sB wz (.of hRR (But.refl _ _))
 have SB:=veil sB
 have HB0:=veil hB0
 clear sB hB0 hRA hRR
 refine wp_region_held_drew (S:=fun W => Bt (w.heap.size + 1) 48 9 wz W ∧ W.cell? ⟨w.heap.size,0,none⟩ = some (vI vU (wd X 0)) ∧ W.cell? ⟨w.heap.size,1,none⟩ = some (vI vU (wd X 1)) ∧ W.cell? ⟨w.heap.size,2,none⟩ = some (vI vU (wd X 2)) ∧ W.cell? ⟨w.heap.size,3,none⟩ = some (vI vU (wd X 3)) ∧ W.cell? ⟨w.heap.size,4,none⟩ = some (vI vU (wd Y 0)) ∧ W.cell? ⟨w.heap.size,5,none⟩ = some (vI vU (wd Y 1)) ∧ W.cell? ⟨w.heap.size,6,none⟩ = some (vI vU (wd Y 2)) ∧ W.cell? ⟨w.heap.size,7,none⟩ = some (vI vU (wd Y 3)) ∧ W.cell? ⟨w.heap.size,8,none⟩ = some (.bool f)) (by kernel_rfl) (SB.out _ hS0.1.drew) (fun hH => ?_)
 repeat
  ((first
    | (refine wpAnyH_take (i:=0) (v:=.pointer (some ⟨w.heap.size,0,none⟩)) rfl (by kernel_rfl) (by kernel_rfl) (by decide +kernel) (fun _ _ _ h => h) (Or.inl ⟨by rfl,fun W hSw => (by dsimp only at hSw; go_simp)⟩) (by with_reducible assumption) ?_)
    | (refine wpAnyH_take (i:=1) (v:=.agg #[vI vU (wd X 0),vI vU (wd X 1),vI vU (wd X 2),vI vU (wd X 3)]) rfl (by kernel_rfl) (by kernel_rfl) (by decide +kernel) (fun _ _ _ h => h) (Or.inl ⟨by rfl,fun W hSw => (by dsimp only at hSw; go_simp)⟩) (by with_reducible assumption) ?_)
    | (refine wpAnyH_take (i:=2) (v:=.agg #[vI vU 0,vI vU 0,vI vU 0,vI vU 0]) rfl (by kernel_rfl) (by kernel_rfl) (by decide +kernel) (fun _ _ _ h => h) (Or.inl ⟨by rfl,fun W hSw => (by dsimp only at hSw; go_simp)⟩) (by with_reducible assumption) ?_)
    | (refine wpAnyH_take (i:=3) (v:=.pointer (some ⟨w.heap.size,4,none⟩)) rfl (by kernel_rfl) (by kernel_rfl) (by decide +kernel) (fun _ _ _ h => h) (Or.inl ⟨by rfl,fun W hSw => (by dsimp only at hSw; go_simp)⟩) (by with_reducible assumption) ?_)
    | (refine wpAnyH_take (i:=4) (v:=.agg #[vI vU (wd Y 0),vI vU (wd Y 1),vI vU (wd Y 2),vI vU (wd Y 3)]) rfl (by kernel_rfl) (by kernel_rfl) (by decide +kernel) (fun _ _ _ h => h) (Or.inl ⟨by rfl,fun W hSw => (by dsimp only at hSw; go_simp)⟩) (by with_reducible assumption) ?_)
    | (refine wpAnyH_ready (rs:=[5]) (by decide +kernel) (by simp) ?_; refine AllReadyH.cons rfl (fun K hK => ?_) AllReadyH.nil; go_simp; (with_reducible refine (HS.out _).mono ?_); rintro e w1 ⟨rfl,hb⟩; have hb1:=hS0.1.drew.call hb; clear hb; obtain ⟨fz,hz⟩:=hb1.2; have HZ:=veil (blkOf hz); clear hz; refine hK.out _ _ (SB.out _ hb1) (fun hH => ?_); clear hK K)
    | (refine wpAnyH_take (i:=6) (v:=.pointer (some ⟨w.heap.size,8,none⟩)) rfl (by kernel_rfl) (by kernel_rfl) (by decide +kernel) (fun _ _ _ h => h) (Or.inl ⟨by rfl,fun W hSw => (by dsimp only at hSw; go_simp)⟩) (by with_reducible assumption) ?_)
    | (refine wpAnyH_take (i:=7) (v:=.bool f) rfl (by kernel_rfl) (by kernel_rfl) (by decide +kernel) (fun _ _ _ h => h) (Or.inl ⟨by rfl,fun W hSw => (by dsimp only at hSw; go_simp)⟩) (by with_reducible assumption) ?_)
    | (refine wpAnyH_take (i:=8) (v:=.agg #[vI vU (wd X 0),vI vU (wd X 1),vI vU (wd X 2),vI vU (wd X 3),vI vU (wd Z 0),vI vU (wd Z 1),vI vU (wd Z 2),vI vU (wd Z 3),.bool (f)]) rfl (by kernel_rfl) (by kernel_rfl) (by decide +kernel) (fun _ _ _ h => h) (Or.inl ⟨by rfl,fun W hSw => (by dsimp only at hSw; go_simp)⟩) (by with_reducible assumption) ?_)
    | (refine wpAnyH_ready (rs:=[9]) (by decide +kernel) (by simp) ?_; refine AllReadyH.cons rfl (fun K hK => ?_) AllReadyH.nil; refine zfk rfl 48 _ _ rfl (w.heap.size + 1) #[vI vU (wd X 0),vI vU (wd X 1),vI vU (wd X 2),vI vU (wd X 3),vI vU (wd Z 0),vI vU (wd Z 1),vI vU (wd Z 2),vI vU (wd Z 3),.bool (f)] rfl rfl 48 _ HZ.out zbg (by rw [zaw]; rfl) (one9 X Z f) ?_; refine hK.out _ _ (SB.out _ (hb1.setRow rfl)) (fun hH => ?_); clear hK K)
    | fail);
   try simp only [Act.put,List.setIfInBounds_toArray,List.set_cons_zero,List.set_cons_succ,List.getElem_toArray,List.getElem_cons_zero,List.getElem_cons_succ])
 refine wpAnyH_done (by decide +kernel) ?_ _
 clear x0 x1 x2 x3 y0 y1 y2 y3 f0
 have HFIN:=veil (setRow_heap _ (w.heap.size + 1) _ #[vI vU (wd X 0),vI vU (wd X 1),vI vU (wd X 2),vI vU (wd X 3),vI vU (wd Z 0),vI vU (wd Z 1),vI vU (wd Z 2),vI vU (wd Z 3),.bool (f)] 48 (0,0) HZ.out)
 clear hH
 go_wp2
 exact bodyPost_ret (results_cell_row rfl _ _ (w.heap.size + 1) 48 #[vI vU (wd X 0),vI vU (wd X 1),vI vU (wd X 2),vI vU (wd X 3),vI vU (wd Z 0),vI vU (wd Z 1),vI vU (wd Z 2),vI vU (wd Z 3),.bool (f)] (0,0) _ rfl HFIN.out Tryz.underlying48 rfl zbg) rfl ⟨rfl,HB0.out.trans ((hb1.setRow (cs:=#[vI vU (wd X 0),vI vU (wd X 1),vI vU (wd X 2),vI vU (wd X 3),vI vU (wd Z 0),vI vU (wd Z 1),vI vU (wd Z 2),vI vU (wd Z 3),.bool (f)]) rfl).below (by omega) HB0.out.size)⟩
theorem radd_far1 (X1 Y1 X2 Y2 : Nat) (f2 : Bool) (w : World) :
  Calls Tryz.prog 72 #[.agg #[vI vU (wd X1 0),vI vU (wd X1 1),vI vU (wd X1 2),vI vU (wd X1 3),vI vU (wd Y1 0),vI vU (wd Y1 1),vI vU (wd Y1 2),vI vU (wd Y1 3),.bool (true)],.agg #[vI vU (wd X2 0),vI vU (wd X2 1),vI vU (wd X2 2),vI vU (wd X2 3),vI vU (wd Y2 0),vI vU (wd Y2 1),vI vU (wd Y2 2),vI vU (wd Y2 3),.bool (f2)]] w fun e w' => e = .returned (.agg #[vI vU (wd X2 0),vI vU (wd X2 1),vI vU (wd X2 2),vI vU (wd X2 3),vI vU (wd Y2 0),vI vU (wd Y2 1),vI vU (wd Y2 2),vI vU (wd Y2 3),.bool (f2)]) ∧ Below w.heap.size w w':=by
 have hA : (((w.alloc (.cells #[vI vU (wd X1 0),vI vU (wd X1 1),vI vU (wd X1 2),vI vU (wd X1 3),vI vU (wd Y1 0),vI vU (wd Y1 1),vI vU (wd Y1 2),vI vU (wd Y1 3),.bool (true)] 48)).alloc (.cells #[vI vU (wd X2 0),vI vU (wd X2 1),vI vU (wd X2 2),vI vU (wd X2 3),vI vU (wd Y2 0),vI vU (wd Y2 1),vI vU (wd Y2 2),vI vU (wd Y2 3),.bool (f2)] 48)).alloc (.cells #[vI vU 0,vI vU 0,vI vU 0,vI vU 0,vI vU 0,vI vU 0,vI vU 0,vI vU 0,.bool false] 48)).rowIs w.heap.size 48 9 (pc X1 Y1 true):=((zez X1 Y1 true rfl).alloc _).alloc _
 have hC : (((w.alloc (.cells #[vI vU (wd X1 0),vI vU (wd X1 1),vI vU (wd X1 2),vI vU (wd X1 3),vI vU (wd Y1 0),vI vU (wd Y1 1),vI vU (wd Y1 2),vI vU (wd Y1 3),.bool (true)] 48)).alloc (.cells #[vI vU (wd X2 0),vI vU (wd X2 1),vI vU (wd X2 2),vI vU (wd X2 3),vI vU (wd Y2 0),vI vU (wd Y2 1),vI vU (wd Y2 2),vI vU (wd Y2 3),.bool (f2)] 48)).alloc (.cells #[vI vU 0,vI vU 0,vI vU 0,vI vU 0,vI vU 0,vI vU 0,vI vU 0,vI vU 0,.bool false] 48)).rowIs (w.heap.size + 1) 48 9 (pc X2 Y2 f2):=(zez X2 Y2 f2 (by simp)).alloc _
 have hR : (((w.alloc (.cells #[vI vU (wd X1 0),vI vU (wd X1 1),vI vU (wd X1 2),vI vU (wd X1 3),vI vU (wd Y1 0),vI vU (wd Y1 1),vI vU (wd Y1 2),vI vU (wd Y1 3),.bool (true)] 48)).alloc (.cells #[vI vU (wd X2 0),vI vU (wd X2 1),vI vU (wd X2 2),vI vU (wd X2 3),vI vU (wd Y2 0),vI vU (wd Y2 1),vI vU (wd Y2 2),vI vU (wd Y2 3),.bool (f2)] 48)).alloc (.cells #[vI vU 0,vI vU 0,vI vU 0,vI vU 0,vI vU 0,vI vU 0,vI vU 0,vI vU 0,.bool false] 48)).rowIs (w.heap.size + 1 + 1) 48 9 (pc 0 0 false):=zes (by simp)
 have hB : Below w.heap.size w (((w.alloc (.cells #[vI vU (wd X1 0),vI vU (wd X1 1),vI vU (wd X1 2),vI vU (wd X1 3),vI vU (wd Y1 0),vI vU (wd Y1 1),vI vU (wd Y1 2),vI vU (wd Y1 3),.bool (true)] 48)).alloc (.cells #[vI vU (wd X2 0),vI vU (wd X2 1),vI vU (wd X2 2),vI vU (wd X2 3),vI vU (wd Y2 0),vI vU (wd Y2 1),vI vU (wd Y2 2),vI vU (wd Y2 3),.bool (f2)] 48)).alloc (.cells #[vI vU 0,vI vU 0,vI vU 0,vI vU 0,vI vU 0,vI vU 0,vI vU 0,vI vU 0,.bool false] 48)):=(((Below.refl _ _).alloc (by simp) _).alloc (by simp) _).alloc (by simp; omega) _
 go_enter Tryz.func72,Tryz.ntmps72
 go_upto_region 1 with (fail)
 generalize (((w.alloc (.cells #[vI vU (wd X1 0),vI vU (wd X1 1),vI vU (wd X1 2),vI vU (wd X1 3),vI vU (wd Y1 0),vI vU (wd Y1 1),vI vU (wd Y1 2),vI vU (wd Y1 3),.bool (true)] 48)).alloc (.cells #[vI vU (wd X2 0),vI vU (wd X2 1),vI vU (wd X2 2),vI vU (wd X2 3),vI vU (wd Y2 0),vI vU (wd Y2 1),vI vU (wd Y2 2),vI vU (wd Y2 3),.bool (f2)] 48)).alloc (.cells #[vI vU 0,vI vU 0,vI vU 0,vI vU 0,vI vU 0,vI vU 0,vI vU 0,vI vU 0,.bool false] 48)) = wz at *
 have fA:=pt_f hA
 have fC:=pt_f hC
 have HV:=veil (blk9 hC)
 have HR:=veil (blkOf hR)
 clear hA hC hR
 go_wp2_with (first
  | ((with_reducible refine zar 13 ?_); refine wpList_load_row rfl 48 _ rfl (w.heap.size + 1) rfl 48 #[vI vU (wd X2 0),vI vU (wd X2 1),vI vU (wd X2 2),vI vU (wd X2 3),vI vU (wd Y2 0),vI vU (wd Y2 1),vI vU (wd Y2 2),vI vU (wd Y2 3),.bool (f2)] (0,0) _ HV.out Tryz.underlying48 rfl zbg ?_)
  | ((with_reducible refine zbb ?_); refine wpList_store_row rfl 48 _ _ rfl (w.heap.size + 1 + 1) #[vI vU (wd X2 0),vI vU (wd X2 1),vI vU (wd X2 2),vI vU (wd X2 3),vI vU (wd Y2 0),vI vU (wd Y2 1),vI vU (wd Y2 2),vI vU (wd Y2 3),.bool (f2)] rfl rfl 48 _ HR.out zbg (by rw [zaw]; rfl) (one9 _ _ _) ?_))
 exact bodyPost_ret (results_cell_row rfl _ _ (w.heap.size + 1 + 1) 48 #[vI vU (wd X2 0),vI vU (wd X2 1),vI vU (wd X2 2),vI vU (wd X2 3),vI vU (wd Y2 0),vI vU (wd Y2 1),vI vU (wd Y2 2),vI vU (wd Y2 3),.bool (f2)] (0,0) _ rfl (setRow_heap wz (w.heap.size + 1 + 1) _ #[vI vU (wd X2 0),vI vU (wd X2 1),vI vU (wd X2 2),vI vU (wd X2 3),vI vU (wd Y2 0),vI vU (wd Y2 1),vI vU (wd Y2 2),vI vU (wd Y2 3),.bool (f2)] 48 (0,0) HR.out) Tryz.underlying48 rfl zbg) rfl ⟨rfl,zbn hB (by omega) _⟩
theorem radd_far2 (X1 Y1 X2 Y2 : Nat) (w : World) :
  Calls Tryz.prog 72 #[.agg #[vI vU (wd X1 0),vI vU (wd X1 1),vI vU (wd X1 2),vI vU (wd X1 3),vI vU (wd Y1 0),vI vU (wd Y1 1),vI vU (wd Y1 2),vI vU (wd Y1 3),.bool (false)],.agg #[vI vU (wd X2 0),vI vU (wd X2 1),vI vU (wd X2 2),vI vU (wd X2 3),vI vU (wd Y2 0),vI vU (wd Y2 1),vI vU (wd Y2 2),vI vU (wd Y2 3),.bool (true)]] w fun e w' => e = .returned (.agg #[vI vU (wd X1 0),vI vU (wd X1 1),vI vU (wd X1 2),vI vU (wd X1 3),vI vU (wd Y1 0),vI vU (wd Y1 1),vI vU (wd Y1 2),vI vU (wd Y1 3),.bool (false)]) ∧ Below w.heap.size w w':=by
 have hA : (((w.alloc (.cells #[vI vU (wd X1 0),vI vU (wd X1 1),vI vU (wd X1 2),vI vU (wd X1 3),vI vU (wd Y1 0),vI vU (wd Y1 1),vI vU (wd Y1 2),vI vU (wd Y1 3),.bool (false)] 48)).alloc (.cells #[vI vU (wd X2 0),vI vU (wd X2 1),vI vU (wd X2 2),vI vU (wd X2 3),vI vU (wd Y2 0),vI vU (wd Y2 1),vI vU (wd Y2 2),vI vU (wd Y2 3),.bool (true)] 48)).alloc (.cells #[vI vU 0,vI vU 0,vI vU 0,vI vU 0,vI vU 0,vI vU 0,vI vU 0,vI vU 0,.bool false] 48)).rowIs w.heap.size 48 9 (pc X1 Y1 false):=((zez X1 Y1 false rfl).alloc _).alloc _
 have hC : (((w.alloc (.cells #[vI vU (wd X1 0),vI vU (wd X1 1),vI vU (wd X1 2),vI vU (wd X1 3),vI vU (wd Y1 0),vI vU (wd Y1 1),vI vU (wd Y1 2),vI vU (wd Y1 3),.bool (false)] 48)).alloc (.cells #[vI vU (wd X2 0),vI vU (wd X2 1),vI vU (wd X2 2),vI vU (wd X2 3),vI vU (wd Y2 0),vI vU (wd Y2 1),vI vU (wd Y2 2),vI vU (wd Y2 3),.bool (true)] 48)).alloc (.cells #[vI vU 0,vI vU 0,vI vU 0,vI vU 0,vI vU 0,vI vU 0,vI vU 0,vI vU 0,.bool false] 48)).rowIs (w.heap.size + 1) 48 9 (pc X2 Y2 true):=(zez X2 Y2 true (by simp)).alloc _
 have hR : (((w.alloc (.cells #[vI vU (wd X1 0),vI vU (wd X1 1),vI vU (wd X1 2),vI vU (wd X1 3),vI vU (wd Y1 0),vI vU (wd Y1 1),vI vU (wd Y1 2),vI vU (wd Y1 3),.bool (false)] 48)).alloc (.cells #[vI vU (wd X2 0),vI vU (wd X2 1),vI vU (wd X2 2),vI vU (wd X2 3),vI vU (wd Y2 0),vI vU (wd Y2 1),vI vU (wd Y2 2),vI vU (wd Y2 3),.bool (true)] 48)).alloc (.cells #[vI vU 0,vI vU 0,vI vU 0,vI vU 0,vI vU 0,vI vU 0,vI vU 0,vI vU 0,.bool false] 48)).rowIs (w.heap.size + 1 + 1) 48 9 (pc 0 0 false):=zes (by simp)
 have hB : Below w.heap.size w (((w.alloc (.cells #[vI vU (wd X1 0),vI vU (wd X1 1),vI vU (wd X1 2),vI vU (wd X1 3),vI vU (wd Y1 0),vI vU (wd Y1 1),vI vU (wd Y1 2),vI vU (wd Y1 3),.bool (false)] 48)).alloc (.cells #[vI vU (wd X2 0),vI vU (wd X2 1),vI vU (wd X2 2),vI vU (wd X2 3),vI vU (wd Y2 0),vI vU (wd Y2 1),vI vU (wd Y2 2),vI vU (wd Y2 3),.bool (true)] 48)).alloc (.cells #[vI vU 0,vI vU 0,vI vU 0,vI vU 0,vI vU 0,vI vU 0,vI vU 0,vI vU 0,.bool false] 48)):=(((Below.refl _ _).alloc (by simp) _).alloc (by simp) _).alloc (by simp; omega) _
 go_enter Tryz.func72,Tryz.ntmps72
 go_upto_region 1 with (fail)
 generalize (((w.alloc (.cells #[vI vU (wd X1 0),vI vU (wd X1 1),vI vU (wd X1 2),vI vU (wd X1 3),vI vU (wd Y1 0),vI vU (wd Y1 1),vI vU (wd Y1 2),vI vU (wd Y1 3),.bool (false)] 48)).alloc (.cells #[vI vU (wd X2 0),vI vU (wd X2 1),vI vU (wd X2 2),vI vU (wd X2 3),vI vU (wd Y2 0),vI vU (wd Y2 1),vI vU (wd Y2 2),vI vU (wd Y2 3),.bool (true)] 48)).alloc (.cells #[vI vU 0,vI vU 0,vI vU 0,vI vU 0,vI vU 0,vI vU 0,vI vU 0,vI vU 0,.bool false] 48)) = wz at *
 have fA:=pt_f hA
 have fC:=pt_f hC
 have HV:=veil (blk9 hA)
 have HR:=veil (blkOf hR)
 clear hA hC hR
 go_wp2_with (first
  | ((with_reducible refine zar 16 ?_); refine wpList_load_row rfl 48 _ rfl w.heap.size rfl 48 #[vI vU (wd X1 0),vI vU (wd X1 1),vI vU (wd X1 2),vI vU (wd X1 3),vI vU (wd Y1 0),vI vU (wd Y1 1),vI vU (wd Y1 2),vI vU (wd Y1 3),.bool (false)] (0,0) _ HV.out Tryz.underlying48 rfl zbg ?_)
  | ((with_reducible refine zbb ?_); refine wpList_store_row rfl 48 _ _ rfl (w.heap.size + 1 + 1) #[vI vU (wd X1 0),vI vU (wd X1 1),vI vU (wd X1 2),vI vU (wd X1 3),vI vU (wd Y1 0),vI vU (wd Y1 1),vI vU (wd Y1 2),vI vU (wd Y1 3),.bool (false)] rfl rfl 48 _ HR.out zbg (by rw [zaw]; rfl) (one9 _ _ _) ?_))
 exact bodyPost_ret (results_cell_row rfl _ _ (w.heap.size + 1 + 1) 48 #[vI vU (wd X1 0),vI vU (wd X1 1),vI vU (wd X1 2),vI vU (wd X1 3),vI vU (wd Y1 0),vI vU (wd Y1 1),vI vU (wd Y1 2),vI vU (wd Y1 3),.bool (false)] (0,0) _ rfl (setRow_heap wz (w.heap.size + 1 + 1) _ #[vI vU (wd X1 0),vI vU (wd X1 1),vI vU (wd X1 2),vI vU (wd X1 3),vI vU (wd Y1 0),vI vU (wd Y1 1),vI vU (wd Y1 2),vI vU (wd Y1 3),.bool (false)] 48 (0,0) HR.out) Tryz.underlying48 rfl zbg) rfl ⟨rfl,zbn hB (by omega) _⟩
theorem zgm {w : World} {b t X Y : Nat} {f : Bool} (h : w.rowIs b t 9 (pc X Y f)) : w.rangeAt b 0 [.int .u64 (wd X 0),.int .u64 (wd X 1),.int .u64 (wd X 2),.int .u64 (wd X 3),.int .u64 (wd Y 0),.int .u64 (wd Y 1),.int .u64 (wd Y 2),.int .u64 (wd Y 3),.bool f]:=fun j v hv => by
 rw [Nat.zero_add,cell_of_row w b j _ t (0,0) (blk9 h)]
 simpa using hv
theorem radd_opp (X1 Y1 X2 Y2 : Nat) (hX1 : X1 < top) (hY1 : Y1 < top) (hX2 : X2 < top) (hY2 : Y2 < Pt.pp) (h : X1 = X2 ∧ Y1 = (0 + Pt.pp - Y2) % Pt.pp) (w : World) :
  Calls Tryz.prog 72 #[.agg #[vI vU (wd X1 0),vI vU (wd X1 1),vI vU (wd X1 2),vI vU (wd X1 3),vI vU (wd Y1 0),vI vU (wd Y1 1),vI vU (wd Y1 2),vI vU (wd Y1 3),.bool (false)],.agg #[vI vU (wd X2 0),vI vU (wd X2 1),vI vU (wd X2 2),vI vU (wd X2 3),vI vU (wd Y2 0),vI vU (wd Y2 1),vI vU (wd Y2 2),vI vU (wd Y2 3),.bool (false)]] w fun e w' => e = .returned (.agg #[vI vU 0,vI vU 0,vI vU 0,vI vU 0,vI vU 0,vI vU 0,vI vU 0,vI vU 0,.bool true]) ∧ Below w.heap.size w w':=by
 have hA : (((w.alloc (.cells #[vI vU (wd X1 0),vI vU (wd X1 1),vI vU (wd X1 2),vI vU (wd X1 3),vI vU (wd Y1 0),vI vU (wd Y1 1),vI vU (wd Y1 2),vI vU (wd Y1 3),.bool (false)] 48)).alloc (.cells #[vI vU (wd X2 0),vI vU (wd X2 1),vI vU (wd X2 2),vI vU (wd X2 3),vI vU (wd Y2 0),vI vU (wd Y2 1),vI vU (wd Y2 2),vI vU (wd Y2 3),.bool (false)] 48)).alloc (.cells #[vI vU 0,vI vU 0,vI vU 0,vI vU 0,vI vU 0,vI vU 0,vI vU 0,vI vU 0,.bool false] 48)).rowIs w.heap.size 48 9 (pc X1 Y1 false):=((zez X1 Y1 false rfl).alloc _).alloc _
 have hC : (((w.alloc (.cells #[vI vU (wd X1 0),vI vU (wd X1 1),vI vU (wd X1 2),vI vU (wd X1 3),vI vU (wd Y1 0),vI vU (wd Y1 1),vI vU (wd Y1 2),vI vU (wd Y1 3),.bool (false)] 48)).alloc (.cells #[vI vU (wd X2 0),vI vU (wd X2 1),vI vU (wd X2 2),vI vU (wd X2 3),vI vU (wd Y2 0),vI vU (wd Y2 1),vI vU (wd Y2 2),vI vU (wd Y2 3),.bool (false)] 48)).alloc (.cells #[vI vU 0,vI vU 0,vI vU 0,vI vU 0,vI vU 0,vI vU 0,vI vU 0,vI vU 0,.bool false] 48)).rowIs (w.heap.size + 1) 48 9 (pc X2 Y2 false):=(zez X2 Y2 false (by simp)).alloc _
 have hR : (((w.alloc (.cells #[vI vU (wd X1 0),vI vU (wd X1 1),vI vU (wd X1 2),vI vU (wd X1 3),vI vU (wd Y1 0),vI vU (wd Y1 1),vI vU (wd Y1 2),vI vU (wd Y1 3),.bool (false)] 48)).alloc (.cells #[vI vU (wd X2 0),vI vU (wd X2 1),vI vU (wd X2 2),vI vU (wd X2 3),vI vU (wd Y2 0),vI vU (wd Y2 1),vI vU (wd Y2 2),vI vU (wd Y2 3),.bool (false)] 48)).alloc (.cells #[vI vU 0,vI vU 0,vI vU 0,vI vU 0,vI vU 0,vI vU 0,vI vU 0,vI vU 0,.bool false] 48)).rowIs (w.heap.size + 1 + 1) 48 9 (pc 0 0 false):=zes (by simp)
 have hB : Below w.heap.size w (((w.alloc (.cells #[vI vU (wd X1 0),vI vU (wd X1 1),vI vU (wd X1 2),vI vU (wd X1 3),vI vU (wd Y1 0),vI vU (wd Y1 1),vI vU (wd Y1 2),vI vU (wd Y1 3),.bool (false)] 48)).alloc (.cells #[vI vU (wd X2 0),vI vU (wd X2 1),vI vU (wd X2 2),vI vU (wd X2 3),vI vU (wd Y2 0),vI vU (wd Y2 1),vI vU (wd Y2 2),vI vU (wd Y2 3),.bool (false)] 48)).alloc (.cells #[vI vU 0,vI vU 0,vI vU 0,vI vU 0,vI vU 0,vI vU 0,vI vU 0,vI vU 0,.bool false] 48)):=(((Below.refl _ _).alloc (by simp) _).alloc (by simp) _).alloc (by simp; omega) _
 obtain ⟨Z,hZ⟩ : ∃ Z,Z = (0 + Pt.pp - Y2) % Pt.pp:=⟨_,rfl⟩
 have HN:=veil (show ∀ W,Calls Tryz.prog 122 #[.agg #[vI vU (wd X2 0),vI vU (wd X2 1),vI vU (wd X2 2),vI vU (wd X2 3),vI vU (wd Y2 0),vI vU (wd Y2 1),vI vU (wd Y2 2),vI vU (wd Y2 3),.bool (false)]] W fun e W' => e = .returned (.agg #[vI vU (wd X2 0),vI vU (wd X2 1),vI vU (wd X2 2),vI vU (wd X2 3),vI vU (wd Z 0),vI vU (wd Z 1),vI vU (wd Z 2),vI vU (wd Z 3),.bool (false)]) ∧ Below W.heap.size W W' from fun W => rneg_is X2 Y2 Z false hY2 hZ W)
 have lZ : Z < top:=by rw [hZ]; exact Nat.lt_trans (Nat.mod_lt _ zhi) zbp
 have kq : ∀ W,(binOp .eql 48 (.agg #[vI vU (wd X1 0),vI vU (wd X1 1),vI vU (wd X1 2),vI vU (wd X1 3),vI vU (wd Y1 0),vI vU (wd Y1 1),vI vU (wd Y1 2),vI vU (wd Y1 3),.bool (false)]) (.agg #[vI vU (wd X2 0),vI vU (wd X2 1),vI vU (wd X2 2),vI vU (wd X2 3),vI vU (wd Z 0),vI vU (wd Z 1),vI vU (wd Z 2),vI vU (wd Z 3),.bool (false)])).run Tryz.prog W = .ok (.bool true) W:=fun W => by
  rw [eql_pt hX1 hY1 hX2 lZ false false W,decide_eq_true ⟨h.1,by rw [hZ]; exact h.2,rfl⟩]
 clear hZ h hX1 hY1 hX2 hY2 lZ
 go_enter Tryz.func72,Tryz.ntmps72
 go_upto_region 1 with (fail)
 generalize (((w.alloc (.cells #[vI vU (wd X1 0),vI vU (wd X1 1),vI vU (wd X1 2),vI vU (wd X1 3),vI vU (wd Y1 0),vI vU (wd Y1 1),vI vU (wd Y1 2),vI vU (wd Y1 3),.bool (false)] 48)).alloc (.cells #[vI vU (wd X2 0),vI vU (wd X2 1),vI vU (wd X2 2),vI vU (wd X2 3),vI vU (wd Y2 0),vI vU (wd Y2 1),vI vU (wd Y2 2),vI vU (wd Y2 3),.bool (false)] 48)).alloc (.cells #[vI vU 0,vI vU 0,vI vU 0,vI vU 0,vI vU 0,vI vU 0,vI vU 0,vI vU 0,.bool false] 48)) = wz at *
 have fA:=pt_f hA
 have fC:=pt_f hC
 go_upto_region 5 with (fail)
 have lA:=hA.lt
 have lC:=hC.lt
 have sB : ∀ W,Below wz.heap.size wz W → (Below wz.heap.size wz W ∧ W.rangeAt w.heap.size 0 [.int .u64 (wd X1 0),.int .u64 (wd X1 1),.int .u64 (wd X1 2),.int .u64 (wd X1 3),.int .u64 (wd Y1 0),.int .u64 (wd Y1 1),.int .u64 (wd Y1 2),.int .u64 (wd Y1 3),.bool false] ∧ W.rangeAt (w.heap.size + 1) 0 [.int .u64 (wd X2 0),.int .u64 (wd X2 1),.int .u64 (wd X2 2),.int .u64 (wd X2 3),.int .u64 (wd Y2 0),.int .u64 (wd Y2 1),.int .u64 (wd Y2 2),.int .u64 (wd Y2 3),.bool false]):=fun W hb => ⟨hb,zcq (zgm hA) (hb.block _ lA),zcq (zgm hC) (hb.block _ lC)⟩
 have SB:=veil sB
 clear sB
 refine wp_region_held_drew (S:=fun W => (Below wz.heap.size wz W ∧ W.rangeAt w.heap.size 0 [.int .u64 (wd X1 0),.int .u64 (wd X1 1),.int .u64 (wd X1 2),.int .u64 (wd X1 3),.int .u64 (wd Y1 0),.int .u64 (wd Y1 1),.int .u64 (wd Y1 2),.int .u64 (wd Y1 3),.bool false] ∧ W.rangeAt (w.heap.size + 1) 0 [.int .u64 (wd X2 0),.int .u64 (wd X2 1),.int .u64 (wd X2 2),.int .u64 (wd X2 3),.int .u64 (wd Y2 0),.int .u64 (wd Y2 1),.int .u64 (wd Y2 2),.int .u64 (wd Y2 3),.bool false])) (by kernel_rfl) (SB.out _ (Below.refl _ wz).drew) (fun hH => ?_)
 repeat
  ((first
    | (refine wpAnyH_take (i:=0) (v:=.agg #[vI vU (wd X1 0),vI vU (wd X1 1),vI vU (wd X1 2),vI vU (wd X1 3),vI vU (wd Y1 0),vI vU (wd Y1 1),vI vU (wd Y1 2),vI vU (wd Y1 3),.bool false]) rfl (by kernel_rfl) (by kernel_rfl) (by decide +kernel) (fun _ _ _ h => h) (yieldsIf_load_mid (by rfl) _ _ rfl _ _ rfl _ _ (fun W hSw => hSw.2.1) Tryz.underlying48 rfl zbg) (by with_reducible assumption) ?_)
    | (refine wpAnyH_take (i:=1) (v:=.agg #[vI vU (wd X2 0),vI vU (wd X2 1),vI vU (wd X2 2),vI vU (wd X2 3),vI vU (wd Y2 0),vI vU (wd Y2 1),vI vU (wd Y2 2),vI vU (wd Y2 3),.bool false]) rfl (by kernel_rfl) (by kernel_rfl) (by decide +kernel) (fun _ _ _ h => h) (yieldsIf_load_mid (by rfl) _ _ rfl _ _ rfl _ _ (fun W hSw => hSw.2.2) Tryz.underlying48 rfl zbg) (by with_reducible assumption) ?_)
    | (refine wpAnyH_ready (rs:=[2]) (by decide +kernel) (by simp) ?_; refine AllReadyH.cons rfl (fun K hK => ?_) AllReadyH.nil; go_simp; (with_reducible refine (HN.out _).mono ?_); rintro e w1 ⟨rfl,hb⟩; have hb1:=hH.1.trans (hb.mono hH.1.size); clear hb; refine hK.out _ _ (SB.out _ hb1) (fun hH => ?_); clear hK K)
    | (refine wpAnyH_take (i:=3) (v:=.bool true) rfl (by kernel_rfl) (by kernel_rfl) (by decide +kernel) (fun _ _ _ h => h) (Or.inl ⟨by rfl,fun W hSw => (by dsimp only at hSw; go_simp)⟩) (by with_reducible assumption) ?_)
    | fail);
   try simp only [Act.put,List.setIfInBounds_toArray,List.set_cons_zero,List.set_cons_succ,List.getElem_toArray,List.getElem_cons_zero,List.getElem_cons_succ])
 refine wpAnyH_done (by decide +kernel) ?_ _
 have HR:=veil (blkOf (zab hR hb1 hR.lt))
 have hB1:=hB.trans (hb1.mono hB.size)
 clear hA hC hR hB kq fA fC hH
 go_wp2_with ((with_reducible refine zbb ?_); refine wpList_store_row rfl 48 _ _ rfl (w.heap.size + 1 + 1) #[vI vU 0,vI vU 0,vI vU 0,vI vU 0,vI vU 0,vI vU 0,vI vU 0,vI vU 0,.bool true] rfl rfl 48 _ HR.out zbg (by rw [zaw]; rfl) (by simp [Value.oneCell']) ?_)
 exact bodyPost_ret (results_cell_row rfl _ _ (w.heap.size + 1 + 1) 48 #[vI vU 0,vI vU 0,vI vU 0,vI vU 0,vI vU 0,vI vU 0,vI vU 0,vI vU 0,.bool true] (0,0) _ rfl (setRow_heap w1 (w.heap.size + 1 + 1) _ #[vI vU 0,vI vU 0,vI vU 0,vI vU 0,vI vU 0,vI vU 0,vI vU 0,vI vU 0,.bool true] 48 (0,0) HR.out) Tryz.underlying48 rfl zbg) rfl ⟨rfl,zbn hB1 (by omega) _⟩
theorem far_pt : (.agg #[vI vU (wd 0 0),vI vU (wd 0 1),vI vU (wd 0 2),vI vU (wd 0 3),vI vU (wd 0 0),vI vU (wd 0 1),vI vU (wd 0 2),vI vU (wd 0 3),.bool (true)] : Value) = .agg #[vI vU 0,vI vU 0,vI vU 0,vI vU 0,vI vU 0,vI vU 0,vI vU 0,vI vU 0,.bool true]:=by simp only [wd_nil]
end Go.Proofs.YtedehdbajiaaiaaGreatDoor
