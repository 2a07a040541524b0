/-
  Of Of Bytes RBytes Q11 Top RCmp Q3 Q4 Word ROf Q13 Kp.
-/
import Derived.Test.YthlbemnbmbmjhaaGreatDoorRows
import Derived.WalkKit
import Derived.WalkSpells
import Derived.WalkLawsBesides
import Derived.Deep.LoopGhost
import Derived.Deep.RegionWith
import Derived.Deep.QuietTactic
import Derived.BigQuiet
import Derived.BigRegion
import Derived.Deep.AppendLies
import Derived.Deep.RegionHeld3
import Derived.Deep.Cut
import Derived.Deep.CutRange
import Derived.Test.YthlbemnbmbmjhaaGreatDoorZB1
import Derived.Test.YthlbemnbmbmjhaaGreatDoorZB2
import Derived.Test.YthlbemnbmbmjhaaGreatDoorZB5
import Derived.Test.YthlbemnbmbmjhaaGreatDoorZB3
set_option maxRecDepth 1000000
set_option maxHeartbeats 20000000
namespace Go.Proofs.YthlbemnbmbmjhaaGreatDoor
open Go.RowKit
open Go.Value renaming int → vI
open Go.IntKind renaming u64 → vU
open Go.Act renaming put → aP
open List renaming setIfInBounds_toArray → lA, set_cons_zero → lZ, set_cons_succ → lS
def lev (z : Nat → Nat) : Nat → Nat
 | 0 => 0
 | i + 1 => lev z i + z i * 256 ^ i
theorem zgs {z : Nat → Nat} (hz : ∀ j,z j < 256) : ∀ i,lev z i < 256 ^ i
 | 0 => by simp [lev]
 | i + 1 => by
  have h:=zgs hz i
  have h2 : z i * 256 ^ i ≤ 255 * 256 ^ i:=Nat.mul_le_mul_right _ (by have:=hz i; omega)
  show lev z i + z i * 256 ^ i < _
  rw [Nat.pow_succ]
  omega
theorem dg_put (m q r L c : Nat) (hr : r < m) (hL : L < 256 ^ (m * q + r)) (hc : c < 256) (j : Nat) :
  dg (256 ^ m) (L + c * 256 ^ (m * q + r)) j = if j = q then dg (256 ^ m) L j + c * 256 ^ r else dg (256 ^ m) L j:=by
 have hB : 0 < 256 ^ m:=Nat.pow_pos (by omega)
 have hp : ∀ k,0 < (256 ^ m) ^ k:=fun k => Nat.pow_pos hB
 have e : 256 ^ (m * q + r) = (256 ^ m) ^ q * 256 ^ r:=by rw [Nat.pow_add,Nat.pow_mul]
 have hrm : 256 ^ r * 256 ≤ 256 ^ m:=by rw [← Nat.pow_succ]; exact Nat.pow_le_pow_right (by omega) hr
 rw [e] at hL ⊢
 have hLq : L / (256 ^ m) ^ q < 256 ^ r:=by rw [Nat.div_lt_iff_lt_mul (hp q),Nat.mul_comm]; exact hL
 have hcr : c * 256 ^ r ≤ 255 * 256 ^ r:=Nat.mul_le_mul_right _ (by omega)
 rw [show c * ((256 ^ m) ^ q * 256 ^ r) = (256 ^ m) ^ q * (c * 256 ^ r) by rw [Nat.mul_left_comm]]
 by_cases hj : j = q
 ·
  subst hj
  rw [if_pos rfl]
  unfold dg
  rw [Nat.add_mul_div_left _ _ (hp j),Nat.mod_eq_of_lt (by omega),Nat.mod_eq_of_lt (by omega)]
 ·
  rw [if_neg hj]
  by_cases hlt : j < q
  ·
   rw [← zcg _ q j hlt,Nat.add_mul_mod_self_left,zcg _ q j hlt]
  ·
   have hjq : q + 1 ≤ j:=by omega
   have hle : (256 ^ m) ^ (q + 1) ≤ (256 ^ m) ^ j:=Nat.pow_le_pow_right hB hjq
   rw [Nat.pow_succ] at hle
   have h1 : (256 ^ m) ^ q * (256 ^ r + c * 256 ^ r) ≤ (256 ^ m) ^ q * 256 ^ m:=Nat.mul_le_mul_left _ (by omega)
   rw [Nat.mul_add] at h1
   unfold dg
   rw [Nat.div_eq_of_lt (show L < _ by omega),Nat.div_eq_of_lt (show L + (256 ^ m) ^ q * (c * 256 ^ r) < _ by omega)]
theorem w64_bytes : w64 = 256 ^ 8:=by decide
theorem w16_bytes : w16 = 256 ^ 2:=by decide
theorem two_256 (r : Nat) : 2 ^ (r * 8) = 256 ^ r:=by rw [Nat.mul_comm,Nat.pow_mul]
theorem wd_put (L c k j : Nat) (hL : L < 256 ^ k) (hc : c < 256) : wd (L + c * 256 ^ k) j = if j = k / 8 then wd L j + (c * 256 ^ (k % 8) : Nat) else wd L j:=by
 have h:=dg_put 8 (k / 8) (k % 8) L c (Nat.mod_lt _ (by omega)) (by rw [Nat.div_add_mod]; exact hL) hc j
 rw [Nat.div_add_mod,← w64_bytes] at h
 unfold wd
 rw [h]
 split
 ·
  rw [Int.natCast_add]
 ·
  rfl
theorem of_word (L c k : Nat) (hL : L < 256 ^ k) (hc : c < 256) : bits .or .u64 (wd L (k / 8)) (IntKind.u64.wrap ((c : Int) * 2 ^ (k % 8 * 8))) = wd (L + c * 256 ^ k) (k / 8):=by
 have hr : k % 8 < 8:=Nat.mod_lt _ (by omega)
 have hp : 256 ^ (k % 8) ≤ 256 ^ 7:=Nat.pow_le_pow_right (by omega) (by omega)
 have h7 : (256 : Nat) ^ 7 = 72057594037927936:=by decide
 have hcr : c * 256 ^ (k % 8) ≤ 255 * 256 ^ (k % 8):=Nat.mul_le_mul_right _ (by omega)
 have hq : dg w64 L (k / 8) < 256 ^ (k % 8):=by
  have e : 256 ^ k = w64 ^ (k / 8) * 256 ^ (k % 8):=by
   rw [w64_bytes,← Nat.pow_mul,← Nat.pow_add,Nat.div_add_mod]
  unfold dg
  refine Nat.lt_of_le_of_lt (Nat.mod_le _ _) ?_
  rw [Nat.div_lt_iff_lt_mul (Nat.pow_pos zaq),Nat.mul_comm,← e]
  exact hL
 have ec : (c : Int) * 2 ^ (k % 8 * 8) = ((c * 256 ^ (k % 8) : Nat) : Int):=by
  rw [← two_256,Int.natCast_mul,Int.natCast_pow]
  rfl
 rw [wd_put L c k _ hL hc,if_pos rfl,ec,IntKind.wrap_u64]
 unfold wd
 rw [show ((c * 256 ^ (k % 8) : Nat) : Int) % 18446744073709551616 = ((c * 256 ^ (k % 8) : Nat) : Int) by omega]
 rw [u64_or_nat _ _ (by omega) (by omega),Nat.or_comm,nat_join (8 * (k % 8)) _ _ (by rw [Nat.mul_comm 8,two_256]; exact Nat.mul_mod_left _ _) (by rw [Nat.mul_comm 8,two_256]; exact hq)]
 omega
theorem of_step (z : Nat → Nat) (k : Nat) (hz : ∀ j,z j < 256) (i : Nat) :
  (if i = k / 8 then Value.int .u64 (wd (lev z k + z k * 256 ^ k) (k / 8)) else Value.int .u64 (wd (lev z k) i)) = Value.int .u64 (wd (lev z (k + 1)) i):=by
 show _ = Value.int .u64 (wd (lev z k + z k * 256 ^ k) i)
 by_cases h : i = k / 8
 ·
  rw [if_pos h,h]
 ·
  rw [if_neg h,wd_put _ _ _ _ (zgs hz k) (hz k),if_neg h]
theorem wd_zero (i : Nat) : wd 0 i = 0:=by unfold wd dg; simp
theorem of_some (b o n c : Nat) (y : Nat → Nat) (hy : ∀ j,y j < 256) (hn : n ≤ 32) (w : World) (hb : b < w.heap.size) (hcell : ∀ j,j < n → w.cell? ⟨b,o + j,none⟩ = some (.int .u8 (y j))) :
  Calls Tryz.prog 81 #[.slice (some ⟨b,o,none⟩) n c] w fun e w' => e = .returned (.tuple #[.agg #[vI vU (wd (lev (fun k => y (n - 1 - k)) n) 0),vI vU (wd (lev (fun k => y (n - 1 - k)) n) 1),vI vU (wd (lev (fun k => y (n - 1 - k)) n) 2),vI vU (wd (lev (fun k => y (n - 1 - k)) n) 3)],.nilIface]) ∧ Below w.heap.size w w':=by
 have HY:=veil hy
 have HC:=veil hcell
 clear hy hcell
 have hn' : (n : Int) ≤ 32:=by omega
 go_enter Tryz.func81,Tryz.ntmps81
 go_wp2
 go_loopw [13] (fun i wr => ∃ k : Nat,k ≤ n ∧ i = .int .i64 k ∧ wr.rowIs w.heap.size 27 4 (fun _ => .int .u64 0) ∧ wr.rowIs (w.heap.size + 1) 27 4 (fun j => .int .u64 (wd (lev (fun k => y (n - 1 - k)) k) j)) ∧ Below w.heap.size w wr)
  (fun i _ => n - (intOf i).toNat)
 case atStart => exact ⟨0,by omega,rfl,(zac (n:=4) rfl rfl (arr4 fun _ => .int .u64 0)).alloc _,(zac (n:=4) (f:=fun _ => .int .u64 0) (by simp) rfl (arr4 fun _ => .int .u64 0)).congr (fun i _ => by rw [lev,wd_zero]),((Below.refl _ _).alloc (by simp) _).alloc (by simp) _⟩
 case round =>
  obtain ⟨k,hk,rfl,hR,hS,hbel⟩:=hrel
  by_cases hlt : k < n
  ·
   have hk8 : k / 8 < 4:=by omega
   have c1:=hS.cell hk8
   have f1:=hS.frozen (k / 8)
   obtain ⟨j,hj⟩ : ∃ j,j = n - 1 - k:=⟨_,rfl⟩
   have hji : (n : Int) - 1 - (k : Int) = (j : Int):=by omega
   have hjn : (j : Int) < (n : Int):=by omega
   have hkn : (k : Int) < (n : Int):=by omega
   have c2:=(hbel.cell (p:=⟨b,o + j,none⟩) hb).trans (HC.out j (by omega))
   have l1:=wd_lo (lev (fun k => y (n - 1 - k)) k) (k / 8)
   have u1:=wd_le (lev (fun k => y (n - 1 - k)) k) (k / 8)
   have u2 : (y j : Int) ≤ 255:=by have:=HY.out j; omega
   have hst:=of_step (fun k => y (n - 1 - k)) k (fun j => HY.out _)
   have HS:=veil hst
   clear hst
   have HJ:=veil hj
   clear hj
   go_wp2
   go_region
   all_goals
    go_wp2
    go_roundw
    case rel =>
     rw [show y j = y (n - 1 - k) by rw [HJ.out],of_word _ _ _ (zgs (fun j => HY.out _) k) (HY.out _)]
     exact ⟨k + 1,by omega,by go_num,(zar hR (by omega) _).drew,((hS.set (k / 8) _).congr fun i _ => HS.out i).drew,(zai hbel (by omega) _).drew⟩
    case measure => simp [intOf]; omega
  ·
   obtain rfl : k = n:=by omega
   obtain ⟨c0,c1,c2,c3⟩:=zad hS
   obtain ⟨d0,d1,d2,d3⟩:=zad hR
   obtain ⟨f0,f1,f2,f3⟩:=zaj hR
   go_wp2
   refine bodyPost_ret (zbv rfl _ _ w.heap.size 27 #[vI vU (wd (lev (fun j => y (k - 1 - j)) k) 0),vI vU (wd (lev (fun j => y (k - 1 - j)) k) 1),vI vU (wd (lev (fun j => y (k - 1 - j)) k) 2),vI vU (wd (lev (fun j => y (k - 1 - j)) k) 3)] (0,0) 4 25 rfl (blk4 (put4 hR fun j => .int .u64 (wd (lev (fun j => y (k - 1 - j)) k) j))) Tryz.underlying27 (by kernel_rfl)) rfl ⟨rfl,zae hbel (Nat.le_refl _) _ _ _ _⟩
def byv (X i : Nat) : Int:=(dg 256 X i : Nat)
theorem dg_byte (X m q r : Nat) (hr : r < m) : dg (256 ^ m) X q / 256 ^ r % 256 = dg 256 X (m * q + r):=by
 show dg 256 (X / (256 ^ m) ^ q % 256 ^ m) r = _
 rw [zcg _ m r hr,dg,dg,← Nat.pow_mul,Nat.div_div_eq_div_mul,← Nat.pow_add]
theorem byte_word (X k : Nat) : wd X (k / 8) / 2 ^ (k % 8 * 8) % 256 = byv X k:=by
 have e : wd X (k / 8) / 2 ^ (k % 8 * 8) = ((dg w64 X (k / 8) / 256 ^ (k % 8) : Nat) : Int):=by
  unfold wd
  rw [← two_256,Int.natCast_ediv]
  simp
 rw [e]
 have h:=dg_byte X 8 (k / 8) (k % 8) (Nat.mod_lt _ (by omega))
 rw [Nat.div_add_mod,← w64_bytes] at h
 unfold byv
 omega
theorem bytes_step {X k j : Nat} (hk : k < 32) (hj : j = 31 - k) : ∀ i,i < 32 → (if i = j then Value.int .u8 (byv X k) else Value.int .u8 (if 32 ≤ i + k then byv X (31 - i) else 0)) = Value.int .u8 (if 32 ≤ i + (k + 1) then byv X (31 - i) else 0):=by
 intro i hi
 by_cases h : i = j
 ·
  rw [if_pos h,if_pos (by omega),show 31 - i = k by omega]
 ·
  rw [if_neg h]
  by_cases h2 : 32 ≤ i + k
  ·
   rw [if_pos h2,if_pos (by omega)]
  ·
   rw [if_neg h2,if_neg (by omega)]
theorem infoByte : (Tryz.prog.info? 5).map (fun i => (i.zero,i.size,i.bytes)) = some (some (.int .u8 0),1,1):=by kernel_rfl
theorem row_filled {w : World} {z : Value} {n b t : Nat} (hb : b = w.heap.size) : (w.alloc (.cells (madeCells #[z] n) t)).rowIs b t n (fun _ => z):=by
 subst hb
 exact World.rowIs_made w z n t
theorem bytes_calls (X : Nat) (w : World) :
  Calls Tryz.prog 79 #[.agg #[vI vU (wd X 0),vI vU (wd X 1),vI vU (wd X 2),vI vU (wd X 3)]] w fun e w' => ∃ g,e = .returned (.slice (some ⟨g,0,none⟩) 32 32) ∧ w.heap.size ≤ g ∧ w'.rowIs g 5 32 (fun j => .int .u8 (byv X (31 - j))) ∧ Below w.heap.size w w':=by
 obtain ⟨i0,hi,hz0,hz1,hz2⟩:=info_parts infoByte
 have hmk : ∀ W : World,(Instr.makeSlice 33 (.int .i64 32) (.int .i64 32)).run Tryz.prog W = .ok (.slice (some ⟨W.heap.size,0,none⟩) 32 32) (W.alloc (.cells (madeCells #[.int .u8 0] 32) 5)) :=
  fun W => run_make_row 33 5 i0 (.int .u8 0) Tryz.underlying33 hi hz0 hz1 rfl .i64 .i64 32 (by rw [hz2]; omega) (by omega) W
 go_enter Tryz.func79,Tryz.ntmps79
 go_wp2
 go_loopw [6] (fun i wr => ∃ k : Nat,k ≤ 32 ∧ i = .int .i64 k ∧ wr.rowIs w.heap.size 27 4 (fun j => .int .u64 (wd X j)) ∧ wr.rowIs (w.heap.size + 1) 5 32 (fun j => .int .u8 (if 32 ≤ j + k then byv X (31 - j) else 0)) ∧ Below w.heap.size w wr)
  (fun i _ => 32 - (intOf i).toNat)
 case atStart => exact ⟨0,by omega,rfl,(zac (n:=4) rfl rfl (arr4 fun j => .int .u64 (wd X j))).alloc _,(row_filled (w:=w.alloc (.cells #[vI vU (wd X 0),vI vU (wd X 1),vI vU (wd X 2),vI vU (wd X 3)] 27)) (z:=.int .u8 0) (by simp)).congr (fun i hi => by rw [if_neg (by omega)]),((Below.refl _ _).alloc (by simp) _).alloc (by simp) _⟩
 case round =>
  obtain ⟨k,hk,rfl,hR,hS,hbel⟩:=hrel
  by_cases hlt : k < 32
  ·
   have c1:=hR.cell (i:=k / 8) (by omega)
   obtain ⟨j,hj⟩ : ∃ j,j = 31 - k:=⟨_,rfl⟩
   have hji : (31 : Int) - (k : Int) = (j : Int):=by omega
   have hjn : (j : Int) < (32 : Int):=by omega
   have c2:=hS.cell (i:=j) (by omega)
   have f2:=hS.frozen j
   have l1:=wd_lo X (k / 8)
   have u1:=wd_le X (k / 8)
   have HJ:=veil hj
   clear hj
   go_wp2
   go_roundw
   case rel =>
    rw [byte_word]
    exact ⟨k + 1,by omega,by go_num,zar hR (by omega) _,(hS.set j _).congr (bytes_step hlt HJ.out),zai hbel (by omega) _⟩
   case measure => simp [intOf]; omega
  ·
   obtain rfl : k = 32:=by omega
   go_wp2
   go_ret
   exact ⟨_,rfl,by omega,hS.congr (fun i hi => by rw [if_pos (by omega)]),hbel⟩
theorem part_bytes (X m : Nat) : pt X m / 256 = byv X (2 * m + 1) ∧ pt X m % 256 = byv X (2 * m):=by
 have h0:=dg_byte X 2 m 0 (by omega)
 have h1:=dg_byte X 2 m 1 (by omega)
 rw [← w16_bytes] at h0 h1
 have hl:=dg_lt zgy X m
 unfold pt byv
 rw [← h1,← show dg w16 X m / 256 ^ 0 % 256 = dg 256 X (2 * m) from h0]
 generalize dg w16 X m = D at *
 unfold w16 at hl
 simp only [Nat.pow_zero,Nat.pow_one,Nat.div_one]
 omega
theorem heap_alloc_drew (w : World) (o : Obj) : (w.alloc o).drew.heap[w.heap.size]? = some o:=heap_alloc_new w o
def bsv (X j : Nat) : Value:=.int .u8 (byv X (31 - j))
theorem bsL_step (X m : Nat) (hm : m < 16) : (List.range (32 - 2 * (m + 1))).map (bsv X) ++ [.int .u8 (byv X (2 * m + 1)),.int .u8 (byv X (2 * m))] = (List.range (32 - 2 * m)).map (bsv X):=by
 rw [show 32 - 2 * m = (32 - 2 * (m + 1)) + 1 + 1 by omega,List.range_succ,List.range_succ,List.map_append,List.map_append,List.append_assoc]
 simp only [List.map_cons,List.map_nil,bsv,List.cons_append,List.nil_append]
 rw [show 31 - (32 - 2 * (m + 1)) = 2 * m + 1 by omega,show 31 - (32 - 2 * (m + 1) + 1) = 2 * m by omega]
theorem conv_hi (z : Int) (h0 : 0 ≤ z) (h1 : z ≤ 65535) : IntKind.u8.wrap (IntKind.i64.wrap (z.tdiv 256)) = z / 256:=by
 have e : z.tdiv 256 = z / 256:=Int.tdiv_eq_ediv_of_nonneg h0
 have h2 : 0 ≤ z / 256:=by omega
 have h3 : z / 256 ≤ 255:=by omega
 rw [e]
 generalize z / 256 = q at *
 rw [IntWalk.i64_in q ⟨by omega,by omega⟩,IntKind.wrap_u8]
 exact Int.emod_eq_of_lt h2 (by omega)
theorem conv_lo (z : Int) (h0 : 0 ≤ z) : IntKind.u8.wrap (z.tmod 256) = z % 256:=by
 have e : z.tmod 256 = z % 256:=Int.tmod_eq_emod_of_nonneg h0
 rw [e,IntKind.wrap_u8]
 exact Int.emod_emod_of_dvd z (Int.dvd_refl 256)
theorem none_yet (X : Nat) (W : World) (base : Nat) : W.ownsRow base 5 1 (.slice none 0 0) (32 - 2 * 16) ((List.range (32 - 2 * 16)).map (bsv X)):=by
 simp only [show 32 - 2 * 16 = 0 from by omega,List.range_zero,List.map_nil]
 exact World.ownsRow_nil _ _ _ _
theorem rbytes_own (X : Nat) (w : World) :
  Calls Tryz.prog 53 #[.agg #[vI vU (wd X 0),vI vU (wd X 1),vI vU (wd X 2),vI vU (wd X 3)]] w fun e w' => ∃ g cap,e = .returned (.slice (some ⟨g,0,none⟩) 32 cap) ∧ 32 ≤ cap ∧ w.heap.size ≤ g ∧ Own w' w.heap.size 5 (.slice (some ⟨g,0,none⟩) 32 cap) 32 (bsv X) ∧ Below w.heap.size w w':=by
 obtain ⟨i0,hi,hz0,hz1,hz2⟩:=info_parts infoByte
 have hB0 : Below w.heap.size w (w.alloc (.cells #[vI vU (wd X 0),vI vU (wd X 1),vI vU (wd X 2),vI vU (wd X 3)] 27)):=(Below.refl _ _).alloc (by simp) _
 go_enter Tryz.func53,Tryz.ntmps53
 go_wp2_with fail
 refine (zey X _).mono ?_
 rintro e w1 ⟨g1,cap1,rfl,hg1,hp1,hb1⟩
 have hB1:=hB0.trans (hb1.mono (by simp))
 have hl1:=hp1.lt
 have hsz:=hB1.size
 clear hB0 hb1 hg1
 go_wp2
 go_loopw [4,5] (fun v i wr => ∃ k : Nat,k ≤ 16 ∧ i = .int .i64 ((k : Int) - 1) ∧ wr.ownsRow w1.heap.size 5 1 v (32 - 2 * k) ((List.range (32 - 2 * k)).map (bsv X)) ∧ Pre wr g1 3 16 (ptv X) ∧ Below w.heap.size w wr ∧ w1.heap.size ≤ wr.heap.size)
  (fun _ i _ => (intOf i + 1).toNat)
 case atStart => exact ⟨16,by omega,rfl,none_yet X w1 _,hp1,hB1,Nat.le_refl _⟩
 case round =>
  clear hp1 hB1
  obtain ⟨k,hk,hii,hown,hp,hbel,hsz2⟩:=hrel
  cases k with
  | zero =>
   subst hii
   go_wp2
   go_ret
   have ho : Own wr w1.heap.size 5 _ 32 (bsv X):=hown
   obtain ⟨g,cap,rfl,hc,hg,_⟩:=ho.pre (by omega)
   exact ⟨g,cap,rfl,hc,by omega,ho.base_le hsz,hbel⟩
  | succ m =>
   obtain rfl : _ = Value.int .i64 (m : Int):=hii.trans (by congr 1; omega)
   have hm : m < 16:=by omega
   have c1:=hp.cell hm
   simp only [ptv] at c1
   clear hii
   go_wp2
   have hm0 : (0 : Int) ≤ (m : Int):=by omega
   have hm1 : (m : Int) < 16:=by omega
   have l1:=pt_lo X m
   have u1 : pt X m ≤ 65535:=by have:=pt_lt X m; omega
   obtain ⟨q1,q2⟩:=part_bytes X m
   have E1 : IntKind.u8.wrap (IntKind.i64.wrap ((pt X m).tdiv 256)) = byv X (2 * m + 1):=(conv_hi _ l1 u1).trans q1
   have E2 : IntKind.u8.wrap ((pt X m).tmod 256) = byv X (2 * m):=(conv_lo _ l1).trans q2
   clear q1 q2
   as_aux_lemma =>
   go_region_held3 (fun w' => w'.cell? ⟨g1,m,none⟩ = some (.int .i64 (pt X m)))
    (first
     | go_keep
     | exact (hgrow.cell_far ⟨g1,m,none⟩ ((hp.alloc _).drew).lt (fun e => by have h2 : w1.heap.size ≤ g1:=(hown.lt g1 e.symm).1; omega)).trans (((hp.alloc _).drew).cell hm))
    ((refine step_append_lies _ (by rfl) _ _ _ (by rfl) w1.heap.size 5 i0 _ 1 1 Tryz.underlying33 hi hz0 hz1 hz2 rfl (by omega) _ _ _ (by rfl) ((hown.alloc _).drew)
       ⟨wr.heap.size,0,none⟩ 2 2 [.int .u8 (byv X (2 * m + 1)),.int .u8 (byv X (2 * m))] (by rfl) (by rfl) (World.news_of_block (cs:=#[.int .u8 (byv X (2 * m + 1)),.int .u8 (byv X (2 * m))]) (t:=5) (fr:=(0,0)) (heap_alloc_drew wr _)) (by simp [Value.oneCell'])
       (by omega) (by unfold maxLen; omega) (by omega) (by simp; omega) (wr.heap.size + 1) (by simp) ?_; intro gg cap w4 hown1 hgrow hat hlt))
   all_goals
    go_wp2
    go_roundw
    have hsz5 : w1.heap.size ≤ w4.heap.size:=by
     have h6:=hgrow.size
     have h5 : wr.heap.size ≤ (wr.alloc (.cells #[.int .u8 (byv X (2 * m + 1)),.int .u8 (byv X (2 * m))] 5)).drew.heap.size:=by
      show wr.heap.size ≤ (wr.alloc _).heap.size
      simp
     omega
    case rel => exact ⟨m,by omega,rfl,by rw [bsL_step X m hm,show 32 - 2 * (m + 1) + 2 = 32 - 2 * m by omega] at hown1; rw [show 32 - 2 * (m + 1) + 2 = 32 - 2 * m by omega]; exact hown1,(hp.alloc _).drew.of_block (hgrow.block g1 ((hp.alloc _).drew).lt (fun e => by have h2 : w1.heap.size ≤ g1:=(hown.lt g1 e.symm).1; omega)),((hbel.alloc (by omega) _).drew).grown hgrow (by show w.heap.size ≤ (wr.alloc _).heap.size; simp; omega) (fun k e => by have:=(hown.lt _ e).1; omega),hsz5⟩
    case measure => simp [intOf]
def ptB (X Y j : Nat) : Value:=if j < 32 then bsv X j else bsv Y (j - 32)
theorem from_own {w : World} {base e n g c : Nat} {f : Nat → Value} (o : Own w base e (.slice (some ⟨g,0,none⟩) n c) n f) : From w (some ⟨g,0,none⟩) n f:=by
 by_cases h : n = 0
 ·
  exact .inl h
 ·
  obtain ⟨g',c',e,_,_,hp⟩:=o.pre (by omega)
  injection e with e1 _ _
  injection e1 with e2
  injection e2 with e3
  subst e3
  exact .inr ⟨_,rfl,fun j hj => by rw [Addr.add_mid,Nat.zero_add]; exact hp.cell hj⟩
theorem rptb_calls (X Y : Nat) (f : Bool) (w : World) :
  Calls Tryz.prog 29 #[.agg #[vI vU (wd X 0),vI vU (wd X 1),vI vU (wd X 2),vI vU (wd X 3),vI vU (wd Y 0),vI vU (wd Y 1),vI vU (wd Y 2),vI vU (wd Y 3),.bool (f)]] w fun e w' => ∃ g cap,e = .returned (.slice (some ⟨g,0,none⟩) 64 cap) ∧ w.heap.size ≤ g ∧ Own w' w.heap.size 5 (.slice (some ⟨g,0,none⟩) 64 cap) 64 (ptB X Y) ∧ Below w.heap.size w w':=by
 obtain ⟨i8,hi8,hz0,hz1,hz2⟩:=info_parts infoByte
 have HI:=veil (And.intro hi8 (And.intro hz0 (And.intro hz1 hz2)))
 clear hi8 hz0 hz1 hz2
 have hA:=pt_new (w:=w) (b:=w.heap.size) X Y f (t:=29) rfl
 have hB : Below w.heap.size w (w.alloc (.cells #[vI vU (wd X 0),vI vU (wd X 1),vI vU (wd X 2),vI vU (wd X 3),vI vU (wd Y 0),vI vU (wd Y 1),vI vU (wd Y 2),vI vU (wd Y 3),.bool (f)] 29)):=(Below.refl _ _).alloc (Nat.le_refl _) _
 go_enter Tryz.func29,Tryz.ntmps29
 go_upto_region 1 with (fail)
 generalize w.alloc (.cells #[vI vU (wd X 0),vI vU (wd X 1),vI vU (wd X 2),vI vU (wd X 3),vI vU (wd Y 0),vI vU (wd Y 1),vI vU (wd Y 2),vI vU (wd Y 3),.bool (f)] 29) = wz at *
 obtain ⟨x0,x1,x2,x3⟩:=pt_x hA
 obtain ⟨y0,y1,y2,y3⟩:=pt_y hA
 have lz:=hA.lt
 have H1:=veil (fun W => rbytes_own X W)
 have H2:=veil (fun W => rbytes_own Y W)
 clear hA
 go_region_held3 (fun w' => (∀ b o,b < wz.heap.size → w'.cell? ⟨b,o,none⟩ = wz.cell? ⟨b,o,none⟩) ∧ Below wz.heap.size wz w')
  (first
   | with_reducible assumption
   | with_reducible exact zbr _
   | exact hS3
   | with_reducible exact zbi (by assumption) (by assumption)
   | fail)
  (first
   | (go_at_call 53; first
     | ((with_reducible refine (H1.out _).mono ?_); rintro e w1 ⟨g1,c1,rfl,hc1,hg1,ho1,hb1⟩)
     | ((with_reducible refine (H2.out _).mono ?_); rintro e w2 ⟨g2,c2,rfl,hc2,hg2,ho2,hb2⟩))
   | ((with_reducible refine at_slotR 9 ?_); refine step_append_from _ rfl _ _ 33 rfl wz.heap.size 5 i8 (.int .u8 0) 1 Tryz.underlying33 HI.out.1 HI.out.2.1 HI.out.2.2.1 HI.out.2.2.2 rfl (.slice (some ⟨g1,0,none⟩) 32 c1) 32 _ rfl (ho1.below hb2 (Nat.le_refl _)) (some ⟨g2,0,none⟩) 32 c2 rfl _ (from_own ho2) (fun _ => rfl) (by unfold maxLen; omega) (by omega) (Nat.le_trans hb1.size hb2.size) ?_; intro v3 w3 hO3 hg3 _ _; have hX:=zbi hb2 (zbi hb1 (zbr wz)); have hb3 : Below wz.heap.size wz w3:=hX.2.grown hg3 hX.2.size (fun k e => (ho1.lt e).1); have hS3:=And.intro (fun b o (h : b < wz.heap.size) => hb3.cell (p:=⟨b,o,none⟩) h) hb3; obtain ⟨g3,c3,rfl,-,hg3',-⟩:=hO3.pre (by omega)))
 rename (_ ∧ Below wz.heap.size wz _) => hH
 have hfin : Own w3 w.heap.size 5 (.slice (some ⟨g3,0,none⟩) 64 c3) 64 (ptB X Y):=hO3.base_le hB.size
 clear x0 x1 x2 x3 y0 y1 y2 y3 hO3
 go_wp2
 go_ret
 exact ⟨g3,c3,rfl,Nat.le_trans hB.size hg3',hfin,hB.trans (hH.2.mono hB.size)⟩
end Go.Proofs.YthlbemnbmbmjhaaGreatDoor
namespace Go.Proofs.YthlbemnbmbmjhaaGreatDoor
theorem top_w16 : top = w16 ^ 16:=by unfold top; rw [w64_w16,← Nat.pow_mul]
end Go.Proofs.YthlbemnbmbmjhaaGreatDoor
namespace Go.Proofs.YthlbemnbmbmjhaaGreatDoor
open Go.RowKit
open Go.Value renaming int → vI
open Go.IntKind renaming u64 → vU
open Go.Act renaming put → aP
open List renaming setIfInBounds_toArray → lA, set_cons_zero → lZ, set_cons_succ → lS
def cmpK (X Y k : Nat) : Int:=cmpN (X % w16 ^ k) (Y % w16 ^ k)
theorem cmpK_lt {X Y k : Nat} (h : pt X k < pt Y k) : cmpK X Y (k + 1) = -1:=by
 unfold pt at h
 unfold cmpK
 rw [zhn _ _ _ _ zgy,if_pos (by omega)]
theorem cmpK_gt {X Y k : Nat} (h : pt Y k < pt X k) : cmpK X Y (k + 1) = 1:=by
 unfold pt at h
 unfold cmpK
 rw [zhn _ _ _ _ zgy,if_neg (by omega),if_pos (by omega)]
theorem cmpK_eq {X Y k : Nat} (h : pt X k = pt Y k) : cmpK X Y (k + 1) = cmpK X Y k:=by
 unfold pt at h
 unfold cmpK
 rw [zhn _ _ _ _ zgy,if_neg (by omega),if_neg (by omega)]
theorem cmpK_top {X Y : Nat} (hX : X < top) (hY : Y < top) : cmpK X Y 16 = cmpN X Y:=by
 rw [top_w16] at *
 unfold cmpK
 rw [Nat.mod_eq_of_lt hX,Nat.mod_eq_of_lt hY]
theorem zdi (X Y : Nat) (hX : X < top) (hY : Y < top) (w : World) :
  Calls Tryz.prog 40 #[.agg #[vI vU (wd X 0),vI vU (wd X 1),vI vU (wd X 2),vI vU (wd X 3)],.agg #[vI vU (wd Y 0),vI vU (wd Y 1),vI vU (wd Y 2),vI vU (wd Y 3)]] w fun e w' => e = .returned (.int .i64 (cmpN X Y)) ∧ Below w.heap.size w w':=by
 have hRB : ((w.alloc (.cells #[vI vU (wd X 0),vI vU (wd X 1),vI vU (wd X 2),vI vU (wd X 3)] 27)).alloc (.cells #[vI vU (wd Y 0),vI vU (wd Y 1),vI vU (wd Y 2),vI vU (wd Y 3)] 27)).rowIs (w.heap.size + 1) 27 4 (fun j => .int .u64 (wd Y j)):=zac (n:=4) (by simp) rfl (arr4 fun j => .int .u64 (wd Y j))
 have hB0 : Below w.heap.size w ((w.alloc (.cells #[vI vU (wd X 0),vI vU (wd X 1),vI vU (wd X 2),vI vU (wd X 3)] 27)).alloc (.cells #[vI vU (wd Y 0),vI vU (wd Y 1),vI vU (wd Y 2),vI vU (wd Y 3)] 27)):=((Below.refl _ _).alloc (by simp) _).alloc (by simp) _
 go_enter Tryz.func40,Tryz.ntmps40
 go_wp2_with fail
 refine (zey X _).mono ?_
 rintro e w1 ⟨g1,cap1,rfl,hg1,hp1a,hb1⟩
 simp only [World.size_alloc] at hg1
 have hRB1:=zaa hRB hb1 (by simp)
 have hB1:=hB0.trans (hb1.mono (by simp; omega))
 clear hRB hB0 hb1
 obtain ⟨c0,c1,c2,c3⟩:=zad hRB1
 go_wp2_with fail
 refine (zey Y _).mono ?_
 rintro e w2 ⟨g2,cap2,rfl,hg2,hp2b,hb2⟩
 have hp1b:=hp1a.below hb2 hp1a.lt
 have hB2:=hB1.trans (hb2.mono hB1.size)
 clear hRB1 hB1 hb2 c0 c1 c2 c3 hp1a hg2 hg1
 go_wp2
 go_loopw [7,8] (fun c i wr => ∃ k : Nat,k ≤ 16 ∧ i = .int .i64 k ∧ c = .int .i64 (cmpK X Y k) ∧ Pre wr g1 3 16 (ptv X) ∧ Pre wr g2 3 16 (ptv Y) ∧ Below w.heap.size w wr)
  (fun _ i _ => 16 - (intOf i).toNat)
 case atStart => exact ⟨0,by omega,rfl,by simp [cmpK,cmpN,Nat.mod_one],hp1b,hp2b,hB2⟩
 case round =>
  clear hp1b hp2b hB2
  obtain ⟨k,hk,rfl,rfl,hp1,hp2,hbel⟩:=hrel
  by_cases hlt : k < 16
  ·
   have c1:=hp1.cell hlt
   have c2:=hp2.cell hlt
   simp only [ptv] at c1 c2
   go_wp2
   rcases Int.lt_trichotomy (pt X k) (pt Y k) with h | h | h
   ·
    have h2 : ¬ pt Y k < pt X k:=by omega
    go_quiet (fail)
    go_wp2
    go_quiet (fail)
    go_wp2
    go_roundw
    case rel => exact ⟨k + 1,by omega,by go_num,by rw [cmpK_lt h],hp1.drewN _,hp2.drewN _,zau hbel _⟩
    case measure => simp [intOf]; omega
   ·
    have h1 : ¬ pt X k < pt Y k:=by omega
    have h2 : ¬ pt Y k < pt X k:=by omega
    have H:=veil h
    clear h
    go_quiet (fail)
    go_wp2
    go_quiet (fail)
    go_wp2
    go_roundw
    case rel => exact ⟨k + 1,by omega,by go_num,by rw [cmpK_eq H.out],hp1.drewN _,hp2.drewN _,zau hbel _⟩
    case measure => simp [intOf]; omega
   ·
    have h1 : ¬ pt X k < pt Y k:=by omega
    go_quiet (fail)
    go_wp2
    go_quiet (fail)
    go_wp2
    go_roundw
    case rel => exact ⟨k + 1,by omega,by go_num,by rw [cmpK_gt h],hp1.drewN _,hp2.drewN _,zau hbel _⟩
    case measure => simp [intOf]; omega
  ·
   obtain rfl : k = 16:=by omega
   go_wp2
   go_ret
   rw [← cmpK_top hX hY]
   exact ⟨rfl,hbel⟩
def rightN (X : Nat) : Nat:=((X * X % Pt.pp * X % Pt.pp + Pt.pp - 3 * X % Pt.pp) % Pt.pp + Pt.bb) % Pt.pp
def onB (X Y : Nat) (f : Bool) : Bool:=if f then decide (X = 0) && decide (Y = 0) else decide (X < Pt.pp) && (decide (Y < Pt.pp) && decide (Y * Y % Pt.pp = rightN X))
theorem eql_zero {X : Nat} (hX : X < top) (w : World) : (binOp .eql 27 (.agg #[vI vU (wd X 0),vI vU (wd X 1),vI vU (wd X 2),vI vU (wd X 3)]) (.agg #[vI vU 0,vI vU 0,vI vU 0,vI vU 0])).run Tryz.prog w = .ok (.bool (decide (X = 0))) w:=by
 have h:=eql_num hX (show 0 < top by decide) w
 have e0 : ∀ i,wd 0 i = 0:=by intro i; unfold wd dg; simp
 simp only [e0] at h
 exact h
theorem ron_far (X Y : Nat) (hX : X < top) (hY : Y < top) (w : World) :
  Calls Tryz.prog 21 #[.agg #[vI vU (wd X 0),vI vU (wd X 1),vI vU (wd X 2),vI vU (wd X 3),vI vU (wd Y 0),vI vU (wd Y 1),vI vU (wd Y 2),vI vU (wd Y 3),.bool (true)]] w fun e w' => e = .returned (.bool (decide (X = 0) && decide (Y = 0))) ∧ Below w.heap.size w w':=by
 have hR:=pt_new (w:=w) (b:=w.heap.size) X Y true (t:=29) rfl
 have hB : Below w.heap.size w (w.alloc (.cells #[vI vU (wd X 0),vI vU (wd X 1),vI vU (wd X 2),vI vU (wd X 3),vI vU (wd Y 0),vI vU (wd Y 1),vI vU (wd Y 2),vI vU (wd Y 3),.bool (true)] 29)):=(Below.refl _ _).alloc (Nat.le_refl _) _
 obtain ⟨x0,x1,x2,x3⟩:=pt_x hR
 obtain ⟨y0,y1,y2,y3⟩:=pt_y hR
 have f0:=pt_f hR
 have kx:=fun W => eql_zero hX W
 have ky:=fun W => eql_zero hY W
 obtain ⟨bx,hbx⟩ : ∃ b,b = decide (X = 0):=⟨_,rfl⟩
 obtain ⟨by',hby⟩ : ∃ b,b = decide (Y = 0):=⟨_,rfl⟩
 rw [← hbx] at kx ⊢
 rw [← hby] at ky ⊢
 clear hbx hby hR hX hY
 cases bx
 all_goals
  go_enter Tryz.func21,Tryz.ntmps21
  go_upto_region 1 with (fail)
  generalize w.alloc (.cells #[vI vU (wd X 0),vI vU (wd X 1),vI vU (wd X 2),vI vU (wd X 3),vI vU (wd Y 0),vI vU (wd Y 1),vI vU (wd Y 2),vI vU (wd Y 3),.bool (true)] 29) = wz at *
  go_wp2
  go_ret
  exact ⟨by simp,hB⟩
theorem ron_out (X Y : Nat) (hX : X < top) (hlt : ¬ X < Pt.pp) (w : World) :
  Calls Tryz.prog 21 #[.agg #[vI vU (wd X 0),vI vU (wd X 1),vI vU (wd X 2),vI vU (wd X 3),vI vU (wd Y 0),vI vU (wd Y 1),vI vU (wd Y 2),vI vU (wd Y 3),.bool (false)]] w fun e w' => e = .returned (.bool false) ∧ Below w.heap.size w w':=by
 have hR:=pt_new (w:=w) (b:=w.heap.size) X Y false (t:=29) rfl
 have hB : Below w.heap.size w (w.alloc (.cells #[vI vU (wd X 0),vI vU (wd X 1),vI vU (wd X 2),vI vU (wd X 3),vI vU (wd Y 0),vI vU (wd Y 1),vI vU (wd Y 2),vI vU (wd Y 3),.bool (false)] 29)):=(Below.refl _ _).alloc (Nat.le_refl _) _
 obtain ⟨x0,x1,x2,x3⟩:=pt_x hR
 have f0:=pt_f hR
 have lz:=hR.lt
 obtain ⟨M,hM⟩ : ∃ M,M = Pt.pp:=⟨_,rfl⟩
 have HP:=veil (show ∀ W,Calls Tryz.prog 41 #[] W fun e W' => e = .returned (.agg #[vI vU (wd M 0),vI vU (wd M 1),vI vU (wd M 2),vI vU (wd M 3)]) ∧ Below W.heap.size W W' from fun W => by rw [hM]; exact zet W)
 rw [← hM] at hlt
 have hMt : M < top:=by rw [hM]; exact zbt
 clear hM
 have hc : cmpN X M = 0 ∨ cmpN X M = 1:=by
  unfold cmpN
  rw [if_neg (by omega)]
  split <;> simp
 obtain ⟨c,hcc⟩ : ∃ c,c = cmpN X M:=⟨_,rfl⟩
 rw [← hcc] at hc
 have HC:=veil (show ∀ W,Calls Tryz.prog 40 #[.agg #[vI vU (wd X 0),vI vU (wd X 1),vI vU (wd X 2),vI vU (wd X 3)],.agg #[vI vU (wd M 0),vI vU (wd M 1),vI vU (wd M 2),vI vU (wd M 3)]] W fun e W' => e = .returned (.int .i64 c) ∧ Below W.heap.size W W' from fun W => by rw [hcc]; exact zdi X M hX hMt W)
 clear hcc hlt hX hMt hR
 rcases hc with rfl | rfl
 all_goals
  go_enter Tryz.func21,Tryz.ntmps21
  go_upto_region 3 with (fail)
  generalize w.alloc (.cells #[vI vU (wd X 0),vI vU (wd X 1),vI vU (wd X 2),vI vU (wd X 3),vI vU (wd Y 0),vI vU (wd Y 1),vI vU (wd Y 2),vI vU (wd Y 3),.bool (false)] 29) = wz at *
  refine wp_region_held_drew (S:=fun w' => (∀ b o,b < wz.heap.size → w'.cell? ⟨b,o,none⟩ = wz.cell? ⟨b,o,none⟩) ∧ Below wz.heap.size wz w') (by kernel_rfl) (zbr _) (fun hH => ?_)
  repeat
   ((first
     | (refine wpAnyH_take (i:=0) (v:=.pointer (some ⟨w.heap.size,0,none⟩)) rfl (by kernel_rfl) (by kernel_rfl) (by decide +kernel) (fun _ _ _ h => h) (Or.inl ⟨by rfl,fun W hSw => (by dsimp only at hSw; go_simp)⟩) (by with_reducible assumption) ?_)
     | (refine wpAnyH_take (i:=1) (v:=.agg #[vI vU (wd X 0),vI vU (wd X 1),vI vU (wd X 2),vI vU (wd X 3)]) rfl (by kernel_rfl) (by kernel_rfl) (by decide +kernel) (fun _ _ _ h => h) (Or.inl ⟨by rfl,fun W hSw => (by dsimp only at hSw; go_simp)⟩) (by with_reducible assumption) ?_)
     | (refine wpAnyH_ready (rs:=[2]) (by decide +kernel) (by simp) ?_; refine AllReadyH.cons rfl (fun K hK => ?_) AllReadyH.nil; go_simp; refine (HP.out _).mono ?_; rintro e w1 ⟨rfl,hb⟩; refine hK.out _ _ (zbi hb hH) (fun hH => ?_); clear hK K)
     | (refine wpAnyH_ready (rs:=[3]) (by decide +kernel) (by simp) ?_; refine AllReadyH.cons rfl (fun K hK => ?_) AllReadyH.nil; go_simp; refine (HC.out _).mono ?_; rintro e w2 ⟨rfl,hb⟩; refine hK.out _ _ (zbi hb hH) (fun hH => ?_); clear hK K)
     | (refine wpAnyH_take (i:=4) (v:=.bool true) rfl (by kernel_rfl) (by kernel_rfl) (by decide +kernel) (fun _ _ _ h => h) (Or.inl ⟨by rfl,fun W hSw => (by dsimp only at hSw; go_simp)⟩) (by with_reducible assumption) ?_)
     | (refine wpAnyH_take (i:=5) (v:=.bool true) rfl (by kernel_rfl) (by kernel_rfl) (by decide +kernel) (fun _ _ _ h => h) (Or.inl ⟨by rfl,fun W hSw => (by dsimp only at hSw; go_simp)⟩) (by with_reducible assumption) ?_)
     | (refine wpAnyH_take (i:=6) (v:=undef) rfl (by kernel_rfl) (by kernel_rfl) (by decide +kernel) (fun _ _ _ h => h) (Or.inr ⟨by rfl,rfl⟩) (by with_reducible assumption) ?_)
     | (refine wpAnyH_take (i:=7) (v:=undef) rfl (by kernel_rfl) (by kernel_rfl) (by decide +kernel) (fun _ _ _ h => h) (Or.inr ⟨by rfl,rfl⟩) (by with_reducible assumption) ?_)
     | (refine wpAnyH_take (i:=8) (v:=undef) rfl (by kernel_rfl) (by kernel_rfl) (by decide +kernel) (fun _ _ _ h => h) (Or.inr ⟨by rfl,rfl⟩) (by with_reducible assumption) ?_)
     | (refine wpAnyH_take (i:=9) (v:=undef) rfl (by kernel_rfl) (by kernel_rfl) (by decide +kernel) (fun _ _ _ h => h) (Or.inr ⟨by rfl,rfl⟩) (by with_reducible assumption) ?_)
     | (refine wpAnyH_take (i:=10) (v:=undef) rfl (by kernel_rfl) (by kernel_rfl) (by decide +kernel) (fun _ _ _ h => h) (Or.inr ⟨by rfl,rfl⟩) (by with_reducible assumption) ?_)
     | (refine wpAnyH_take (i:=11) (v:=.bool true) rfl (by kernel_rfl) (by kernel_rfl) (by decide +kernel) (fun _ _ _ h => h) (Or.inl ⟨by rfl,fun W hSw => (by dsimp only at hSw; go_simp)⟩) (by with_reducible assumption) ?_)
     | fail);
    try simp only [Act.put,List.setIfInBounds_toArray,List.set_cons_zero,List.set_cons_succ,List.getElem_toArray,List.getElem_cons_zero,List.getElem_cons_succ])
  refine wpAnyH_done (by decide +kernel) ?_ _
  clear x0 x1 x2 x3 f0
  go_wp2
  go_ret
  exact ⟨rfl,hB.trans (hH.2.mono hB.size)⟩
theorem ron_high (X Y : Nat) (hX : X < Pt.pp) (hY : Y < top) (hlt : ¬ Y < Pt.pp) (w : World) :
  Calls Tryz.prog 21 #[.agg #[vI vU (wd X 0),vI vU (wd X 1),vI vU (wd X 2),vI vU (wd X 3),vI vU (wd Y 0),vI vU (wd Y 1),vI vU (wd Y 2),vI vU (wd Y 3),.bool (false)]] w fun e w' => e = .returned (.bool false) ∧ Below w.heap.size w w':=by
 have hR:=pt_new (w:=w) (b:=w.heap.size) X Y false (t:=29) rfl
 have hB : Below w.heap.size w (w.alloc (.cells #[vI vU (wd X 0),vI vU (wd X 1),vI vU (wd X 2),vI vU (wd X 3),vI vU (wd Y 0),vI vU (wd Y 1),vI vU (wd Y 2),vI vU (wd Y 3),.bool (false)] 29)):=(Below.refl _ _).alloc (Nat.le_refl _) _
 obtain ⟨x0,x1,x2,x3⟩:=pt_x hR
 obtain ⟨y0,y1,y2,y3⟩:=pt_y hR
 have f0:=pt_f hR
 have lz:=hR.lt
 obtain ⟨M,hM⟩ : ∃ M,M = Pt.pp:=⟨_,rfl⟩
 have HP:=veil (show ∀ W,Calls Tryz.prog 41 #[] W fun e W' => e = .returned (.agg #[vI vU (wd M 0),vI vU (wd M 1),vI vU (wd M 2),vI vU (wd M 3)]) ∧ Below W.heap.size W W' from fun W => by rw [hM]; exact zet W)
 rw [← hM] at hlt hX
 have hMt : M < top:=by rw [hM]; exact zbt
 clear hM
 have hc : cmpN Y M = 0 ∨ cmpN Y M = 1:=by
  unfold cmpN
  rw [if_neg (by omega)]
  split <;> simp
 have hcx : cmpN X M = -1:=by
  unfold cmpN
  rw [if_pos hX]
 obtain ⟨c,hcc⟩ : ∃ c,c = cmpN Y M:=⟨_,rfl⟩
 rw [← hcc] at hc
 have HC:=veil (show ∀ W,Calls Tryz.prog 40 #[.agg #[vI vU (wd X 0),vI vU (wd X 1),vI vU (wd X 2),vI vU (wd X 3)],.agg #[vI vU (wd M 0),vI vU (wd M 1),vI vU (wd M 2),vI vU (wd M 3)]] W fun e W' => e = .returned (.int .i64 (-1)) ∧ Below W.heap.size W W' from fun W => by rw [← hcx]; exact zdi X M (by omega) hMt W)
 have HD:=veil (show ∀ W,Calls Tryz.prog 40 #[.agg #[vI vU (wd Y 0),vI vU (wd Y 1),vI vU (wd Y 2),vI vU (wd Y 3)],.agg #[vI vU (wd M 0),vI vU (wd M 1),vI vU (wd M 2),vI vU (wd M 3)]] W fun e W' => e = .returned (.int .i64 c) ∧ Below W.heap.size W W' from fun W => by rw [hcc]; exact zdi Y M hY hMt W)
 clear hcc hcx hlt hX hMt hR hY
 rcases hc with rfl | rfl
 all_goals
  go_enter Tryz.func21,Tryz.ntmps21
  go_upto_region 3 with (fail)
  generalize w.alloc (.cells #[vI vU (wd X 0),vI vU (wd X 1),vI vU (wd X 2),vI vU (wd X 3),vI vU (wd Y 0),vI vU (wd Y 1),vI vU (wd Y 2),vI vU (wd Y 3),.bool (false)] 29) = wz at *
  go_region_held3 (fun w' => (∀ b o,b < wz.heap.size → w'.cell? ⟨b,o,none⟩ = wz.cell? ⟨b,o,none⟩) ∧ Below wz.heap.size wz w')
   (first
    | with_reducible assumption
    | with_reducible exact zbr _
    | with_reducible exact zbi (by assumption) (by assumption)
    | fail)
   (first
    | (go_at_call 41; refine (HP.out _).mono ?_; rintro e w1 ⟨rfl,hb1⟩)
    | (go_at_call 40; first | ((with_reducible refine (HC.out _).mono ?_); rintro e w2 ⟨rfl,hb2⟩) | ((with_reducible refine (HD.out _).mono ?_); rintro e w3 ⟨rfl,hb3⟩)))
  rename (_ ∧ Below wz.heap.size wz _) => hH
  clear x0 x1 x2 x3 y0 y1 y2 y3 f0
  go_wp2
  go_ret
  exact ⟨rfl,hB.trans (hH.2.mono hB.size)⟩
theorem lits3 : wd 3 0 = 3 ∧ wd 3 1 = 0 ∧ wd 3 2 = 0 ∧ wd 3 3 = 0:=by decide
theorem three_lt : 3 < Pt.pp:=by decide +kernel
theorem bb_lt : Pt.bb < Pt.pp:=by decide +kernel
theorem ron_near (X Y : Nat) (hX : X < Pt.pp) (hY : Y < Pt.pp) (w : World) :
  Calls Tryz.prog 21 #[.agg #[vI vU (wd X 0),vI vU (wd X 1),vI vU (wd X 2),vI vU (wd X 3),vI vU (wd Y 0),vI vU (wd Y 1),vI vU (wd Y 2),vI vU (wd Y 3),.bool (false)]] w fun e w' => e = .returned (.bool (decide (Y * Y % Pt.pp = rightN X))) ∧ Below w.heap.size w w':=by
 have hR:=pt_new (w:=w) (b:=w.heap.size) X Y false (t:=29) rfl
 have hB : Below w.heap.size w (w.alloc (.cells #[vI vU (wd X 0),vI vU (wd X 1),vI vU (wd X 2),vI vU (wd X 3),vI vU (wd Y 0),vI vU (wd Y 1),vI vU (wd Y 2),vI vU (wd Y 3),.bool (false)] 29)):=(Below.refl _ _).alloc (Nat.le_refl _) _
 have hmod : ∀ a,a % Pt.pp < Pt.pp:=fun a => Nat.mod_lt _ pp_pos
 obtain ⟨A,hA⟩ : ∃ A,A = X * X % Pt.pp:=⟨_,rfl⟩
 obtain ⟨B,hBB⟩ : ∃ B,B = A * X % Pt.pp:=⟨_,rfl⟩
 obtain ⟨C,hC⟩ : ∃ C,C = 3 * X % Pt.pp:=⟨_,rfl⟩
 obtain ⟨D,hD⟩ : ∃ D,D = (B + Pt.pp - C) % Pt.pp:=⟨_,rfl⟩
 obtain ⟨R,hRR⟩ : ∃ R,R = (D + Pt.bb) % Pt.pp:=⟨_,rfl⟩
 obtain ⟨Q,hQ⟩ : ∃ Q,Q = Y * Y % Pt.pp:=⟨_,rfl⟩
 have hfin : rightN X = R:=by unfold rightN; rw [← hA,← hBB,← hC,← hD,← hRR]
 rw [hfin,← hQ]
 obtain ⟨M,hM⟩ : ∃ M,M = Pt.pp:=⟨_,rfl⟩
 obtain ⟨K,hK⟩ : ∃ K,K = Pt.bb:=⟨_,rfl⟩
 have lX : X < top:=Nat.lt_trans hX zbt
 have lY : Y < top:=Nat.lt_trans hY zbt
 have lA : A < Pt.pp:=by rw [hA]; exact hmod _
 have lB : B < Pt.pp:=by rw [hBB]; exact hmod _
 have lC : C < Pt.pp:=by rw [hC]; exact hmod _
 have lD : D < Pt.pp:=by rw [hD]; exact hmod _
 have lR : R < top:=by rw [hRR]; exact Nat.lt_trans (hmod _) zbt
 have lQ : Q < top:=by rw [hQ]; exact Nat.lt_trans (hmod _) zbt
 have hcx : cmpN X Pt.pp = -1:=by unfold cmpN; rw [if_pos hX]
 have hcy : cmpN Y Pt.pp = -1:=by unfold cmpN; rw [if_pos hY]
 obtain ⟨l0,l1,l2,l3⟩:=lits3
 have HP:=veil (show ∀ W,Calls Tryz.prog 41 #[] W fun e W' => e = .returned (.agg #[vI vU (wd M 0),vI vU (wd M 1),vI vU (wd M 2),vI vU (wd M 3)]) ∧ Below W.heap.size W W' from fun W => by rw [hM]; exact zet W)
 have HCX:=veil (show ∀ W,Calls Tryz.prog 40 #[.agg #[vI vU (wd X 0),vI vU (wd X 1),vI vU (wd X 2),vI vU (wd X 3)],.agg #[vI vU (wd M 0),vI vU (wd M 1),vI vU (wd M 2),vI vU (wd M 3)]] W fun e W' => e = .returned (.int .i64 (-1)) ∧ Below W.heap.size W W' from fun W => by rw [hM,← hcx]; exact zdi X Pt.pp lX zbt W)
 have HCY:=veil (show ∀ W,Calls Tryz.prog 40 #[.agg #[vI vU (wd Y 0),vI vU (wd Y 1),vI vU (wd Y 2),vI vU (wd Y 3)],.agg #[vI vU (wd M 0),vI vU (wd M 1),vI vU (wd M 2),vI vU (wd M 3)]] W fun e W' => e = .returned (.int .i64 (-1)) ∧ Below W.heap.size W W' from fun W => by rw [hM,← hcy]; exact zdi Y Pt.pp lY zbt W)
 have H1:=veil (show ∀ W,Calls Tryz.prog 42 #[.agg #[vI vU (wd X 0),vI vU (wd X 1),vI vU (wd X 2),vI vU (wd X 3)],.agg #[vI vU (wd X 0),vI vU (wd X 1),vI vU (wd X 2),vI vU (wd X 3)]] W fun e W' => e = .returned (.agg #[vI vU (wd A 0),vI vU (wd A 1),vI vU (wd A 2),vI vU (wd A 3)]) ∧ Below W.heap.size W W' from fun W => rmul_is X X A hX lX hA W)
 have H2:=veil (show ∀ W,Calls Tryz.prog 42 #[.agg #[vI vU (wd A 0),vI vU (wd A 1),vI vU (wd A 2),vI vU (wd A 3)],.agg #[vI vU (wd X 0),vI vU (wd X 1),vI vU (wd X 2),vI vU (wd X 3)]] W fun e W' => e = .returned (.agg #[vI vU (wd B 0),vI vU (wd B 1),vI vU (wd B 2),vI vU (wd B 3)]) ∧ Below W.heap.size W W' from fun W => rmul_is A X B lA lX hBB W)
 have H3:=veil (show ∀ W,Calls Tryz.prog 42 #[.agg #[vI vU 3,vI vU 0,vI vU 0,vI vU 0],.agg #[vI vU (wd X 0),vI vU (wd X 1),vI vU (wd X 2),vI vU (wd X 3)]] W fun e W' => e = .returned (.agg #[vI vU (wd C 0),vI vU (wd C 1),vI vU (wd C 2),vI vU (wd C 3)]) ∧ Below W.heap.size W W' from fun W => by have h:=rmul_is 3 X C three_lt lX hC W; rw [l0,l1,l2,l3] at h; exact h)
 have H4:=veil (show ∀ W,Calls Tryz.prog 42 #[.agg #[vI vU (wd Y 0),vI vU (wd Y 1),vI vU (wd Y 2),vI vU (wd Y 3)],.agg #[vI vU (wd Y 0),vI vU (wd Y 1),vI vU (wd Y 2),vI vU (wd Y 3)]] W fun e W' => e = .returned (.agg #[vI vU (wd Q 0),vI vU (wd Q 1),vI vU (wd Q 2),vI vU (wd Q 3)]) ∧ Below W.heap.size W W' from fun W => rmul_is Y Y Q hY lY hQ W)
 have H5:=veil (show ∀ W,Calls Tryz.prog 44 #[.agg #[vI vU (wd B 0),vI vU (wd B 1),vI vU (wd B 2),vI vU (wd B 3)],.agg #[vI vU (wd C 0),vI vU (wd C 1),vI vU (wd C 2),vI vU (wd C 3)]] W fun e W' => e = .returned (.agg #[vI vU (wd D 0),vI vU (wd D 1),vI vU (wd D 2),vI vU (wd D 3)]) ∧ Below W.heap.size W W' from fun W => rsub_is B C D lB lC hD W)
 have H6:=veil (show ∀ W,Calls Tryz.prog 45 #[] W fun e W' => e = .returned (.agg #[vI vU (wd K 0),vI vU (wd K 1),vI vU (wd K 2),vI vU (wd K 3)]) ∧ Below W.heap.size W W' from fun W => by rw [hK]; exact rb_calls W)
 have H7:=veil (show ∀ W,Calls Tryz.prog 43 #[.agg #[vI vU (wd D 0),vI vU (wd D 1),vI vU (wd D 2),vI vU (wd D 3)],.agg #[vI vU (wd K 0),vI vU (wd K 1),vI vU (wd K 2),vI vU (wd K 3)],.agg #[vI vU (wd M 0),vI vU (wd M 1),vI vU (wd M 2),vI vU (wd M 3)]] W fun e W' => e = .returned (.agg #[vI vU (wd R 0),vI vU (wd R 1),vI vU (wd R 2),vI vU (wd R 3)]) ∧ Below W.heap.size W W' from fun W => by rw [hM,hK,hRR]; exact zgu D Pt.bb Pt.pp lD bb_lt zbt W)
 have kq:=fun W => eql_num lQ lR W
 obtain ⟨q,hq⟩ : ∃ q,q = decide (Q = R):=⟨_,rfl⟩
 rw [← hq] at kq ⊢
 obtain ⟨x0,x1,x2,x3⟩:=pt_x hR
 obtain ⟨y0,y1,y2,y3⟩:=pt_y hR
 have f0:=pt_f hR
 have lz:=hR.lt
 have HR:=veil hR
 clear hq lQ lR lD lC lB lA lX lY hcx hcy l0 l1 l2 l3 hM hK hfin hRR hD hC hBB hA hQ hX hY hmod hR
 go_enter Tryz.func21,Tryz.ntmps21
 go_upto_region 3 with (fail)
 generalize w.alloc (.cells #[vI vU (wd X 0),vI vU (wd X 1),vI vU (wd X 2),vI vU (wd X 3),vI vU (wd Y 0),vI vU (wd Y 1),vI vU (wd Y 2),vI vU (wd Y 3),.bool (false)] 29) = wz at *
 go_region_held3 (fun w' => (∀ b o,b < wz.heap.size → w'.cell? ⟨b,o,none⟩ = wz.cell? ⟨b,o,none⟩) ∧ Below wz.heap.size wz w')
  (first
   | (with_reducible assumption)
   | (with_reducible exact zbr _)
   | (with_reducible exact zbi (by assumption) (by assumption))
   | (fail))
  (first
   | (go_at_call 41; refine (HP.out _).mono ?_; rintro e w1 ⟨rfl,hb1⟩)
   | (go_at_call 40; first | ((with_reducible refine (HCX.out _).mono ?_); rintro e w2 ⟨rfl,hb2⟩) | ((with_reducible refine (HCY.out _).mono ?_); rintro e w3 ⟨rfl,hb3⟩)))
 rename (_ ∧ Below wz.heap.size wz _) => hH
 have hH2:=hH.2
 clear hH hb1 hb2 x0 x1 x2 x3 y0 y1 y2 y3 f0
 have hR3:=zaa HR.out hH2 lz
 have hB3:=hB.trans (hH2.mono hB.size)
 clear hH2 hB
 obtain ⟨x0,x1,x2,x3⟩:=pt_x hR3
 have l3:=hR3.lt
 go_upto_region 5 with (fail)
 go_cut [3] from 29 to 36 (fun v3 wx => ∃ g,v3 = .pointer (some ⟨g,0,none⟩) ∧ w3.heap.size ≤ g ∧ wx.rowIs g 27 4 (fun j => .int .u64 (wd B j)) ∧ Below w3.heap.size w3 wx)
 case first =>
  go_region_held3 (fun w' => (∀ b o,b < w3.heap.size → w'.cell? ⟨b,o,none⟩ = w3.cell? ⟨b,o,none⟩) ∧ Below w3.heap.size w3 w')
   (first
    | (with_reducible assumption)
    | (with_reducible exact zbr _)
    | (with_reducible exact keep_fresh _)
    | (with_reducible exact zcs _ (by assumption))
    | ((with_reducible refine keep_swap (by assumption) ?_); first | exact Nat.le_refl _ | exact hbm.size | exact Nat.le_trans hbm.size hbp.size)
    | ((with_reducible refine keep_put4 ?_ (by assumption)); first | exact Nat.le_refl _ | exact hbm.size | exact Nat.le_trans hbm.size hbp.size)
    | (with_reducible exact zbi (by assumption) (by assumption))
    | (fail))
   (first
    | (go_at_call 42; first | ((with_reducible refine (H1.out _).mono ?_); rintro e wm ⟨rfl,hbm⟩; obtain ⟨hmc,hmf,hml⟩:=zem hbm) | ((with_reducible refine (H2.out _).mono ?_); rintro e wp ⟨rfl,hbp⟩; obtain ⟨hpc,hpf,hpl⟩:=zem hbp)))
  all_goals rename (_ ∧ Below w3.heap.size w3 _) => hH
  ·
   go_wp2
   go_meet
   exact ⟨_,rfl,Nat.le_trans hbm.size hbp.size,zac (n:=4) rfl rfl (arr4 fun j => .int .u64 (wd B j)),hH.2⟩
  ·
   go_wp2
   go_meet
   exact ⟨_,rfl,hbm.size,put4 (zaa (zac (n:=4) (f:=fun _ => .int .u64 0) rfl rfl (arr4 fun _ => .int .u64 0)) hbp (by simp)) (fun j => .int .u64 (wd B j)),hH.2⟩
  ·
   go_wp2
   go_meet
   exact ⟨_,rfl,Nat.le_refl _,put4 (zaa (zaa (zac (n:=4) (f:=fun _ => .int .u64 0) rfl rfl (arr4 fun _ => .int .u64 0)).drew hbm (by simp)) hbp (Nat.lt_of_lt_of_le (by simp) hbm.size)) (fun j => .int .u64 (wd B j)),hH.2⟩
 case rest =>
  obtain ⟨g,rfl,hg,hT5,hB5⟩:=hcut
  clear x0 x1 x2 x3
  have hR5:=zaa hR3 hB5 l3
  have hB6:=hB3.trans (hB5.mono hB3.size)
  clear hR3 hB3 hB5
  obtain ⟨x0,x1,x2,x3⟩:=pt_x hR5
  go_wp2_with fail
  refine (H3.out wc).mono ?_
  rintro e w6 ⟨rfl,hb6⟩
  have hT6:=zaa hT5 hb6 hT5.lt
  have hR6:=zaa hR5 hb6 hR5.lt
  have hB7:=hB6.trans (hb6.mono hB6.size)
  clear x0 x1 x2 x3 hT5 hR5 hB6 hb6
  go_upto_region 7 with (fail)
  have hU7 : (w6.alloc (.cells #[vI vU (wd C 0),vI vU (wd C 1),vI vU (wd C 2),vI vU (wd C 3)] 27)).rowIs w6.heap.size 27 4 (fun j => .int .u64 (wd C j)):=zac (n:=4) rfl rfl (arr4 fun j => .int .u64 (wd C j))
  have hT7:=hT6.alloc (.cells #[vI vU (wd C 0),vI vU (wd C 1),vI vU (wd C 2),vI vU (wd C 3)] 27)
  have hR7:=hR6.alloc (.cells #[vI vU (wd C 0),vI vU (wd C 1),vI vU (wd C 2),vI vU (wd C 3)] 27)
  have hB8:=hB7.alloc hB7.size (.cells #[vI vU (wd C 0),vI vU (wd C 1),vI vU (wd C 2),vI vU (wd C 3)] 27)
  generalize w6.alloc (.cells #[vI vU (wd C 0),vI vU (wd C 1),vI vU (wd C 2),vI vU (wd C 3)] 27) = w7 at *
  generalize w6.heap.size = g4 at *
  clear hT6 hR6 hB7
  obtain ⟨y0,y1,y2,y3⟩:=pt_y hR7
  obtain ⟨t0,t1,t2,t3⟩:=zad hT7
  obtain ⟨u0,u1,u2,u3⟩:=zad hU7
  have m1:=hR7.lt
  have m2:=hT7.lt
  have m3:=hU7.lt
  go_region_held3 (fun w' => (∀ b o,b < w7.heap.size → w'.cell? ⟨b,o,none⟩ = w7.cell? ⟨b,o,none⟩) ∧ Below w7.heap.size w7 w')
   (first
    | (with_reducible assumption)
    | (with_reducible exact zbr _)
    | (with_reducible exact zbi (by assumption) (by assumption))
    | (fail))
   (first
    | (go_at_call 42; (with_reducible refine (H4.out _).mono ?_); rintro e v1 ⟨rfl,hv1⟩)
    | (go_at_call 44; (with_reducible refine (H5.out _).mono ?_); rintro e v2 ⟨rfl,hv2⟩)
    | (go_at_call 45; (with_reducible refine (H6.out _).mono ?_); rintro e v3 ⟨rfl,hv3⟩)
    | (go_at_call 41; (with_reducible refine (HP.out _).mono ?_); rintro e v4 ⟨rfl,hv4⟩)
    | (go_at_call 43; (with_reducible refine (H7.out _).mono ?_); rintro e v5 ⟨rfl,hv5⟩))
  rename (_ ∧ Below w7.heap.size w7 _) => hH
  clear y0 y1 y2 y3 t0 t1 t2 t3 u0 u1 u2 u3
  go_wp2
  go_ret
  exact ⟨rfl,hB8.trans (hH.2.mono hB8.size)⟩
theorem ron_calls (X Y : Nat) (f : Bool) (hX : X < top) (hY : Y < top) (w : World) :
  Calls Tryz.prog 21 #[.agg #[vI vU (wd X 0),vI vU (wd X 1),vI vU (wd X 2),vI vU (wd X 3),vI vU (wd Y 0),vI vU (wd Y 1),vI vU (wd Y 2),vI vU (wd Y 3),.bool (f)]] w fun e w' => e = .returned (.bool (onB X Y f)) ∧ Below w.heap.size w w':=by
 unfold onB
 cases f with
 | true => exact ron_far X Y hX hY w
 | false =>
  by_cases hx : X < Pt.pp
  ·
   by_cases hy : Y < Pt.pp
   ·
    simp only [Bool.false_eq_true,if_false,hx,hy,decide_true,Bool.true_and]
    exact ron_near X Y hx hy w
   ·
    simp only [Bool.false_eq_true,if_false,hx,hy,decide_true,decide_false,Bool.true_and,Bool.false_and]
    exact ron_high X Y hx hY hy w
  ·
   simp only [Bool.false_eq_true,if_false,hx,decide_false,Bool.false_and]
   exact ron_out X Y hX hx w
theorem word_core (Z g n c j : Nat) (hn : n ≤ 32) (hj : j + 4 ≤ n) (w : World) (hp : Pre w g 3 n (ptv Z)) :
  Calls Tryz.prog 116 #[.slice (some ⟨g,0,none⟩) n c,.int .i64 (j : Int)] w fun e w' => e = .returned (.int .u64 (pt Z j + 65536 * pt Z (j + 1) + 4294967296 * pt Z (j + 2) + 281474976710656 * pt Z (j + 3))) ∧ ∃ m,w' = w.drewN m:=by
 have c0 : w.cell? ⟨g,j,none⟩ = some (.int .i64 (pt Z j)):=hp.cell (by omega)
 have c1 : w.cell? ⟨g,j + 1,none⟩ = some (.int .i64 (pt Z (j + 1))):=hp.cell (by omega)
 have c2 : w.cell? ⟨g,j + 2,none⟩ = some (.int .i64 (pt Z (j + 2))):=hp.cell (by omega)
 have c3 : w.cell? ⟨g,j + 3,none⟩ = some (.int .i64 (pt Z (j + 3))):=hp.cell (by omega)
 have l0:=pt_lo Z j
 have l1:=pt_lo Z (j + 1)
 have l2:=pt_lo Z (j + 2)
 have l3:=pt_lo Z (j + 3)
 have u0:=pt_lt Z j
 have u1:=pt_lt Z (j + 1)
 have u2:=pt_lt Z (j + 2)
 have u3:=pt_lt Z (j + 3)
 clear hp
 go_enter Tryz.func116,Tryz.ntmps116
 go_wp2
 go_quiet (fail)
 go_wp2
 go_ret
 exact ⟨rfl,_,rfl⟩
theorem zed (Z g n c q : Nat) (a : Int) (ha : a = ((4 * q : Nat) : Int)) (hn : n ≤ 32) (hj : 4 * q + 4 ≤ n) (w : World) (hp : Pre w g 3 n (ptv Z)) :
  Calls Tryz.prog 116 #[.slice (some ⟨g,0,none⟩) n c,.int .i64 a] w fun e w' => e = .returned (.int .u64 (wd Z q)) ∧ ∃ m,w' = w.drewN m:=by
 subst ha
 rw [wd_pt]
 exact word_core Z g n c (4 * q) hn hj w hp
theorem num_calls (Z g c : Nat) (w : World) (hp : Pre w g 3 16 (ptv Z)) :
  Calls Tryz.prog 82 #[.slice (some ⟨g,0,none⟩) 16 c] w fun e w' => e = .returned (.agg #[vI vU (wd Z 0),vI vU (wd Z 1),vI vU (wd Z 2),vI vU (wd Z 3)]) ∧ Below w.heap.size w w':=by
 have hR : (w.alloc (.cells #[vI vU 0,vI vU 0,vI vU 0,vI vU 0] 27)).rowIs w.heap.size 27 4 (fun _ => .int .u64 0):=zac (n:=4) rfl rfl (arr4 fun _ => .int .u64 0)
 have HR:=veil hR
 have HP:=veil (hp.alloc (.cells #[vI vU 0,vI vU 0,vI vU 0,vI vU 0] 27))
 obtain ⟨d0,d1,d2,d3⟩:=zad hR
 obtain ⟨f0,f1,f2,f3⟩:=zaj hR
 clear hR hp
 go_enter Tryz.func82,Tryz.ntmps82
 go_wp2_with fail
 refine (zed Z g 16 c 0 0 rfl (by omega) (by omega) _ HP.out).mono ?_
 rintro e w1 ⟨rfl,m1,rfl⟩
 go_wp2_with fail
 refine (zed Z g 16 c 1 4 rfl (by omega) (by omega) _ (HP.out.drewN _)).mono ?_
 rintro e w1 ⟨rfl,m2,rfl⟩
 go_wp2_with fail
 refine (zed Z g 16 c 2 8 rfl (by omega) (by omega) _ (HP.out.drewN _)).mono ?_
 rintro e w1 ⟨rfl,m3,rfl⟩
 go_wp2_with fail
 refine (zed Z g 16 c 3 12 rfl (by omega) (by omega) _ (HP.out.drewN _)).mono ?_
 rintro e w1 ⟨rfl,m4,rfl⟩
 go_wp2
 refine bodyPost_ret (results_cell_row rfl _ _ w.heap.size 27 #[vI vU (wd Z 0),vI vU (wd Z 1),vI vU (wd Z 2),vI vU (wd Z 3)] (0,0) _ rfl (blk4 (put4 (zbh HR.out _) fun j => .int .u64 (wd Z j))) Tryz.underlying27 rfl (by kernel_rfl)) rfl ⟨rfl,zae (zau ((Below.refl _ _).alloc (Nat.le_refl _) _) _) (Nat.le_refl _) _ _ _ _⟩
theorem pt_put (L c k j : Nat) (hL : L < 256 ^ k) (hc : c < 256) : pt (L + c * 256 ^ k) j = if j = k / 2 then pt L j + (c * 256 ^ (k % 2) : Nat) else pt L j:=by
 have h:=dg_put 2 (k / 2) (k % 2) L c (Nat.mod_lt _ (by omega)) (by rw [Nat.div_add_mod]; exact hL) hc j
 rw [Nat.div_add_mod,← w16_bytes] at h
 unfold pt
 rw [h]
 split
 ·
  rw [Int.natCast_add]
 ·
  rfl
theorem rof_even (L c k : Nat) (hL : L < 256 ^ k) (hc : c < 256) (hk : k % 2 = 0) : pt L (k / 2) + (c : Int) = pt (L + c * 256 ^ k) (k / 2):=by
 rw [pt_put L c k _ hL hc,if_pos rfl,hk]; simp
theorem rof_odd (L c k : Nat) (hL : L < 256 ^ k) (hc : c < 256) (hk : k % 2 = 1) : pt L (k / 2) + 256 * (c : Int) = pt (L + c * 256 ^ k) (k / 2):=by
 rw [pt_put L c k _ hL hc,if_pos rfl,hk]; omega
theorem rof_step (z : Nat → Nat) (k : Nat) (hz : ∀ j,z j < 256) (i : Nat) :
  (if i = k / 2 then Value.int .i64 (pt (lev z k + z k * 256 ^ k) (k / 2)) else Value.int .i64 (pt (lev z k) i)) = Value.int .i64 (pt (lev z (k + 1)) i):=by
 show _ = Value.int .i64 (pt (lev z k + z k * 256 ^ k) i)
 by_cases h : i = k / 2
 ·
  rw [if_pos h,h]
 ·
  rw [if_neg h,pt_put _ _ _ _ (zgs hz k) (hz k),if_neg h]
theorem pt_zero (i : Nat) : pt 0 i = 0:=by unfold pt dg; simp
theorem rof_some (b o n c : Nat) (y : Nat → Nat) (hy : ∀ j,y j < 256) (hn : n ≤ 32) (w : World) (hb : b < w.heap.size) (hcell : ∀ j,j < n → w.cell? ⟨b,o + j,none⟩ = some (.int .u8 (y j))) :
  Calls Tryz.prog 59 #[.slice (some ⟨b,o,none⟩) n c] w fun e w' => e = .returned (.agg #[vI vU (wd (lev (fun k => y (n - 1 - k)) n) 0),vI vU (wd (lev (fun k => y (n - 1 - k)) n) 1),vI vU (wd (lev (fun k => y (n - 1 - k)) n) 2),vI vU (wd (lev (fun k => y (n - 1 - k)) n) 3)]) ∧ Below w.heap.size w w':=by
 obtain ⟨i0,hi,hz0,hz1,hz2⟩:=info_parts infoInt
 have hmk : ∀ W : World,(Instr.makeSlice 116 (.int .i64 16) (.int .i64 16)).run Tryz.prog W = .ok (.slice (some ⟨W.heap.size,0,none⟩) 16 16) (W.alloc (.cells (madeCells #[.int .i64 0] 16) 3)) :=
  fun W => run_make_row 116 3 i0 (.int .i64 0) Tryz.underlying116 hi hz0 hz1 rfl .i64 .i64 16 (by rw [hz2]; omega) (by omega) W
 have HY:=veil hy
 have HC:=veil hcell
 clear hy hcell
 have hn' : (n : Int) ≤ 32:=by omega
 go_enter Tryz.func59,Tryz.ntmps59
 go_wp2
 go_loopw [4] (fun i wr => ∃ k : Nat,k ≤ n ∧ i = .int .i64 k ∧ wr.rowIs w.heap.size 27 4 (fun _ => .int .u64 0) ∧ wr.rowIs (w.heap.size + 1) 3 16 (fun j => .int .i64 (pt (lev (fun k => y (n - 1 - k)) k) j)) ∧ Below w.heap.size w wr)
  (fun i _ => n - (intOf i).toNat)
 case atStart => exact ⟨0,by omega,rfl,(zac (n:=4) rfl rfl (arr4 fun _ => .int .u64 0)).alloc _,(row_filled (z:=.int .i64 0) (by simp)).congr (fun i _ => by rw [lev,pt_zero]),((Below.refl _ _).alloc (by simp) _).alloc (by simp) _⟩
 case round =>
  obtain ⟨k,hk,rfl,hR,hS,hbel⟩:=hrel
  by_cases hlt : k < n
  ·
   have c1:=hS.cell (i:=k / 2) (by omega)
   have f1:=hS.frozen (k / 2)
   obtain ⟨j,hj⟩ : ∃ j,j = n - 1 - k:=⟨_,rfl⟩
   have hji : (n : Int) - 1 - (k : Int) = (j : Int):=by omega
   have hjn : (j : Int) < (n : Int):=by omega
   have hj0 : (0 : Int) ≤ (j : Int):=by omega
   have hkn : (k : Int) < (n : Int):=by omega
   have c2:=(hbel.cell (p:=⟨b,o + j,none⟩) hb).trans (HC.out j (by omega))
   have l1:=pt_lo (lev (fun k => y (n - 1 - k)) k) (k / 2)
   have u1 : pt (lev (fun k => y (n - 1 - k)) k) (k / 2) ≤ 65535:=by have:=pt_lt (lev (fun k => y (n - 1 - k)) k) (k / 2); omega
   have u2 : (y j : Int) ≤ 255:=by have:=HY.out j; omega
   have u3 : (0 : Int) ≤ (y j : Int):=by omega
   have HS:=veil (rof_step (fun k => y (n - 1 - k)) k (fun j => HY.out _))
   have HJ:=veil hj
   clear hj
   rcases Nat.mod_two_eq_zero_or_one k with h2 | h2
   ·
    have hm : ((k : Int) % 2 == 0) = true:=by rw [beq_iff_eq]; omega
    have HM:=veil h2
    clear h2
    go_wp2
    go_region
    all_goals
     go_wp2
     go_roundw
     case rel =>
      rw [show y j = y (n - 1 - k) by rw [HJ.out],rof_even _ _ _ (zgs (fun j => HY.out _) k) (HY.out _) HM.out]
      exact ⟨k + 1,by omega,by go_num,(zar hR (by omega) _).drew,((hS.set (k / 2) _).congr fun i _ => HS.out i).drew,(zai hbel (by omega) _).drew⟩
     case measure => simp [intOf]; omega
   ·
    have hm : ((k : Int) % 2 == 0) = false:=by rw [beq_eq_false_iff_ne]; omega
    have HM:=veil h2
    clear h2
    go_wp2
    go_region
    all_goals
     go_wp2
     go_roundw
     case rel =>
      rw [show y j = y (n - 1 - k) by rw [HJ.out],rof_odd _ _ _ (zgs (fun j => HY.out _) k) (HY.out _) HM.out]
      exact ⟨k + 1,by omega,by go_num,(zar hR (by omega) _).drew,((hS.set (k / 2) _).congr fun i _ => HS.out i).drew,(zai hbel (by omega) _).drew⟩
     case measure => simp [intOf]; omega
  ·
   obtain rfl : k = n:=by omega
   go_wp2_with fail
   refine (num_calls (lev (fun j => y (k - 1 - j)) k) (w.heap.size + 1) 16 _ (Pre.of_row hS)).mono ?_
   rintro e w3 ⟨rfl,hb3⟩
   have hR3:=zaa hR hb3 hR.lt
   have hB3:=hbel.trans (hb3.mono hbel.size)
   obtain ⟨d0,d1,d2,d3⟩:=zad hR3
   obtain ⟨f0,f1,f2,f3⟩:=zaj hR3
   clear hR hS hbel hb3
   go_wp2
   refine bodyPost_ret (results_cell_row rfl _ _ w.heap.size 27 #[vI vU (wd (lev (fun j => y (k - 1 - j)) k) 0),vI vU (wd (lev (fun j => y (k - 1 - j)) k) 1),vI vU (wd (lev (fun j => y (k - 1 - j)) k) 2),vI vU (wd (lev (fun j => y (k - 1 - j)) k) 3)] (0,0) _ rfl (blk4 (put4 hR3 fun j => .int .u64 (wd (lev (fun j => y (k - 1 - j)) k) j))) Tryz.underlying27 rfl (by kernel_rfl)) rfl ⟨rfl,zae hB3 (by omega) _ _ _ _⟩
theorem keep_setRow {wz W : World} {g : Nat} {cs : Array Value} (hg : wz.heap.size ≤ g) (h : (∀ b o,b < wz.heap.size → W.cell? ⟨b,o,none⟩ = wz.cell? ⟨b,o,none⟩) ∧ Below wz.heap.size wz W) :
  (∀ b o,b < wz.heap.size → (W.setRow g cs).cell? ⟨b,o,none⟩ = wz.cell? ⟨b,o,none⟩) ∧ Below wz.heap.size wz (W.setRow g cs) :=
 ⟨fun b o hb => (World.cell?_of_block (a:=⟨b,o,none⟩) (zcq W cs (show b ≠ g by omega))).trans (h.1 b o hb),zdd h.2 hg cs⟩
def be32 (y : Nat → Nat) (k : Nat) : Nat:=lev (fun i => y (k + (31 - i))) 32
theorem zgc {y : Nat → Nat} (hy : ∀ j,y j < 256) (k : Nat) : be32 y k < top:=by
 have h:=zgs (z:=fun i => y (k + (31 - i))) (fun i => hy _) 32
 have e : (256 : Nat) ^ 32 = top:=by decide +kernel
 rw [← e]
 exact h
theorem zev {P : Program} {fn : Func} {p s : Tmp} {ty : TypeId} (h : fn.results = #[.cell p ty,.tmp s]) (tmps : Array Value) (w : World) (g : Nat) (t : TypeId) (cs : Array Value) (fr : Nat × Nat) (d : TypeDesc)
  (hp : tmps.getD p undef = .pointer (some ⟨g,0,none⟩)) (hg : w.heap[g]? = some (.cells cs t fr))
  (hu : P.underlying ty = some d) (hd : (match d with | .struct _ | .array _ _ => true | _ => false) = true) (hi : (P.info? ty).map (·.size) = some cs.size) :
  (results fn tmps).run P w = .ok (.tuple #[.agg cs,tmps.getD s undef]) w:=by
 have hp' : tmps[p]?.getD undef = .pointer (some ⟨g,0,none⟩):=by simpa using hp
 simp [results,h,hp',asAddr,run_loadVar_row w g t ty cs fr d hg hu hd hi]
theorem rparse_64 (b o c : Nat) (y : Nat → Nat) (hy : ∀ j,y j < 256) (hc : 64 ≤ c) (w : World) (hlt : b < w.heap.size) (hcell : ∀ j,j < 64 → w.cell? ⟨b,o + j,none⟩ = some (.int .u8 (y j : Nat))) :
  Calls Tryz.prog 34 #[.slice (some ⟨b,o,none⟩) 64 c] w fun e w' => e = .returned (.tuple #[if onB (be32 y 0) (be32 y 32) false = true then .agg #[vI vU (wd (be32 y 0) 0),vI vU (wd (be32 y 0) 1),vI vU (wd (be32 y 0) 2),vI vU (wd (be32 y 0) 3),vI vU (wd (be32 y 32) 0),vI vU (wd (be32 y 32) 1),vI vU (wd (be32 y 32) 2),vI vU (wd (be32 y 32) 3),.bool (false)] else .agg #[vI vU 0,vI vU 0,vI vU 0,vI vU 0,vI vU 0,vI vU 0,vI vU 0,vI vU 0,.bool false],.bool (onB (be32 y 0) (be32 y 32) false)]) ∧ Below w.heap.size w w':=by
 have lX:=zgc hy 0
 have lY:=zgc hy 32
 have eX : lev (fun k => y (32 - 1 - k)) 32 = be32 y 0:=by unfold be32; simp only [Nat.zero_add]
 have eY : lev (fun k => y (32 + (32 - 1 - k))) 32 = be32 y 32:=rfl
 obtain ⟨X,hX⟩ : ∃ X,X = be32 y 0:=⟨_,rfl⟩
 obtain ⟨Y,hY⟩ : ∃ Y,Y = be32 y 32:=⟨_,rfl⟩
 rw [← hX] at lX eX ⊢
 rw [← hY] at lY eY ⊢
 clear hX hY
 obtain ⟨q,hq⟩ : ∃ q,q = onB X Y false:=⟨_,rfl⟩
 rw [← hq]
 have HQ:=veil hq
 clear hq
 have q1 : ∀ W,(Instr.sliceAt 33 (.slice (some ⟨b,o,none⟩) 64 c) none (some (.int .i64 32)) none).run Tryz.prog W = .ok (.slice (some ⟨b,o,none⟩) 32 c) W:=fun W => by
  have h:=cut_to (some ⟨b,o,none⟩) 64 c 32 (by omega) W
  unfold cutA at h
  rw [if_neg (by omega)] at h
  simpa [Addr.add_mid] using h
 have q2 : ∀ W,(Instr.sliceAt 33 (.slice (some ⟨b,o,none⟩) 64 c) (some (.int .i64 32)) none none).run Tryz.prog W = .ok (.slice (some ⟨b,o + 32,none⟩) 32 (c - 32)) W:=fun W => by
  have h:=zhm (some ⟨b,o,none⟩) 64 c 32 (by omega) W
  unfold cutA at h
  rw [if_neg (by omega)] at h
  simpa [Addr.add_mid] using h
 have hR0 : (w.alloc (.cells #[vI vU 0,vI vU 0,vI vU 0,vI vU 0,vI vU 0,vI vU 0,vI vU 0,vI vU 0,.bool false] 29)).rowIs w.heap.size 29 9 (pc 0 0 false):=zgv rfl
 have hB : Below w.heap.size w (w.alloc (.cells #[vI vU 0,vI vU 0,vI vU 0,vI vU 0,vI vU 0,vI vU 0,vI vU 0,vI vU 0,.bool false] 29)):=(Below.refl _ _).alloc (Nat.le_refl _) _
 have hcz : ∀ j,j < 64 → (w.alloc (.cells #[vI vU 0,vI vU 0,vI vU 0,vI vU 0,vI vU 0,vI vU 0,vI vU 0,vI vU 0,.bool false] 29)).cell? ⟨b,o + j,none⟩ = some (.int .u8 (y j : Nat)):=fun j hj => (hB.cell (p:=⟨b,o + j,none⟩) hlt).trans (hcell j hj)
 have hbz : b < (w.alloc (.cells #[vI vU 0,vI vU 0,vI vU 0,vI vU 0,vI vU 0,vI vU 0,vI vU 0,vI vU 0,.bool false] 29)).heap.size:=by simp; omega
 clear hcell
 go_enter Tryz.func34,Tryz.ntmps34
 go_upto_region 3 with (fail)
 generalize w.alloc (.cells #[vI vU 0,vI vU 0,vI vU 0,vI vU 0,vI vU 0,vI vU 0,vI vU 0,vI vU 0,.bool false] 29) = wz at *
 have H1:=veil (show ∀ W,((∀ b o,b < wz.heap.size → W.cell? ⟨b,o,none⟩ = wz.cell? ⟨b,o,none⟩) ∧ Below wz.heap.size wz W) → Calls Tryz.prog 59 #[.slice (some ⟨b,o,none⟩) 32 c] W fun e W' => e = .returned (.agg #[vI vU (wd X 0),vI vU (wd X 1),vI vU (wd X 2),vI vU (wd X 3)]) ∧ Below W.heap.size W W' from fun W h => by
  rw [← eX]
  exact rof_some b o 32 c y hy (by omega) W (Nat.lt_of_lt_of_le hbz h.2.size) fun j hj => (h.1 b (o + j) hbz).trans (hcz j (by omega)))
 have H2:=veil (show ∀ W,((∀ b o,b < wz.heap.size → W.cell? ⟨b,o,none⟩ = wz.cell? ⟨b,o,none⟩) ∧ Below wz.heap.size wz W) → Calls Tryz.prog 59 #[.slice (some ⟨b,o + 32,none⟩) 32 (c - 32)] W fun e W' => e = .returned (.agg #[vI vU (wd Y 0),vI vU (wd Y 1),vI vU (wd Y 2),vI vU (wd Y 3)]) ∧ Below W.heap.size W W' from fun W h => by
  rw [← eY]
  exact rof_some b (o + 32) 32 (c - 32) (fun j => y (32 + j)) (fun j => hy _) (by omega) W (Nat.lt_of_lt_of_le hbz h.2.size) fun j hj => by
   rw [Nat.add_assoc]
   exact (h.1 b (o + (32 + j)) hbz).trans (hcz (32 + j) (by omega)))
 have HL:=veil (And.intro lX lY)
 clear lX lY eX eY hy
 go_cut [4] from 10 to 16 (fun v4 wx => ∃ g,v4 = .pointer (some ⟨g,0,none⟩) ∧ wz.heap.size ≤ g ∧ wx.rowIs g 29 9 (pc X Y false) ∧ Below wz.heap.size wz wx)
 case first =>
  refine wp_region_held_drew (S:=fun w' => (∀ b o,b < wz.heap.size → w'.cell? ⟨b,o,none⟩ = wz.cell? ⟨b,o,none⟩) ∧ Below wz.heap.size wz w') (by kernel_rfl) (zbr _) (fun hH => ?_)
  repeat'
   ((first
     | (refine wpAnyH_take (i:=0) (v:=.slice (some ⟨b,o,none⟩) 64 c) rfl (by kernel_rfl) (by kernel_rfl) (by decide +kernel) (fun _ _ _ h => h) (Or.inl ⟨by rfl,fun W hSw => (by dsimp only at hSw; go_simp)⟩) (by with_reducible assumption) ?_)
     | (refine wpAnyH_take (i:=1) (v:=.slice (some ⟨b,o,none⟩) 32 c) rfl (by kernel_rfl) (by kernel_rfl) (by decide +kernel) (fun _ _ _ h => h) (Or.inl ⟨by rfl,fun W hSw => (by dsimp only at hSw; go_simp)⟩) (by with_reducible assumption) ?_)
     | (refine wpAnyH_take (i:=3) (v:=.slice (some ⟨b,o,none⟩) 64 c) rfl (by kernel_rfl) (by kernel_rfl) (by decide +kernel) (fun _ _ _ h => h) (Or.inl ⟨by rfl,fun W hSw => (by dsimp only at hSw; go_simp)⟩) (by with_reducible assumption) ?_)
     | (refine wpAnyH_take (i:=4) (v:=.slice (some ⟨b,o + 32,none⟩) 32 (c - 32)) rfl (by kernel_rfl) (by kernel_rfl) (by decide +kernel) (fun _ _ _ h => h) (Or.inl ⟨by rfl,fun W hSw => (by dsimp only at hSw; go_simp)⟩) (by with_reducible assumption) ?_)
     | (refine wpAnyH_ready (rs:=[2,7]) (by decide +kernel) (by simp) ?_; refine AllReadyH.cons rfl (fun K hK => ?_) ?_; go_simp; (with_reducible refine (H1.out _ hH).mono ?_); rintro e v1 ⟨rfl,hb⟩; (try have hz:=zaa hz hb hz.lt); refine hK.out _ _ (zbi hb hH) (fun hH => ?_); clear hb hK K; rotate_left; refine AllReadyH.cons rfl (fun K hK => ?_) AllReadyH.nil; go_simp; have hz:=zgv (w:=wz.drew) (t:=29) rfl; have hle:=hH.2.size; refine hK.out _ _ (zcs _ hH) (fun hH => ?_); clear hK K)
     | (refine wpAnyH_ready (rs:=[2]) (by decide +kernel) (by simp) ?_; refine AllReadyH.cons rfl (fun K hK => ?_) AllReadyH.nil; go_simp; (with_reducible refine (H1.out _ hH).mono ?_); rintro e v1 ⟨rfl,hb⟩; (try have hz:=zaa hz hb hz.lt); refine hK.out _ _ (zbi hb hH) (fun hH => ?_); clear hb hK K)
     | (refine wpAnyH_ready (rs:=[5,7]) (by decide +kernel) (by simp) ?_; refine AllReadyH.cons rfl (fun K hK => ?_) ?_; go_simp; (with_reducible refine (H2.out _ hH).mono ?_); rintro e v2 ⟨rfl,hb⟩; (try have hz:=zaa hz hb hz.lt); refine hK.out _ _ (zbi hb hH) (fun hH => ?_); clear hb hK K; rotate_left; refine AllReadyH.cons rfl (fun K hK => ?_) AllReadyH.nil; go_simp; have hz:=zgv (w:=v1) (t:=29) rfl; have hle:=hH.2.size; refine hK.out _ _ (zcs _ hH) (fun hH => ?_); clear hK K)
     | (refine wpAnyH_ready (rs:=[5]) (by decide +kernel) (by simp) ?_; refine AllReadyH.cons rfl (fun K hK => ?_) AllReadyH.nil; go_simp; (with_reducible refine (H2.out _ hH).mono ?_); rintro e v2 ⟨rfl,hb⟩; (try have hz:=zaa hz hb hz.lt); refine hK.out _ _ (zbi hb hH) (fun hH => ?_); clear hb hK K)
     | (refine wpAnyH_take (i:=6) (v:=.agg #[vI vU (wd X 0),vI vU (wd X 1),vI vU (wd X 2),vI vU (wd X 3),vI vU (wd Y 0),vI vU (wd Y 1),vI vU (wd Y 2),vI vU (wd Y 3),.bool (false)]) rfl (by kernel_rfl) (by kernel_rfl) (by decide +kernel) (fun _ _ _ h => h) (Or.inl ⟨by rfl,fun W hSw => (by dsimp only at hSw; go_simp)⟩) (by with_reducible assumption) ?_)
     | (refine wpAnyH_ready (rs:=[7]) (by decide +kernel) (by simp) ?_; refine AllReadyH.cons rfl (fun K hK => ?_) AllReadyH.nil; go_simp; have hz:=zgv (w:=v2) (t:=29) rfl; have hle:=hH.2.size; refine hK.out _ _ (zcs _ hH) (fun hH => ?_); clear hK K)
     | (refine wpAnyH_ready (rs:=[8]) (by decide +kernel) (by simp) ?_; refine AllReadyH.cons rfl (fun K hK => ?_) AllReadyH.nil; refine step_store_row rfl 29 _ _ rfl _ #[vI vU (wd X 0),vI vU (wd X 1),vI vU (wd X 2),vI vU (wd X 3),vI vU (wd Y 0),vI vU (wd Y 1),vI vU (wd Y 2),vI vU (wd Y 3),.bool (false)] rfl rfl 29 _ (blkOf hz) zds (by rw [zen]; rfl) (one9 X Y false) ?_; have hrow:=row_setRow hz (a:=#[vI vU (wd X 0),vI vU (wd X 1),vI vU (wd X 2),vI vU (wd X 3),vI vU (wd Y 0),vI vU (wd Y 1),vI vU (wd Y 2),vI vU (wd Y 3),.bool (false)]) rfl (arr9 X Y false); refine hK.out _ _ (keep_setRow hle hH) (fun hH => ?_); clear hK K)
     | fail);
    try simp only [Act.put,List.setIfInBounds_toArray,List.set_cons_zero,List.set_cons_succ,List.getElem_toArray,List.getElem_cons_zero,List.getElem_cons_succ])
  all_goals
   refine wpAnyH_done (by decide +kernel) ?_ _
   go_wp2
   go_meet
   exact ⟨_,rfl,hle,hrow,hH.2⟩
 case rest =>
  obtain ⟨g,rfl,hg,hT,hb⟩:=hcut
  have HT:=veil (blk9 hT)
  have lT:=hT.lt
  have HON:=ron_calls X Y false HL.out.1 HL.out.2
  have hR5:=zaa hR0 hb hR0.lt
  have hB5:=hB.trans (hb.mono hB.size)
  have hgR : w.heap.size < g:=Nat.lt_of_lt_of_le hR0.lt hg
  clear hb hR0 hB hT
  rw [← HQ.out] at HON
  clear HQ
  replace HON:=veil HON
  cases q with
  | true =>
   go_wp2_with ((with_reducible refine zah 17 ?_); refine wpList_load_row rfl 29 _ rfl g rfl 29 #[vI vU (wd X 0),vI vU (wd X 1),vI vU (wd X 2),vI vU (wd X 3),vI vU (wd Y 0),vI vU (wd Y 1),vI vU (wd Y 2),vI vU (wd Y 3),.bool (false)] (0,0) _ HT.out Tryz.underlying29 rfl zds ?_)
   refine (HON.out _).mono ?_
   rintro e w6 ⟨rfl,hb⟩
   have hR6:=zaa hR5 hb hR5.lt
   have HT6:=veil ((hb.block g lT).trans HT.out)
   have hB6:=hB5.trans (hb.mono hB5.size)
   have HR:=veil (blkOf hR6)
   clear hb hR5 hB5 HT hR6 HON
   go_wp2_with (first
    | ((with_reducible refine zah 22 ?_); refine wpList_load_row rfl 29 _ rfl g rfl 29 #[vI vU (wd X 0),vI vU (wd X 1),vI vU (wd X 2),vI vU (wd X 3),vI vU (wd Y 0),vI vU (wd Y 1),vI vU (wd Y 2),vI vU (wd Y 3),.bool (false)] (0,0) _ HT6.out Tryz.underlying29 rfl zds ?_)
    | ((with_reducible refine zay ?_); refine wpList_store_row rfl 29 _ _ rfl w.heap.size #[vI vU (wd X 0),vI vU (wd X 1),vI vU (wd X 2),vI vU (wd X 3),vI vU (wd Y 0),vI vU (wd Y 1),vI vU (wd Y 2),vI vU (wd Y 3),.bool (false)] rfl rfl 29 _ HR.out zds (by rw [zen]; rfl) (one9 _ _ _) ?_))
   exact bodyPost_ret (zev rfl _ _ w.heap.size 29 #[vI vU (wd X 0),vI vU (wd X 1),vI vU (wd X 2),vI vU (wd X 3),vI vU (wd Y 0),vI vU (wd Y 1),vI vU (wd Y 2),vI vU (wd Y 3),.bool (false)] (0,0) _ rfl (setRow_heap w6 w.heap.size _ #[vI vU (wd X 0),vI vU (wd X 1),vI vU (wd X 2),vI vU (wd X 3),vI vU (wd Y 0),vI vU (wd Y 1),vI vU (wd Y 2),vI vU (wd Y 3),.bool (false)] 29 (0,0) HR.out) Tryz.underlying29 rfl zds) rfl ⟨rfl,zdd hB6 (Nat.le_refl _) _⟩
  | false =>
   go_wp2_with ((with_reducible refine zah 17 ?_); refine wpList_load_row rfl 29 _ rfl g rfl 29 #[vI vU (wd X 0),vI vU (wd X 1),vI vU (wd X 2),vI vU (wd X 3),vI vU (wd Y 0),vI vU (wd Y 1),vI vU (wd Y 2),vI vU (wd Y 3),.bool (false)] (0,0) _ HT.out Tryz.underlying29 rfl zds ?_)
   refine (HON.out _).mono ?_
   rintro e w6 ⟨rfl,hb⟩
   have hR6:=zaa hR5 hb hR5.lt
   have hB6:=hB5.trans (hb.mono hB5.size)
   have HR:=veil (blkOf hR6)
   clear hb hR5 hB5 HT hR6 HON
   go_wp2_with ((with_reducible refine zay ?_); refine wpList_store_row rfl 29 _ _ rfl w.heap.size #[vI vU 0,vI vU 0,vI vU 0,vI vU 0,vI vU 0,vI vU 0,vI vU 0,vI vU 0,.bool false] rfl rfl 29 _ HR.out zds (by rw [zen]; rfl) (by simp [Value.oneCell']) ?_)
   exact bodyPost_ret (zev rfl _ _ w.heap.size 29 #[vI vU 0,vI vU 0,vI vU 0,vI vU 0,vI vU 0,vI vU 0,vI vU 0,vI vU 0,.bool false] (0,0) _ rfl (setRow_heap w6 w.heap.size _ #[vI vU 0,vI vU 0,vI vU 0,vI vU 0,vI vU 0,vI vU 0,vI vU 0,vI vU 0,.bool false] 29 (0,0) HR.out) Tryz.underlying29 rfl zds) rfl ⟨rfl,zdd hB6 (Nat.le_refl _) _⟩
/-! ### numbers -/
theorem lev_digs9 (X : Nat) (z : Nat → Nat) : ∀ i,(∀ k,k < i → z k = X / 256 ^ k % 256) → lev z i = X % 256 ^ i
 | 0,_ => by simp [lev,Nat.mod_one]
 | i + 1,h => by
  show lev z i + z i * 256 ^ i = _
  rw [zbk,lev_digs9 X z i (fun k hk => h k (by omega)),h i (by omega),Nat.mul_comm]
  rfl
theorem lev_valB {bs : List Nat} (h : Byt bs) {n : Nat} (hl : bs.length = n) {z : Nat → Nat} (hz : ∀ k,k < n → z k = bs.getD (n - 1 - k) 0) : lev z n = valB bs:=by
 have e:=beB_valB h hl
 have hx : valB bs < 256 ^ n:=hl ▸ valB_lt_len h
 rw [lev_digs9 (valB bs) z n fun k hk => ?_,Nat.mod_eq_of_lt hx]
 have h1:=beB_get n (valB bs) (i:=n - 1 - k) (by omega)
 rw [e] at h1
 rw [hz k hk,h1,show n - 1 - (n - 1 - k) = k by omega]
theorem ptB_sig (r s j : Nat) (hj : j < 64) : ptB r s j = .int .u8 ((sigB r s).getD j 0 : Nat):=by
 have hd : ∀ X i,i < 32 → bsv X i = .int .u8 ((beB 32 X).getD i 0 : Nat):=fun X i hi => by
  rw [beB_get 32 X hi]
  rfl
 unfold ptB sigB
 simp only [List.getD_eq_getElem?_getD] at hd ⊢
 by_cases h : j < 32
 ·
  rw [if_pos h,List.getElem?_append_left (by rw [zch]; exact h)]
  exact hd r j h
 ·
  rw [if_neg h,List.getElem?_append_right (by rw [zch]; omega),zch]
  exact hd s (j - 32) (by omega)
theorem own_sig {w w' : World} {v : Value} {r s : Nat} (o : Own w' w.heap.size 5 v 64 (ptB r s)) : ∃ A c,v = .slice A 64 c ∧ 64 ≤ c ∧ Bs w' A (sigB r s) ∧ Fresh w A (sigB r s):=by
 obtain ⟨g,c,rfl,hc,hg,hp⟩:=o.pre (by decide)
 refine ⟨_,c,rfl,hc,⟨sigB_byt r s,.inr ⟨g,0,rfl,hp.lt,fun j hj => ?_⟩⟩,.inr fun b o e => ?_⟩
 ·
  rw [zcw] at hj
  rw [Nat.zero_add,hp.cell hj,ptB_sig r s j hj]
 ·
  injection e with e
  injection e with e
  omega
theorem zgb {bs : List Nat} (h : Byt bs) (hl : bs.length = 64) : be32 (fun j => bs.getD j 0) 0 = sigR bs:=lev_valB (bs:=bs.take 32) (h.take 32) (by rw [List.length_take]; omega) fun k hk => by
 simp only [List.getD_eq_getElem?_getD,List.getElem?_take_of_lt (show 32 - 1 - k < 32 by omega),Nat.zero_add]
theorem zga {bs : List Nat} (h : Byt bs) (hl : bs.length = 64) : be32 (fun j => bs.getD j 0) 32 = sigS bs:=lev_valB (bs:=bs.drop 32) (h.drop 32) (by rw [List.length_drop]; omega) fun k hk => by
 simp only [List.getD_eq_getElem?_getD,List.getElem?_drop]
end Go.Proofs.YthlbemnbmbmjhaaGreatDoor
