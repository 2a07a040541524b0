/-
  Of Len RBit RLen Q10 Q12 G6 G7a PS S0 S1 S3 NL NR1 RBytes NR.
-/
import Derived.Deep.MidRow
import Derived.Laws.OwnMore
import Derived.Deep.AppendLies
import Derived.Deep.RegionHeld3
import Derived.Deep.Cut
import Derived.Deep.CutRange
import Derived.Deep.LoopGhost
import Derived.Test.YtihophdbkjhopaaGreatDoorZA10
import Derived.Test.YtihophdbkjhopaaGreatDoorZA4
import Derived.Test.YtihophdbkjhopaaGreatDoorZA5
import Derived.Test.YtihophdbkjhopaaGreatDoorZA6
import Derived.Test.YtihophdbkjhopaaGreatDoorZA8
import Derived.Test.YtihophdbkjhopaaGreatDoorZA3
import Derived.Test.YtihophdbkjhopaaGreatDoorZA2
import Derived.Test.YtihophdbkjhopaaGreatDoorZA9
set_option maxRecDepth 1000000
set_option maxHeartbeats 20000000
namespace Go.Proofs.YtihophdbkjhopaaGreatDoor
open Go.RowKit
open Go.Value renaming int → vI
open Go.IntKind renaming u64 → vU
open Go.Act renaming put → aP
open List renaming setIfInBounds_toArray → lA, set_cons_zero → lZ, set_cons_succ → lS
theorem zeg {a b : Int} (h : a = b) : Ending.returned (.int .i64 a) = .returned (.int .i64 b):=by rw [h]
theorem zdy (k i : Nat) (hi : i < 256) (hk : k ≤ 56) : wrap64 ((k : Int) + wrap64 (bitLen i : Int)) = ((k + bitLen i : Nat) : Int):=by
 have:=bitLen_le8 i hi
 rw [IntWalk.wrap64_in (bitLen i : Int) (by omega),IntWalk.wrap64_in _ (by omega)]
 omega
theorem zdh (x b : Nat) (h : 2 ^ b ≤ x) : bitLen x = b + bitLen (x / 2 ^ b) :=
 bitLen_shift x b (by have:=Nat.div_pos h (Nat.two_pow_pos b); omega)
theorem len64_0 (x : Int) (hl : 0 ≤ x) (hu : x ≤ 255) (w : World) : Calls Tryz.prog 140 #[vI vU x] w fun e w' => e = .returned (.int .i64 (bitLen x.toNat)) ∧ w' = w:=by
 have h1 : x ≤ 4294967295:=by omega
 have h2 : x ≤ 65535:=by omega
 have h3 : x ≤ 255:=by omega
 have h0 : 0 ≤ x:=by omega
 clear hu hl
 go_enter Tryz.func140,Tryz.ntmps140
 go_wp2
 go_ret
 refine ⟨zeg ?_,rfl⟩
 rw [len8tab_get]
 have h:=zdy 0 x.toNat (by omega) (by omega)
 simpa using h
theorem len64_8 (x : Int) (hl : 256 ≤ x) (hu : x ≤ 65535) (w : World) : Calls Tryz.prog 140 #[vI vU x] w fun e w' => e = .returned (.int .i64 (bitLen x.toNat)) ∧ w' = w:=by
 have h1 : x ≤ 4294967295:=by omega
 have h2 : x ≤ 65535:=by omega
 have h3 : (256 : Int) ≤ x:=by omega
 have h4 : x / 256 ≤ 255:=by omega
 have h0 : 0 ≤ x:=by omega
 clear hu hl
 go_enter Tryz.func140,Tryz.ntmps140
 go_wp2
 go_ret
 refine ⟨zeg ?_,rfl⟩
 rw [len8tab_get]
 have e : (x / 256).toNat = x.toNat / 2 ^ 8:=by show _ = x.toNat / 256; omega
 rw [e,zdh x.toNat 8 (by show 256 ≤ x.toNat; omega)]
 exact zdy 8 _ (by rw [← e]; omega) (by omega)
theorem len64_16 (x : Int) (hl : 65536 ≤ x) (hu : x ≤ 16777215) (w : World) : Calls Tryz.prog 140 #[vI vU x] w fun e w' => e = .returned (.int .i64 (bitLen x.toNat)) ∧ w' = w:=by
 have h1 : x ≤ 4294967295:=by omega
 have h2 : (65536 : Int) ≤ x:=by omega
 have h3 : x / 65536 ≤ 255:=by omega
 have h0 : 0 ≤ x:=by omega
 clear hu hl
 go_enter Tryz.func140,Tryz.ntmps140
 go_wp2
 go_ret
 refine ⟨zeg ?_,rfl⟩
 rw [len8tab_get]
 have e : (x / 65536).toNat = x.toNat / 2 ^ 16:=by show _ = x.toNat / 65536; omega
 rw [e,zdh x.toNat 16 (by show 65536 ≤ x.toNat; omega)]
 exact zdy 16 _ (by rw [← e]; omega) (by omega)
theorem len64_24 (x : Int) (hl : 16777216 ≤ x) (hu : x ≤ 4294967295) (w : World) : Calls Tryz.prog 140 #[vI vU x] w fun e w' => e = .returned (.int .i64 (bitLen x.toNat)) ∧ w' = w:=by
 have h1 : x ≤ 4294967295:=by omega
 have h2 : (65536 : Int) ≤ x:=by omega
 have h3 : (256 : Int) ≤ x / 65536:=by omega
 have h4 : x / 65536 / 256 ≤ 255:=by omega
 have h0 : 0 ≤ x:=by omega
 clear hu hl
 go_enter Tryz.func140,Tryz.ntmps140
 go_wp2
 go_ret
 refine ⟨zeg ?_,rfl⟩
 rw [len8tab_get]
 have e : (x / 65536 / 256).toNat = x.toNat / 2 ^ 24:=by show _ = x.toNat / 16777216; omega
 rw [e,zdh x.toNat 24 (by show 16777216 ≤ x.toNat; omega)]
 exact zdy 24 _ (by rw [← e]; omega) (by omega)
theorem len64_32 (x : Int) (hl : 4294967296 ≤ x) (hu : x ≤ 1099511627775) (w : World) : Calls Tryz.prog 140 #[vI vU x] w fun e w' => e = .returned (.int .i64 (bitLen x.toNat)) ∧ w' = w:=by
 have h1 : (4294967296 : Int) ≤ x:=by omega
 have h2 : x / 4294967296 ≤ 65535:=by omega
 have h3 : x / 4294967296 ≤ 255:=by omega
 have h0 : 0 ≤ x:=by omega
 clear hu hl
 go_enter Tryz.func140,Tryz.ntmps140
 go_wp2
 go_ret
 refine ⟨zeg ?_,rfl⟩
 rw [len8tab_get]
 have e : (x / 4294967296).toNat = x.toNat / 2 ^ 32:=by show _ = x.toNat / 4294967296; omega
 rw [e,zdh x.toNat 32 (by show 4294967296 ≤ x.toNat; omega)]
 exact zdy 32 _ (by rw [← e]; omega) (by omega)
theorem len64_40 (x : Int) (hl : 1099511627776 ≤ x) (hu : x ≤ 281474976710655) (w : World) : Calls Tryz.prog 140 #[vI vU x] w fun e w' => e = .returned (.int .i64 (bitLen x.toNat)) ∧ w' = w:=by
 have h1 : (4294967296 : Int) ≤ x:=by omega
 have h2 : x / 4294967296 ≤ 65535:=by omega
 have h3 : (256 : Int) ≤ x / 4294967296:=by omega
 have h4 : x / 4294967296 / 256 ≤ 255:=by omega
 have h0 : 0 ≤ x:=by omega
 clear hu hl
 go_enter Tryz.func140,Tryz.ntmps140
 go_wp2
 go_ret
 refine ⟨zeg ?_,rfl⟩
 rw [len8tab_get]
 have e : (x / 4294967296 / 256).toNat = x.toNat / 2 ^ 40:=by show _ = x.toNat / 1099511627776; omega
 rw [e,zdh x.toNat 40 (by show 1099511627776 ≤ x.toNat; omega)]
 exact zdy 40 _ (by rw [← e]; omega) (by omega)
theorem len64_48 (x : Int) (hl : 281474976710656 ≤ x) (hu : x ≤ 72057594037927935) (w : World) : Calls Tryz.prog 140 #[vI vU x] w fun e w' => e = .returned (.int .i64 (bitLen x.toNat)) ∧ w' = w:=by
 have h1 : (4294967296 : Int) ≤ x:=by omega
 have h2 : (65536 : Int) ≤ x / 4294967296:=by omega
 have h3 : x / 4294967296 / 65536 ≤ 255:=by omega
 have h0 : 0 ≤ x:=by omega
 clear hu hl
 go_enter Tryz.func140,Tryz.ntmps140
 go_wp2
 go_ret
 refine ⟨zeg ?_,rfl⟩
 rw [len8tab_get]
 have e : (x / 4294967296 / 65536).toNat = x.toNat / 2 ^ 48:=by show _ = x.toNat / 281474976710656; omega
 rw [e,zdh x.toNat 48 (by show 281474976710656 ≤ x.toNat; omega)]
 exact zdy 48 _ (by rw [← e]; omega) (by omega)
theorem len64_56 (x : Int) (hl : 72057594037927936 ≤ x) (hu : x ≤ 18446744073709551615) (w : World) : Calls Tryz.prog 140 #[vI vU x] w fun e w' => e = .returned (.int .i64 (bitLen x.toNat)) ∧ w' = w:=by
 have h1 : (4294967296 : Int) ≤ x:=by omega
 have h2 : (65536 : Int) ≤ x / 4294967296:=by omega
 have h3 : (256 : Int) ≤ x / 4294967296 / 65536:=by omega
 have h4 : x / 4294967296 / 65536 / 256 ≤ 255:=by omega
 have h0 : 0 ≤ x:=by omega
 clear hu hl
 go_enter Tryz.func140,Tryz.ntmps140
 go_wp2
 go_ret
 refine ⟨zeg ?_,rfl⟩
 rw [len8tab_get]
 have e : (x / 4294967296 / 65536 / 256).toNat = x.toNat / 2 ^ 56:=by show _ = x.toNat / 72057594037927936; omega
 rw [e,zdh x.toNat 56 (by show 72057594037927936 ≤ x.toNat; omega)]
 exact zdy 56 _ (by rw [← e]; omega) (by omega)
theorem len64_calls (x : Int) (h0 : 0 ≤ x) (h1 : x ≤ 18446744073709551615) (w : World) : Calls Tryz.prog 140 #[vI vU x] w fun e w' => e = .returned (.int .i64 (bitLen x.toNat)) ∧ w' = w:=by
 by_cases a : x ≤ 4294967295
 ·
  by_cases b : x ≤ 65535
  ·
   by_cases c : x ≤ 255
   ·
    exact len64_0 x (by omega) (by omega) w
   ·
    exact len64_8 x (by omega) (by omega) w
  ·
   by_cases c : x ≤ 16777215
   ·
    exact len64_16 x (by omega) (by omega) w
   ·
    exact len64_24 x (by omega) (by omega) w
 ·
  by_cases b : x ≤ 281474976710655
  ·
   by_cases c : x ≤ 1099511627775
   ·
    exact len64_32 x (by omega) (by omega) w
   ·
    exact len64_40 x (by omega) (by omega) w
  ·
   by_cases c : x ≤ 72057594037927935
   ·
    exact len64_48 x (by omega) (by omega) w
   ·
    exact len64_56 x (by omega) (by omega) w
theorem high_zero {X m : Nat} (hX : X < top) (h : ∀ j,m ≤ j → j < 4 → dg w64 X j = 0) : X < w64 ^ m:=by
 have hp : 0 < w64 ^ m:=Nat.pow_pos zaq
 have e : X % w64 ^ 4 = X % w64 ^ m % w64 ^ 4:=zmf zaq 4 fun i hi => by
  by_cases hlt : i < m
  ·
   rw [zcr X m i hlt]
  ·
   rw [h i (by omega) hi]
   unfold dg
   rw [Nat.div_eq_of_lt (Nat.lt_of_lt_of_le (Nat.mod_lt _ hp) (Nat.pow_le_pow_right zaq (by omega)))]
   rfl
 rw [Nat.mod_eq_of_lt (show X < w64 ^ 4 from hX)] at e
 have h1:=Nat.mod_le (X % w64 ^ m) (w64 ^ 4)
 have h2:=Nat.mod_lt X hp
 omega
theorem len_word {X m : Nat} (hX : X < top) (h : ∀ j,m + 1 ≤ j → j < 4 → dg w64 X j = 0) (hne : dg w64 X m ≠ 0) : bitLen X = 64 * m + bitLen (dg w64 X m):=by
 have hlt:=high_zero hX h
 have hd : X / w64 ^ m = dg w64 X m:=by
  rw [dg,Nat.mod_eq_of_lt]
  rw [Nat.div_lt_iff_lt_mul (Nat.pow_pos zaq),Nat.mul_comm,← Nat.pow_succ]
  exact hlt
 have e : 2 ^ (64 * m) = w64 ^ m:=by rw [w64_two,← Nat.pow_mul]
 rw [← hd] at hne ⊢
 have h1:=bitLen_shift X (64 * m) (by rw [e]; exact hne)
 rw [e] at h1
 exact h1
theorem wd_toNat (X i : Nat) : (wd X i).toNat = dg w64 X i:=by unfold wd; omega
theorem bitLen_le64 (X i : Nat) : bitLen (dg w64 X i) ≤ 64:=by
 unfold bitLen
 split
 ·
  omega
 ·
  rename_i h
  have:=(Nat.log2_lt h).2 (show dg w64 X i < 2 ^ 64 from dg_lt zaq X i)
  omega
theorem len_calls (X : Nat) (hX : X < top) (w : World) :
  Calls Tryz.prog 103 #[.agg #[vI vU (wd X 0),vI vU (wd X 1),vI vU (wd X 2),vI vU (wd X 3)]] w fun e w' => e = .returned (.int .i64 (bitLen X)) ∧ Below w.heap.size w w':=by
 go_enter Tryz.func103,Tryz.ntmps103
 go_wp2
 go_loopw [3] (fun i wr => ∃ k : Nat,k ≤ 4 ∧ i = .int .i64 ((k : Int) - 1) ∧ (∀ j,k ≤ j → j < 4 → dg w64 X j = 0) ∧ wr.rowIs w.heap.size 29 4 (fun j => .int .u64 (wd X j)) ∧ Below w.heap.size w wr)
  (fun i _ => (intOf i + 1).toNat)
 case atStart => exact ⟨4,by omega,rfl,by intro j h1 h2; omega,zaj (n:=4) (by simp) rfl (arr4 fun j => .int .u64 (wd X j)),(Below.refl _ _).alloc (by simp) _⟩
 case round =>
  obtain ⟨k,hk,hi,hall,hR,hbel⟩:=hrel
  have HALL:=veil hall
  clear hall
  cases k with
  | zero =>
   subst hi
   have h1:=high_zero hX HALL.out
   have hX0 : X = 0:=by simpa using h1
   have HX:=veil hX0
   clear hX0 h1
   go_wp2
   go_ret
   rw [show bitLen X = 0 by rw [HX.out]; rfl]
   exact ⟨rfl,hbel⟩
  | succ m =>
   obtain rfl : _ = Value.int .i64 (m : Int):=hi.trans (by congr 1; omega)
   have hm : m < 4:=by omega
   clear hi
   have c1:=hR.cell hm
   have l1:=wd_lo X m
   have u1:=wd_le X m
   by_cases h : dg w64 X m = 0
   ·
    have hz : (wd X m != 0) = false:=by unfold wd; rw [h]; rfl
    go_wp2
    go_roundw
    case rel => exact ⟨m,by omega,rfl,fun j h1 h2 => by
     by_cases e : j = m
     ·
      rw [e]; exact h
     ·
      exact HALL.out j (by omega) h2,hR,hbel⟩
    case measure => simp [intOf]
   ·
    have hz : (wd X m != 0) = true:=by rw [bne_iff_ne]; unfold wd; omega
    have hw:=len_word hX HALL.out h
    have hb:=bitLen_le64 X m
    have ht:=wd_toNat X m
    have HW:=veil hw
    have HT:=veil ht
    clear hw h ht
    go_wp2_with (go_at_call 140; refine (len64_calls _ l1 u1 _).mono ?_; rintro e w' ⟨rfl,rfl⟩)
    rw [HT.out]
    go_wp2
    go_ret
    rw [HW.out]
    exact ⟨zeg (by rw [IntWalk.wrap64_in _ (by omega)]; omega),hbel⟩
theorem top_256 : top = 2 ^ 256:=by unfold top; rw [w64_two,← Nat.pow_mul]
theorem rbit_in (X n : Nat) (hn : n < 256) (w : World) :
  Calls Tryz.prog 93 #[.agg #[vI vU (wd X 0),vI vU (wd X 1),vI vU (wd X 2),vI vU (wd X 3)],.int .i64 (n : Int)] w fun e w' => e = .returned (.bool (bit X n)) ∧ Below w.heap.size w w':=by
 have hq : n / 16 < 16:=by omega
 have h0 : ¬ (n : Int) < 0:=by omega
 have h1 : ¬ (255 : Int) < (n : Int):=by omega
 have hB0 : Below w.heap.size w (w.alloc (.cells #[vI vU (wd X 0),vI vU (wd X 1),vI vU (wd X 2),vI vU (wd X 3)] 29)):=(Below.refl _ _).alloc (Nat.le_refl _) _
 go_enter Tryz.func93,Tryz.ntmps93
 go_wp2_with fail
 refine (zfk X _).mono ?_
 rintro e w1 ⟨g1,cap1,rfl,hg1,hp1,hb1⟩
 have hB1:=hB0.trans (hb1.mono (by simp))
 have c1:=hp1.cell hq
 simp only [ptv] at c1
 clear hB0 hb1 hg1 hp1
 go_wp2
 go_loop [5,6] (fun p i => ∃ k : Nat,k ≤ n % 16 ∧ i = .int .i64 k ∧ p = .int .i64 (ph X (n / 16) k)) (fun _ i => n % 16 - (intOf i).toNat)
 case atStart => exact ⟨0,Nat.zero_le _,rfl,by rw [ph_zero]⟩
 case round =>
  obtain ⟨k,hk,rfl,rfl⟩:=hrel
  by_cases hlt : k < n % 16
  ·
   have l1:=ph_lo X (n / 16) k
   have u1 : ph X (n / 16) k ≤ 65535:=by have:=ph_lt X (n / 16) k; omega
   go_wp2
   go_round
   case rel => exact ⟨k + 1,by omega,by go_num,by rw [ph_succ]⟩
   case measure => simp [intOf]; omega
  ·
   have hk' : k = n % 16:=by omega
   have HK:=veil hk'
   clear hk'
   go_wp2
   have l1:=ph_lo X (n / 16) k
   go_ret
   rw [← ph_bit,← HK.out]
   exact ⟨rfl,hB1⟩
theorem bitLen_one {i v : Nat} (h1 : 2 ^ i ≤ v) (h2 : v < 2 ^ (i + 1)) : bitLen v = i + 1:=by
 rw [zdh v i h1]
 have : v / 2 ^ i = 1:=by
  have hp:=Nat.two_pow_pos i
  apply Nat.le_antisymm
  ·
   have:=(Nat.div_lt_iff_lt_mul hp (x:=v) (y:=2)).2 (by rw [Nat.pow_succ] at h2; omega)
   omega
  ·
   exact (Nat.le_div_iff_mul_le hp).2 (by omega)
 rw [this]
 rfl
theorem bitLen_succ (X i : Nat) : bitLen (X % 2 ^ (i + 1)) = if bit X i = true then i + 1 else bitLen (X % 2 ^ i):=by
 have h:=zca 2 X i
 have hb : bit X i = (dg 2 X i == 1):=rfl
 have hd:=dg_lt (B:=2) (by omega) X i
 have hm:=Nat.mod_lt X (Nat.two_pow_pos i)
 rw [hb,h]
 by_cases e : dg 2 X i = 1
 ·
  rw [e]
  simp only [BEq.rfl,if_true,Nat.mul_one]
  exact bitLen_one (by omega) (by rw [Nat.pow_succ]; omega)
 ·
  have e0 : dg 2 X i = 0:=by omega
  rw [e0]
  simp
def lenK (X i : Nat) : Int:=(bitLen (X % 2 ^ i) : Nat)
theorem lenK_zero (X : Nat) : lenK X 0 = 0:=by simp [lenK,Nat.mod_one,bitLen]
theorem lenK_yes {X i : Nat} (h : bit X i = true) : lenK X (i + 1) = (i : Int) + 1:=by unfold lenK; rw [bitLen_succ,if_pos h]; omega
theorem lenK_no {X i : Nat} (h : bit X i = false) : lenK X (i + 1) = lenK X i:=by unfold lenK; rw [bitLen_succ,h]; rfl
theorem lenK_top {X : Nat} (hX : X < top) : lenK X 256 = (bitLen X : Nat):=by
 rw [top_256] at hX
 unfold lenK
 rw [Nat.mod_eq_of_lt hX]
theorem rlen_calls (X : Nat) (hX : X < top) (w : World) :
  Calls Tryz.prog 92 #[.agg #[vI vU (wd X 0),vI vU (wd X 1),vI vU (wd X 2),vI vU (wd X 3)]] w fun e w' => e = .returned (.int .i64 (bitLen X)) ∧ Below w.heap.size w w':=by
 go_enter Tryz.func92,Tryz.ntmps92
 go_wp2
 go_loopw [3,4] (fun n i wr => ∃ k : Nat,k ≤ 256 ∧ i = .int .i64 k ∧ n = .int .i64 (lenK X k) ∧ wr.rowIs w.heap.size 29 4 (fun j => .int .u64 (wd X j)) ∧ Below w.heap.size w wr)
  (fun _ i _ => 256 - (intOf i).toNat)
 case atStart => exact ⟨0,by omega,rfl,by rw [lenK_zero],zaj (n:=4) (by simp) rfl (arr4 fun j => .int .u64 (wd X j)),(Below.refl _ _).alloc (by simp) _⟩
 case round =>
  obtain ⟨k,hk,rfl,rfl,hR,hbel⟩:=hrel
  by_cases hlt : k < 256
  ·
   obtain ⟨c0,c1,c2,c3⟩:=zap hR
   have hle : (k : Int) ≤ 255:=by omega
   have HLT:=veil hlt
   clear hlt hk
   go_wp2_with fail
   refine (rbit_in X k HLT.out _).mono ?_
   rintro e w1 ⟨rfl,hb1⟩
   have hR1:=zad hR hb1 hR.lt
   have hB1:=hbel.trans (hb1.mono hbel.size)
   clear hR hbel hb1 c0 c1 c2 c3
   cases hb : bit X k with
   | true =>
    go_wp2
    go_roundw
    case rel => exact ⟨k + 1,HLT.out,by go_num,by rw [lenK_yes hb],hR1,hB1⟩
    case measure => simp [intOf]; omega
   | false =>
    go_wp2
    go_roundw
    case rel => exact ⟨k + 1,HLT.out,by go_num,by rw [lenK_no hb],hR1,hB1⟩
    case measure => simp [intOf]; omega
  ·
   obtain rfl : k = 256:=by omega
   go_wp2
   go_ret
   rw [← lenK_top hX]
   exact ⟨rfl,hbel⟩
theorem bl_le {X : Nat} (hX : X < top) : bitLen X ≤ 256:=by
 unfold bitLen
 split
 ·
  omega
 ·
  rename_i h
  have:=(Nat.log2_lt h).2 (show X < 2 ^ 256 by rw [← top_256]; exact hX)
  omega
theorem bl_div (X : Nat) : X / 2 ^ bitLen X = 0:=Nat.div_eq_of_lt (bitLen_spec X).1
theorem zgj (K m : Nat) (q : Pt.Q) : Pt.grp.mul (K / 2 ^ m) q = if bit K m = true then Pt.grp.op (Pt.grp.op (Pt.grp.mul (K / 2 ^ (m + 1)) q) (Pt.grp.mul (K / 2 ^ (m + 1)) q)) q else Pt.grp.op (Pt.grp.mul (K / 2 ^ (m + 1)) q) (Pt.grp.mul (K / 2 ^ (m + 1)) q):=by
 rw [Pt.mul_top]
 have hb : (bit K m = true) = (K / 2 ^ m % 2 = 1):=by unfold bit; simp
 simp only [hb]
def cQ (X Y : Nat) (f : Bool) : List SV:=cN X ++ (cN Y ++ [.v (.bool f)])
def tmT (n : Nat) : List (Nat × SV):=[(2,.p 0 0),(3,.p 1 0),(4,.p 2 0),(5,.p 3 0),(6,.v (.int .i64 ((n : Int) - 1)))]
def tmM (K : Nat) (q p : Pt.Q) : List Blk:=[⟨29,cN K⟩,⟨44,cQ (Pt.pX q.1) (Pt.pY q.1) (Pt.pFar q.1)⟩,⟨44,cQ 0 0 false⟩,⟨44,cQ (Pt.pX p.1) (Pt.pY p.1) (Pt.pFar p.1)⟩]
section
variable {w0 : World} {Post : Value → World → Prop} {J : World → Prop}
def tmNext (K n : Nat) (q p : Pt.Q) (h : n ≤ 256) (h0 : ¬ n = 0) (hp : Pt.grp.mul (K / 2 ^ (n - 1)) q = p) : OT Tryz.prog w0 Post J :=
 .ins 15 (binK .sub 3 (.tmp 14) (.const (.int .i64 1)) (.int .i64 ((n : Int) - 1)) (.int .i64 1)) (.int .i64 (((n - 1 : Nat) : Int) - 1)) (fun _ _ => zkk (by omega) (by omega) (by omega)) <|
 .nextG (tmT (n - 1)) (tmM K q p) (∃ l,(l ≤ 256 ∧ l < n) ∧ tmT l = tmT (n - 1) ∧ tmM K q (Pt.grp.mul (K / 2 ^ l) q) = tmM K q p) ⟨n - 1,⟨by omega,by omega⟩,rfl,by rw [hp]⟩
end
theorem rtimes_calls (K : Nat) (hKt : K < top) (q : Pt.Q) (w : World) :
  Calls Tryz.prog 46 #[.agg #[vI vU (wd K 0),vI vU (wd K 1),vI vU (wd K 2),vI vU (wd K 3)],.agg #[vI vU (wd (Pt.pX q.1) 0),vI vU (wd (Pt.pX q.1) 1),vI vU (wd (Pt.pX q.1) 2),vI vU (wd (Pt.pX q.1) 3),vI vU (wd (Pt.pY q.1) 0),vI vU (wd (Pt.pY q.1) 1),vI vU (wd (Pt.pY q.1) 2),vI vU (wd (Pt.pY q.1) 3),.bool (Pt.pFar q.1)]] w fun e w' => e = .returned (.agg #[vI vU (wd (Pt.pX (Pt.grp.mul K q).1) 0),vI vU (wd (Pt.pX (Pt.grp.mul K q).1) 1),vI vU (wd (Pt.pX (Pt.grp.mul K q).1) 2),vI vU (wd (Pt.pX (Pt.grp.mul K q).1) 3),vI vU (wd (Pt.pY (Pt.grp.mul K q).1) 0),vI vU (wd (Pt.pY (Pt.grp.mul K q).1) 1),vI vU (wd (Pt.pY (Pt.grp.mul K q).1) 2),vI vU (wd (Pt.pY (Pt.grp.mul K q).1) 3),.bool (Pt.pFar (Pt.grp.mul K q).1)]) ∧ Below w.heap.size w w':=by
 refine way1 Tryz.func46 [.agg #[vI vU (wd K 0),vI vU (wd K 1),vI vU (wd K 2),vI vU (wd K 3)],.agg #[vI vU (wd (Pt.pX q.1) 0),vI vU (wd (Pt.pX q.1) 1),vI vU (wd (Pt.pX q.1) 2),vI vU (wd (Pt.pX q.1) 3),vI vU (wd (Pt.pY q.1) 0),vI vU (wd (Pt.pY q.1) 1),vI vU (wd (Pt.pY q.1) 2),vI vU (wd (Pt.pY q.1) 3),.bool (Pt.pFar q.1)]] (.call _ _ _ (fun W _ => rlen_calls K hKt W) <|
  .ins 11 (binK .sub 3 (.tmp 10) (.const (.int .i64 1)) (.int .i64 (bitLen K : Int)) (.int .i64 1)) (.int .i64 ((bitLen K : Int) - 1)) (fun _ _ => by have:=bl_le hKt; exact zkk rfl (by omega) (by omega)) <|
  .loopG tmT (fun n => tmM K q (Pt.grp.mul (K / 2 ^ n) q)) (fun n => n) (fun n => n ≤ 256) (bitLen K) (bl_le hKt) (tmT (bitLen K)) (tmM K q ⟨none,trivial⟩) ⟨rfl,by rw [bl_div]; rfl⟩ fun n h =>
  .cases (n = 0)
   (fun h0 => .ins 13 (binK .geq 3 (.tmp 12) (.const (.int .i64 0)) (.int .i64 ((n : Int) - 1)) (.int .i64 0)) (.bool false) (fun W _ => zgw (decide_eq_false (by omega)) W) <|
    .ret (.agg #[vI vU (wd (Pt.pX (Pt.grp.mul (K / 2 ^ n) q).1) 0),vI vU (wd (Pt.pX (Pt.grp.mul (K / 2 ^ n) q).1) 1),vI vU (wd (Pt.pX (Pt.grp.mul (K / 2 ^ n) q).1) 2),vI vU (wd (Pt.pX (Pt.grp.mul (K / 2 ^ n) q).1) 3),vI vU (wd (Pt.pY (Pt.grp.mul (K / 2 ^ n) q).1) 0),vI vU (wd (Pt.pY (Pt.grp.mul (K / 2 ^ n) q).1) 1),vI vU (wd (Pt.pY (Pt.grp.mul (K / 2 ^ n) q).1) 2),vI vU (wd (Pt.pY (Pt.grp.mul (K / 2 ^ n) q).1) 3),.bool (Pt.pFar (Pt.grp.mul (K / 2 ^ n) q).1)]) fun _ hW => ⟨by rw [h0,Nat.pow_zero,Nat.div_one],hW⟩)
   (fun h0 => .ins 13 (binK .geq 3 (.tmp 12) (.const (.int .i64 0)) (.int .i64 ((n : Int) - 1)) (.int .i64 0)) (.bool true) (fun W _ => zgw (decide_eq_true (by omega)) W) <|
    .call _ _ _ (fun W _ => rplus_calls (Pt.grp.mul (K / 2 ^ n) q) (Pt.grp.mul (K / 2 ^ n) q) W) <|
    .cases (bit K (n - 1) = true)
     (fun hb => .call _ #[.agg #[vI vU (wd K 0),vI vU (wd K 1),vI vU (wd K 2),vI vU (wd K 3)],.int .i64 ((n : Int) - 1)] (.bool true) (fun W _ => by have k:=rbit_in K (n - 1) (by omega) W; rw [hb,show ((n - 1 : Nat) : Int) = (n : Int) - 1 by omega] at k; exact k) <|
      .call _ _ _ (fun W _ => rplus_calls (Pt.grp.op (Pt.grp.mul (K / 2 ^ n) q) (Pt.grp.mul (K / 2 ^ n) q)) q W) <| tmNext K n q _ h h0 (by rw [zgj,if_pos hb,show n - 1 + 1 = n by omega]))
     (fun hb => .call _ #[.agg #[vI vU (wd K 0),vI vU (wd K 1),vI vU (wd K 2),vI vU (wd K 3)],.int .i64 ((n : Int) - 1)] (.bool false) (fun W _ => by have k:=rbit_in K (n - 1) (by omega) W; rw [Bool.eq_false_iff.2 hb,show ((n - 1 : Nat) : Int) = (n : Int) - 1 by omega] at k; exact k) <|
      tmNext K n q _ h h0 (by rw [zgj,if_neg hb,show n - 1 + 1 = n by omega])))) (by kernel_rfl)
theorem rbase_calls (w : World) : Calls Tryz.prog 49 #[] w fun e w' => e = .returned (.agg #[vI vU (wd (Pt.gx) 0),vI vU (wd (Pt.gx) 1),vI vU (wd (Pt.gx) 2),vI vU (wd (Pt.gx) 3),vI vU (wd (Pt.gy) 0),vI vU (wd (Pt.gy) 1),vI vU (wd (Pt.gy) 2),vI vU (wd (Pt.gy) 3),.bool (false)]) ∧ Below w.heap.size w w' :=
 way1 Tryz.func49 [] (.ret _ fun _ h => ⟨rfl,h⟩) (by kernel_rfl)
theorem gin_small (X M : Nat) (hX : X < M) (hM : M < top) (w : World) :
  Calls Tryz.prog 51 #[.agg #[vI vU (wd X 0),vI vU (wd X 1),vI vU (wd X 2),vI vU (wd X 3)],.agg #[vI vU (wd M 0),vI vU (wd M 1),vI vU (wd M 2),vI vU (wd M 3)]] w fun e w' => e = .returned (.agg #[vI vU (wd X 0),vI vU (wd X 1),vI vU (wd X 2),vI vU (wd X 3)]) ∧ Below w.heap.size w w':=by
 have k:=veil fun W => zfn X M true (decide_eq_true hX) (Nat.lt_trans hX hM) hM W
 clear hX hM
 exact way1 Tryz.func51 [.agg #[vI vU (wd X 0),vI vU (wd X 1),vI vU (wd X 2),vI vU (wd X 3)],.agg #[vI vU (wd M 0),vI vU (wd M 1),vI vU (wd M 2),vI vU (wd M 3)]] (.call _ _ _ (fun W _ => k.out W) <| .ret _ fun _ h => ⟨rfl,h⟩) (by kernel_rfl)
def top2 : Nat:=w64 ^ 8
theorem acc_startw (X Y M n : Nat) (h : Y < w64 ^ n) : acc X Y M (64 * n) = 0:=by
 have e : (2 : Nat) ^ 64 = w64:=rfl
 unfold acc; rw [Nat.pow_mul,e,Nat.div_eq_of_lt h]; simp
def cW (n : Nat) : List SV:=cN n ++ [.v (.int .u64 (wd n 4)),.v (.int .u64 (wd n 5)),.v (.int .u64 (wd n 6)),.v (.int .u64 (wd n 7))]
theorem gcut_calls (Z M : Nat) (hZ : Z < top2) (hM1 : 1 < M) (hM : M < top) (w : World) :
  Calls Tryz.prog 96 #[.agg #[vI vU (wd Z 0),vI vU (wd Z 1),vI vU (wd Z 2),vI vU (wd Z 3),vI vU (wd Z 4),vI vU (wd Z 5),vI vU (wd Z 6),vI vU (wd Z 7)],.agg #[vI vU (wd M 0),vI vU (wd M 1),vI vU (wd M 2),vI vU (wd M 3)]] w fun e w' => e = .returned (.agg #[vI vU (wd (Z % M) 0),vI vU (wd (Z % M) 1),vI vU (wd (Z % M) 2),vI vU (wd (Z % M) 3)]) ∧ Below w.heap.size w w' :=
 let T0 (k : Int) : List (Nat × SV):=[(2,.p 0 0),(3,.p 1 0),(4,.p 2 0),(5,.p 3 0),(6,.p 4 0),(7,.v (.int .i64 k))]
 let M0 (V : Nat) : List Blk:=[⟨142,cW Z⟩,⟨29,cN M⟩,⟨29,cZ⟩,⟨29,cN V⟩,⟨29,cN 1⟩]
 way1 Tryz.func96 [.agg #[vI vU (wd Z 0),vI vU (wd Z 1),vI vU (wd Z 2),vI vU (wd Z 3),vI vU (wd Z 4),vI vU (wd Z 5),vI vU (wd Z 6),vI vU (wd Z 7)],.agg #[vI vU (wd M 0),vI vU (wd M 1),vI vU (wd M 2),vI vU (wd M 3)]] (.call _ _ _ (fun W _ => gin_small 1 M hM1 hM W) <| .unroll 9 <| gword 2 8 9 (T0 7) M0 1 Z M 7 hM1 hM 0 (acc_startw 1 Z M 8 hZ).symm fun V h => gword 2 8 9 (T0 6) M0 1 Z M 6 hM1 hM V h fun V h => gword 2 8 9 (T0 5) M0 1 Z M 5 hM1 hM V h fun V h => gword 2 8 9 (T0 4) M0 1 Z M 4 hM1 hM V h fun V h => gword 2 8 9 (T0 3) M0 1 Z M 3 hM1 hM V h fun V h => gword 2 8 9 (T0 2) M0 1 Z M 2 hM1 hM V h fun V h => gword 2 8 9 (T0 1) M0 1 Z M 1 hM1 hM V h fun V h => gword 2 8 9 (T0 0) M0 1 Z M 0 hM1 hM V h fun V h =>
  .ret (.agg #[vI vU (wd V 0),vI vU (wd V 1),vI vU (wd V 2),vI vU (wd V 3)]) fun _ hW => ⟨by rw [h,Nat.mul_zero,acc_end,Nat.one_mul],hW⟩) (by kernel_rfl)
theorem top_le_top2 : top ≤ top2:=by
 show w64 ^ 4 ≤ w64 ^ 8
 exact Nat.pow_le_pow_right zaq (by omega)
theorem gcut_num (X M P : Nat) (hP : X % M = P) (hX : X < top) (hM1 : 1 < M) (hM : M < top) (w : World) :
  Calls Tryz.prog 96 #[.agg #[vI vU (wd X 0),vI vU (wd X 1),vI vU (wd X 2),vI vU (wd X 3),vI vU 0,vI vU 0,vI vU 0,vI vU 0],.agg #[vI vU (wd M 0),vI vU (wd M 1),vI vU (wd M 2),vI vU (wd M 3)]] w fun e w' => e = .returned (.agg #[vI vU (wd P 0),vI vU (wd P 1),vI vU (wd P 2),vI vU (wd P 3)]) ∧ Below w.heap.size w w':=by
 subst hP
 obtain ⟨e4,e5,e6,e7⟩:=num_wide X hX
 have h:=gcut_calls X M (Nat.lt_of_lt_of_le hX top_le_top2) hM1 hM w
 rw [e4,e5,e6,e7] at h
 exact h
theorem gin_big (X M P : Nat) (hP : X % M = P) (hX : X < top) (hXM : decide (X < M) = false) (hM1 : 1 < M) (hM : M < top) (w : World) :
  Calls Tryz.prog 51 #[.agg #[vI vU (wd X 0),vI vU (wd X 1),vI vU (wd X 2),vI vU (wd X 3)],.agg #[vI vU (wd M 0),vI vU (wd M 1),vI vU (wd M 2),vI vU (wd M 3)]] w fun e w' => e = .returned (.agg #[vI vU (wd P 0),vI vU (wd P 1),vI vU (wd P 2),vI vU (wd P 3)]) ∧ Below w.heap.size w w':=by
 have k:=veil (And.intro (fun W => zfn X M false hXM hX hM W) (fun W => gcut_num X M P hP hX hM1 hM W))
 clear hP hX hXM hM1 hM
 exact way1 Tryz.func51 [.agg #[vI vU (wd X 0),vI vU (wd X 1),vI vU (wd X 2),vI vU (wd X 3)],.agg #[vI vU (wd M 0),vI vU (wd M 1),vI vU (wd M 2),vI vU (wd M 3)]] (.call _ _ _ (fun W _ => k.out.1 W) <| .call _ _ _ (fun W _ => k.out.2 W) <| .ret _ fun _ h => ⟨rfl,h⟩) (by kernel_rfl)
theorem gin_calls (X M : Nat) (hX : X < top) (hM1 : 1 < M) (hM : M < top) (w : World) :
  Calls Tryz.prog 51 #[.agg #[vI vU (wd X 0),vI vU (wd X 1),vI vU (wd X 2),vI vU (wd X 3)],.agg #[vI vU (wd M 0),vI vU (wd M 1),vI vU (wd M 2),vI vU (wd M 3)]] w fun e w' => e = .returned (.agg #[vI vU (wd (X % M) 0),vI vU (wd (X % M) 1),vI vU (wd (X % M) 2),vI vU (wd (X % M) 3)]) ∧ Below w.heap.size w w':=by
 by_cases h : X < M
 ·
  rw [Nat.mod_eq_of_lt h]; exact gin_small X M h hM w
 ·
  exact gin_big X M _ rfl hX (by simpa using h) hM1 hM w
end Go.Proofs.YtihophdbkjhopaaGreatDoor
namespace Go.Proofs.YtihophdbkjhopaaGreatDoor.Pt
theorem nn_big : 3 < nn:=by decide +kernel
theorem nn_root : ∃ g : Fin nn,Root g:=by
 obtain ⟨ps,hp,h⟩:=(tab_pr tab [2] two_only tab_ok (0xffffffff00000000ffffffffffffffffbce6faada7179e84f3b9cac2fc632551,7,[2,2,2,2,3,71,131,373,3407,17449,38189,187019741,622491383,1002328039319,2624747550333869278416773953]) (by decide +kernel)).2
 exact ⟨_,(row_root (n:=nn) hp h).2⟩
abbrev Ne:=Fin nn
theorem nn_one : 1 < nn:=by have:=nn_big; omega
section
variable {n : Nat} [NeZero n]
theorem uniq_inv {x y z : Fin n} (h1 : x * y = 1) (h2 : x * z = 1) : y = z:=by
 have e : y = y * (x * z):=by rw [h2,zhq]
 rw [e,← zez,zgb y x,h1,zfz]
theorem F_vlt {a : Nat} (h : a < n) : (F a : Fin n).val = a:=Nat.mod_eq_of_lt h
theorem F_mul_one (hn : 1 < n) {a t : Nat} (h : a * t % n = 1) : (F a : Fin n) * F t = 1:=by
 rw [← F_mul]
 apply Fin.ext
 rw [val_one hn]
 exact h
def gi (x : Fin n) : Fin n:=pf x (n - 2)
theorem gi_mul (hr : ∃ g : Fin n,Root g) (hn : 1 < n) {x : Fin n} (h : x ≠ 0) : x * gi x = 1:=by
 obtain ⟨g,hg⟩:=hr
 exact zis hg hn h
theorem gi_of (hr : ∃ g : Fin n,Root g) (hn : 1 < n) {x t : Fin n} (h : x * t = 1) : t = gi x:=by
 have hx : x ≠ 0:=by
  rintro rfl
  have e : (0 : Fin n) * t = 0:=by grobner
  rw [e] at h
  have h2:=congrArg Fin.val h
  rw [Fin.val_zero,val_one hn] at h2
  exact absurd h2 (by decide)
 exact uniq_inv h (gi_mul hr hn hx)
end
section
variable (n : Nat) [NeZero n]
def iG (a : Nat) : Nat:=(gi (F a : Fin n)).val
theorem iG_lt (a : Nat) : iG n a < n:=(gi (F a : Fin n)).isLt
theorem iG_of (hr : ∃ g : Fin n,Root g) (hn : 1 < n) {a t : Nat} (ht : t < n) (h : a * t % n = 1) : t = iG n a:=by
 have e2:=congrArg Fin.val (gi_of hr hn (F_mul_one hn h))
 rw [F_vlt ht] at e2
 exact e2
omit [NeZero n] in
theorem gcd_of (hp : ∀ d,d ∣ n → d = 1 ∨ d = n) {a : Nat} (h0 : a ≠ 0) (h : a < n) : Nat.gcd a n = 1:=by
 rcases hp _ (Nat.gcd_dvd_right a n) with h1 | h1
 ·
  exact h1
 ·
  exfalso
  have h2:=Nat.gcd_dvd_left a n
  rw [h1] at h2
  have h3:=Nat.le_of_dvd (Nat.pos_of_ne_zero h0) h2
  omega
end
theorem gcd_nn {a : Nat} (h0 : a ≠ 0) (h : a < nn) : Nat.gcd a nn = 1:=gcd_of nn nn_pr.2 h0 h
/-! ### multiples -/
/-! ### signatures -/
def rOf (k : Nat) : Nat:=pX (grp.mul k base).1 % nn
def sOf (d e k : Nat) : Nat:=iG nn k * ((e % nn + rOf k * d % nn) % nn) % nn
def inR (x : Nat) : Bool:=decide (x ≠ 0) && decide (x < nn)
theorem inR_iff (x : Nat) : inR x = true ↔ x ≠ 0 ∧ x < nn:=by simp [inR]
def sumOf (q : Q) (e r s : Nat) : Q:=grp.op (grp.mul (e % nn * iG nn s % nn) base) (grp.mul (r * iG nn s % nn) q)
def verB (q : Q) (e r s : Nat) : Bool:=!pFar q.1 && inR r && inR s && !pFar (sumOf q e r s).1 && decide (pX (sumOf q e r s).1 % nn = r)
end Go.Proofs.YtihophdbkjhopaaGreatDoor.Pt
namespace Go.Proofs.YtihophdbkjhopaaGreatDoor
open Go.RowKit
open Go.Value renaming int → vI
open Go.IntKind renaming u64 → vU
open Go.Act renaming put → aP
open List renaming setIfInBounds_toArray → lA, set_cons_zero → lZ, set_cons_succ → lS
/-! ### points -/
def pv (q : Pt.Q) : Value:=qv (Pt.pX q.1) (Pt.pY q.1) (Pt.pFar q.1)
theorem base_x : Pt.pX Pt.base.1 = Pt.gx ∧ Pt.pY Pt.base.1 = Pt.gy ∧ Pt.pFar Pt.base.1 = false:=by decide +kernel
theorem rbase_is (w : World) : Calls Tryz.prog 49 #[] w fun e w' => e = .returned (qv Pt.gx Pt.gy false) ∧ Ext w w':=rbase_calls w
theorem rmulq_is {K : Nat} (hK : K < top) {p q : Pt.Q} (hq : q = Pt.grp.mul K p) (w : World) : Calls Tryz.prog 46 #[nv K,qv (Pt.pX p.1) (Pt.pY p.1) (Pt.pFar p.1)] w fun e w' => e = .returned (qv (Pt.pX q.1) (Pt.pY q.1) (Pt.pFar q.1)) ∧ Ext w w':=by
 subst hq; exact rtimes_calls K hK p w
theorem rmulb_is {K : Nat} (hK : K < top) {q : Pt.Q} (hq : q = Pt.grp.mul K Pt.base) (w : World) : Calls Tryz.prog 46 #[nv K,qv Pt.gx Pt.gy false] w fun e w' => e = .returned (qv (Pt.pX q.1) (Pt.pY q.1) (Pt.pFar q.1)) ∧ Ext w w':=by
 have h:=rmulq_is hK hq w
 rwa [base_x.1,base_x.2.1,base_x.2.2] at h
theorem zfi {X : Nat} {r : Bool} (h : mayB X = r) (hX : X < top) (w : World) : Calls Tryz.prog 13 #[nv X] w fun e w' => e = .returned (.bool r) ∧ Ext w w':=by
 subst h; exact may_calls X hX w
/-! ### numbers modulo n -/
theorem nn_1 : 1 < Pt.nn:=Pt.nn_one
theorem nn_pos : 0 < Pt.nn:=Nat.lt_trans Nat.zero_lt_one nn_1
theorem mod_nn {M X : Nat} (h : M = X % Pt.nn) : M < Pt.nn:=by rw [h]; exact Nat.mod_lt _ nn_pos
theorem zbv {M X : Nat} (h : M = X % Pt.nn) : M < top:=Nat.lt_trans (mod_nn h) zbn
theorem mul_top {M X Y : Nat} (h : M = X * Y % Pt.nn) : M < top:=zbv h
theorem inv_nn {t S : Nat} (h : t = Pt.iG Pt.nn S) : t < Pt.nn:=by rw [h]; exact Pt.iG_lt Pt.nn S
theorem zkz {t S : Nat} (h : t = Pt.iG Pt.nn S) : t < top:=Nat.lt_trans (inv_nn h) zbn
theorem zfr {X : Nat} (h : mayB X = true) : X < Pt.nn:=((Pt.inR_iff X).1 h).2
theorem may_ne {X : Nat} (h : mayB X = true) : X ≠ 0:=((Pt.inR_iff X).1 h).1
theorem rinn_is {X M : Nat} (hM : M = X % Pt.nn) (hX : X < top) (w : World) : Calls Tryz.prog 51 #[nv X,nv Pt.nn] w fun e w' => e = .returned (nv M) ∧ Ext w w':=by
 subst hM; exact gin_calls X Pt.nn hX nn_1 zbn w
theorem rmuln_is {X Y Z : Nat} (hZ : Z = X * Y % Pt.nn) (hX : X < Pt.nn) (hY : Y < top) (w : World) : Calls Tryz.prog 94 #[nv X,nv Y,nv Pt.nn] w fun e w' => e = .returned (nv Z) ∧ Ext w w':=by
 subst hZ; exact gmul_calls X Y Pt.nn hX hY zbn w
theorem raddn_is {X Y Z : Nat} (hZ : Z = (X + Y) % Pt.nn) (hX : X < Pt.nn) (hY : Y < Pt.nn) (w : World) : Calls Tryz.prog 68 #[nv X,nv Y,nv Pt.nn] w fun e w' => e = .returned (nv Z) ∧ Ext w w':=by
 subst hZ; exact zgx X Y Pt.nn hX hY zbn w
theorem rinvn_is {X t : Nat} (h0 : X ≠ 0) (hX : X < Pt.nn) (ht : t = Pt.iG Pt.nn X) (w : World) : Calls Tryz.prog 45 #[nv X,nv Pt.nn] w fun e w' => e = .returned (.tuple #[nv t,.bool true]) ∧ Ext w w':=by
 refine (ginv_calls X Pt.nn hX nn_1 (by decide +kernel) zbn w).mono ?_
 rintro e w' ⟨y,hy,hi,rfl,hb⟩
 have hg:=Pt.gcd_nn h0 hX
 have e1 : y = t:=by rw [ht]; exact Pt.iG_of Pt.nn Pt.nn_root Pt.nn_one hy (hi hg)
 rw [hg,e1]
 exact ⟨rfl,hb⟩
theorem rofd_is {y : Nat → Nat} {X : Nat} (hy : ∀ j,y j < 256) (hX : X = num32 y) {g : Nat} (w : World) (hb : w.heap[g]? = some (.cells (dgc y) 23 (0,0))) : Calls Tryz.prog 75 #[.slice (some ⟨g,0,none⟩) 32 32] w fun e w' => e = .returned (nv X) ∧ Ext w w':=by
 subst hX
 exact zkh g 0 32 32 y hy (by decide) w (Array.getElem?_eq_some_iff.1 hb).1 (fun j hj => by rw [Nat.zero_add,cell_of_row w g j _ _ _ hb]; exact zbt _ hj)
theorem vmul_calls {X Y Z : Nat} (hZ : Z = X * Y % Pt.nn) (hX : X < Pt.nn) (hY : Y < top) (w : World) :
  Calls Tryz.prog 47 #[nv X,nv Y] w fun e w' => e = .returned (nv Z) ∧ Ext w w':=by
 have kZ:=veil hZ
 have kX:=veil hX
 have kY:=veil hY
 clear hY hX hZ
 exact way1 Tryz.func47 [nv X,nv Y] (.call _ _ _ (fun W _ => nn_is W) <|
  .call _ _ _ (fun W _ => rmuln_is kZ.out kX.out kY.out W) <|
  .ret _ fun _ h => ⟨rfl,h⟩) (by kernel_rfl)
theorem vnum_calls (y : Nat → Nat) (hy : ∀ j,y j < 256) {X M : Nat} (hX : X = num32 y) (hM : M = X % Pt.nn) (w : World) :
  Calls Tryz.prog 48 #[dgv y] w fun e w' => e = .returned (nv M) ∧ Ext w w':=by
 have ky:=veil hy
 have kX:=veil hX
 have kM:=veil hM
 clear hM hX hy
 unfold nv nc dgv dgc
 go_enter Tryz.func48,Tryz.ntmps48
 go_upto_region 1 with (fail)
 refine wp_via2 fun w1 hx b0 b1 => ?_
 have b0 : w1.heap[w.heap.size]? = some (.cells (dgc y) 23 (0,0)):=b0
 refine' zbd (m:=4) (A:=_) (by kernel_rfl) ?h1 ?h2
 case h1 =>
  refine zaa (.slice (some ⟨w.heap.size,0,none⟩) 32 32) rfl (made_slice rfl rfl (sliceD _ ·)) ?_
  refine zaa (nv X) rfl (zam (args:=[.slice (some ⟨w.heap.size,0,none⟩) 32 32]) rfl rfl (fun W => zab Tryz.func75 rfl rfl _ W) (fun W hW => rofd_is ky.out kX.out W (hW.block b0))) ?_;simp only [aP,lA,lZ,lS]
  refine zaa (nv Pt.nn) rfl (zam (args:=[]) rfl rfl (fun W => zab Tryz.func34 rfl rfl _ W) (fun W hW => nn_is W)) ?_
  refine zaa (nv M) rfl (zam (args:=[nv X,nv Pt.nn]) rfl rfl (fun W => zab Tryz.func51 rfl rfl _ W) (fun W hW => rinn_is kM.out (by rw [kX.out]; exact zga ky.out) W)) ?_;simp only [aP,lA,lZ,lS]
  exact zax
 refine prest_store _ rfl rfl rfl rfl rfl rfl b1 (iN _) rfl (zch _) ?_
 intro w2 hB hb
 go_wp2
 exact bodyPost_ret (results_cell_row rfl _ _ (w.heap.size + 1) 29 (nc M) (0,0) _ rfl hb Tryz.underlying29 rfl (by kernel_rfl)) rfl ⟨rfl,hx.new hB (by omega)⟩
theorem inR_may (X : Nat) : Pt.inR X = mayB X:=rfl
def cellsN : List Nat → List Value
 | [] => []
 | x :: xs => (nc x).toList ++ cellsN xs
theorem zft : ∀ (xs ys : List Nat),cellsN (xs ++ ys) = cellsN xs ++ cellsN ys
 | [],ys => rfl
 | x :: xs,ys => by
  show (nc x).toList ++ cellsN (xs ++ ys) = ((nc x).toList ++ cellsN xs) ++ cellsN ys
  rw [zft xs ys,List.append_assoc]
theorem cellsN_at : ∀ (xs : List Nat) (i : Nat) (x : Nat),xs[i]? = some x → ((cellsN xs).drop (i * 4)).take 4 = (nc x).toList
 | [],i,x,h => by simp at h
 | y :: xs,0,x,h => by
  obtain rfl : y = x:=by simpa using h
  rfl
 | y :: xs,i + 1,x,h => by
  have h1:=cellsN_at xs i x (by simpa using h)
  have e : (i + 1) * 4 = (nc y).toList.length + i * 4:=by
   show _ = 4 + _
   omega
  show (((nc y).toList ++ cellsN xs).drop ((i + 1) * 4)).take 4 = _
  rw [e,← List.drop_drop,List.drop_left,h1]
def OwnN (w : World) (base : Nat) (v : Value) (xs : List Nat) : Prop:=w.ownsRow base 29 4 v xs.length (cellsN xs)
section
variable {w w' : World} {base : Nat} {v : Value} {xs : List Nat}
theorem OwnN.nil (w : World) (base : Nat) : OwnN w base (.slice none 0 0) []:=World.ownsRow_nil _ _ _ _
theorem OwnN.form (o : OwnN w base v xs) : ∃ A c,v = .slice A xs.length c ∧ xs.length ≤ c:=by
 rcases o.2 with ⟨h,h0⟩ | ⟨g,cap,cur,h,_,_,hn,_⟩
 ·
  exact ⟨none,0,by rw [h,h0],by omega⟩
 ·
  exact ⟨_,cap,h,hn⟩
theorem OwnN.lt (o : OwnN w base v xs) {k : Nat} (hk : v.ownBlock = some k) : base ≤ k ∧ k < w.heap.size:=World.ownsRow.lt o k hk
theorem OwnN.keep (o : OwnN w base v xs) (h : ∀ k,v.ownBlock = some k → w'.heap[k]? = w.heap[k]?) : OwnN w' base v xs:=by
 refine ⟨o.1,?_⟩
 rcases o.2 with hn | ⟨g,cap,cur,rfl,hbg,hh,rest⟩
 ·
  exact .inl hn
 ·
  exact .inr ⟨g,cap,cur,rfl,hbg,(h g rfl).trans hh,rest⟩
theorem OwnN.ext (o : OwnN w base v xs) (h : Ext w w') : OwnN w' base v xs:=o.keep fun k hk => Below.block h k (o.lt hk).2
theorem OwnN.but {r : Nat} (o : OwnN w base v xs) (h : But r w w') (hr : r < base) : OwnN w' base v xs:=o.keep fun k hk => h.block k (o.lt hk).2 (by have:=(o.lt hk).1; intro e; injection e; omega)
theorem OwnN.base_le {base' : Nat} (o : OwnN w base v xs) (hb : base' ≤ base) : OwnN w base' v xs :=
 ⟨o.1,o.2.elim .inl fun ⟨g,cap,cur,hv,hg,r⟩ => .inr ⟨g,cap,cur,hv,Nat.le_trans hb hg,r⟩⟩
theorem OwnN.at (o : OwnN w base v xs) {i : Nat} (hi : i < xs.length) : ∃ g cap,v = .slice (some ⟨g,0,none⟩) xs.length cap ∧ base ≤ g ∧ g < w.heap.size ∧ w.rangeAt g (i * 4) (nc (xs[i]'hi)).toList:=by
 rcases o.2 with ⟨_,h0⟩ | ⟨g,cap,cur,rfl,hbg,hh,hn,hm,hs,ht⟩
 ·
  omega
 ·
  refine ⟨g,cap,rfl,hbg,(Array.getElem?_eq_some_iff.1 hh).1,fun j u hu => ?_⟩
  have hj : j < 4:=by have:=(List.getElem?_eq_some_iff.1 hu).1; exact this
  rw [cell_of_row w g _ cur _ _ hh]
  have h1:=cellsN_at xs i _ (List.getElem?_eq_getElem hi)
  rw [← h1,List.getElem?_take_of_lt hj,List.getElem?_drop,← ht,List.getElem?_take_of_lt (by omega)] at hu
  simpa using hu
end
theorem infoN32 : (Tryz.prog.info? 29).map (fun i => (i.zero,i.size,i.bytes)) = some (some (.agg #[vI vU 0,vI vU 0,vI vU 0,vI vU 0]),4,32):=by kernel_rfl
theorem zht {i : Option TypeInfo} {z : Value} {n b : Nat} (h : i.map (fun i => (i.zero,i.size,i.bytes)) = some (some z,n,b)) : ∃ j,i = some j ∧ j.zero = some z ∧ j.size = n ∧ j.bytes = b:=by
 cases i with
 | none => simp at h
 | some j =>
  simp only [Option.map_some,Option.some.injEq,Prod.mk.injEq] at h
  exact ⟨j,rfl,h.1,h.2.1,h.2.2⟩
theorem wpl_append_num {w : World} {ops : Array Oper} {rest : List Oper} {o : Oper} {a : Act} {Q : Exit → Act → World → Prop} (hgd : o.guard = none) (s x : Operand)
  (ho : o.op = .call { callee:=.builtin .append,args:=#[s,x],argTypes:=#[101,101] })
  (base : Nat) (v : Value) (xs : List Nat) (hs : a.eval s = v) (hown : OwnN w base v xs) (g X : Nat) (hx : a.eval x = .slice (some ⟨g,0,none⟩) 1 1) (hg : w.heap[g]? = some (.cells (nc X) 29 (0,0)))
  (hn : xs.length ≤ 1000) (hbase : base ≤ w.heap.size)
  (h : ∀ v' w',OwnN w' base v' (xs ++ [X]) → w.grownBy w' v.ownBlock → wpList Tryz.prog ops Q rest (a.put o.dst v') w') : wpList Tryz.prog ops Q (o :: rest) a w:=by
 obtain ⟨i,hi,hz,hsz,hby⟩:=zht infoN32
 refine wpList_plain hgd fun K hK => ?_
 obtain ⟨v',w',hr,h2,h3,_,_⟩:=run_append_own_at (P:=Tryz.prog) w base 101 o.type 29 i _ 4 32 Tryz.underlying101 hi hz hsz hby rfl (by decide) v xs.length (cellsN xs) hown ⟨g,0,none⟩ 1 1 (nc X).toList rfl
  (fun j u hu => by
   rw [Addr.add_mid,Nat.zero_add,cell_of_row w g j (nc X) _ _ hg]
   simpa using hu)
  (fun u hu => (Array.all_eq_true_iff_forall_mem.1 (zch X)) u (by simpa using hu)) (by unfold maxLen; omega) (by omega) hbase
 unfold Oper.wp execOp
 simp only [ho,resolve,invoke,builtin,Sem.run_bind,Sem.run_pure,Result.andThen_ok,List.map_toArray,List.map_cons,List.map_nil,hs,hx,hr]
 refine hK _ _ (h v' w' ?_ h3)
 unfold OwnN
 rw [zft,List.length_append]
 have e : cellsN [X] = (nc X).toList:=List.append_nil _
 rw [e]
 exact h2
def RSrc (W : World) (v : Value) (y : Nat → Nat) (ob : Option Nat) : Prop :=
 ∃ b o c,v = .slice (some ⟨b,o,none⟩) 32 c ∧ b < W.heap.size ∧ ob ≠ some b ∧ ∀ j,j < 32 → W.cell? ⟨b,o + j,none⟩ = some (.int .u8 (y j : Nat))
section
variable {W W' : World} {v : Value} {y : Nat → Nat} {ob : Option Nat}
theorem RSrc.ext (h : RSrc W v y ob) (k : Ext W W') : RSrc W' v y ob:=by
 obtain ⟨b,o,c,e,hb,hne,hc⟩:=h
 exact ⟨b,o,c,e,Nat.lt_of_lt_of_le hb (Below.size k),hne,fun j hj => (Below.cell k (p:=⟨b,o + j,none⟩) hb).trans (hc j hj)⟩
theorem RSrc.grown (h : RSrc W v y ob) (k : W.grownBy W' ob) {ob' : Option Nat} (ho : ob' = ob ∨ ob' = some W.heap.size) : RSrc W' v y ob':=by
 obtain ⟨b,o,c,e,hb,hne,hc⟩:=h
 refine ⟨b,o,c,e,Nat.lt_of_lt_of_le hb k.size,?_,fun j hj => (World.cell?_of_block (a:=⟨b,o + j,none⟩) (k.block b hb (Ne.symm hne))).trans (hc j hj)⟩
 rcases ho with rfl | rfl
 ·
  exact hne
 ·
  intro e; injection e; omega
theorem RSrc.src (h : RSrc W v y ob) : ∃ A c,v = .slice A 32 c ∧ Src W A 32 y W.heap.size:=by
 obtain ⟨b,o,c,e,hb,_,hc⟩:=h
 exact ⟨_,c,e,.inr ⟨b,o,rfl,hb,by omega,hc⟩⟩
end
theorem cat_rest (v : Nat → Nat) : cat v 32 (fun j => v (32 + j)) = v:=by
 funext i
 unfold cat
 split
 ·
  rfl
 ·
  show v (32 + (i - 32)) = v i
  congr 1; omega
theorem zgf (RS : RSum) (s : KV) (hs : s.Ok) (vk vv : Value) (ob : Option Nat) (w : World) (hk : RSrc w vk s.k ob) (hv : RSrc w vv s.v ob) (ho : ∀ b,ob = some b → b < w.heap.size) :
  Calls Tryz.prog 120 #[vk,vv,.slice none 0 0] w fun e w' => ∃ r,e = .returned r ∧ RSrc w' r (nb s.k 32 s.v 32) ob ∧ Ext w w':=by
 obtain ⟨A,cA,rfl,hA⟩:=hk.src
 obtain ⟨B,cB,rfl,hB⟩:=hv.src
 refine (code_calls RS A B none cA cB 0 0 s.k s.v (fun j => s.v (32 + j)) hs.k hs.v (fun j => hs.v _) (by decide) w hA hB (.inl rfl)).mono ?_
 rintro e w' ⟨g,rfl,hg,hr,hb⟩
 rw [cat_rest] at hr
 exact ⟨_,rfl,⟨g,0,32,rfl,hr.lt,fun e => by have:=ho g e; omega,fun j hj => by rw [Nat.zero_add]; exact hr.cell hj⟩,hb⟩
theorem code_tx (RS : RSum) (s : KV) (hs : s.Ok) (vk vv : Value) (ob : Option Nat) (b : Nat) (hb : b < 256) (t : Nat → Nat) (ht : ∀ j,t j < 256) (m : Nat) (hm : m ≤ 900) (C : Option Addr) (cC : Nat) (w : World)
  (hk : RSrc w vk s.k ob) (hv : RSrc w vv s.v ob) (hC : Src w C (1 + m) (cat (fun _ => b) 1 t) w.heap.size) (ho : ∀ b,ob = some b → b < w.heap.size) :
  Calls Tryz.prog 120 #[vk,vv,.slice C (1 + m) cC] w fun e w' => ∃ r,e = .returned r ∧ RSrc w' r (nb s.k 32 (tx s.v b t) (33 + m)) ob ∧ Ext w w':=by
 obtain ⟨A,cA,rfl,hA⟩:=hk.src
 obtain ⟨B,cB,rfl,hB⟩:=hv.src
 refine (code_calls RS A B C cA cB cC (1 + m) s.k s.v (cat (fun _ => b) 1 t) hs.k hs.v (cat_lt (fun _ => hb) ht) (by omega) w hA hB hC).mono ?_
 rintro e w' ⟨g,rfl,hg,hr,hb⟩
 rw [show 32 + (1 + m) = 33 + m by omega] at hr
 exact ⟨_,rfl,⟨g,0,32,rfl,hr.lt,fun e => by have:=ho g e; omega,fun j hj => by rw [Nat.zero_add]; exact hr.cell hj⟩,hb⟩
theorem wpl_append_num' {w : World} {ops : Array Oper} {rest : List Oper} {o : Oper} {a : Act} {Q : Exit → Act → World → Prop} (hgd : o.guard = none) (s x : Operand)
  (ho : o.op = .call { callee:=.builtin .append,args:=#[s,x],argTypes:=#[101,101] })
  (base : Nat) (v : Value) (xs : List Nat) (hs : a.eval s = v) (hown : OwnN w base v xs) (g X : Nat) (hx : a.eval x = .slice (some ⟨g,0,none⟩) 1 1) (hg : w.heap[g]? = some (.cells (nc X) 29 (0,0)))
  (hn : xs.length ≤ 1000) (hbase : base ≤ w.heap.size)
  (h : ∀ v' w',OwnN w' base v' (xs ++ [X]) → w.grownBy w' v.ownBlock → (v'.ownBlock = v.ownBlock ∨ v'.ownBlock = some w.heap.size) → wpList Tryz.prog ops Q rest (a.put o.dst v') w') : wpList Tryz.prog ops Q (o :: rest) a w:=by
 obtain ⟨i,hi,hz,hsz,hby⟩:=zht infoN32
 refine wpList_plain hgd fun K hK => ?_
 obtain ⟨v',w',hr,h2,h3,_,h5⟩:=run_append_own_at (P:=Tryz.prog) w base 101 o.type 29 i _ 4 32 Tryz.underlying101 hi hz hsz hby rfl (by decide) v xs.length (cellsN xs) hown ⟨g,0,none⟩ 1 1 (nc X).toList rfl
  (fun j u hu => by
   rw [Addr.add_mid,Nat.zero_add,cell_of_row w g j (nc X) _ _ hg]
   simpa using hu)
  (fun u hu => (Array.all_eq_true_iff_forall_mem.1 (zch X)) u (by simpa using hu)) (by unfold maxLen; omega) (by omega) hbase
 unfold Oper.wp execOp
 simp only [ho,resolve,invoke,builtin,Sem.run_bind,Sem.run_pure,Result.andThen_ok,List.map_toArray,List.map_cons,List.map_nil,hs,hx,hr]
 refine hK _ _ (h v' w' ?_ h3 h5)
 unfold OwnN
 rw [zft,List.length_append]
 have e : cellsN [X] = (nc X).toList:=List.append_nil _
 rw [e]
 exact h2
theorem tx_own {w : World} {base m b : Nat} {v : Value} {t : Nat → Nat} (h : Own w base 5 v (1 + m) (fun j => if j < 1 then .int .u8 (b : Int) else .int .u8 (t (j - 1) : Nat))) : Own w base 5 v (1 + m) (fun j => .int .u8 (cat (fun _ => b) 1 t j : Nat)):=h.congr fun j _ => by
 unfold cat
 split <;> rfl
theorem src_one (w : World) (b : Nat) : Src (w.alloc (.cells #[.int .u8 (b : Int)] 5)) (some ⟨w.heap.size,0,none⟩) (1 + 0) (cat (fun _ => b) 1 none0) (w.alloc (.cells #[.int .u8 (b : Int)] 5)).heap.size :=
 .inr ⟨w.heap.size,0,rfl,by simp,by simp,fun j hj => by
  obtain rfl : j = 0:=by omega
  rw [World.cell?_alloc_mark]; rfl⟩
theorem part_bytes (X m : Nat) : pt X m / 256 = byv X (2 * m + 1) ∧ pt X m % 256 = byv X (2 * m):=by
 have h0:=dg_byte X 2 m 0 (by omega)
 have h1:=dg_byte X 2 m 1 (by omega)
 rw [← w16_bytes] at h0 h1
 have hl:=dg_lt zif X m
 unfold pt byv
 rw [← h1,← show dg w16 X m / 256 ^ 0 % 256 = dg 256 X (2 * m) from h0]
 generalize dg w16 X m = D at *
 unfold w16 at hl
 simp only [Nat.pow_zero,Nat.pow_one,Nat.div_one]
 omega
theorem heap_alloc_drew (w : World) (o : Obj) : (w.alloc o).drew.heap[w.heap.size]? = some o:=heap_alloc_new w o
def bsv (X j : Nat) : Value:=.int .u8 (byv X (31 - j))
theorem bsL_step (X m : Nat) (hm : m < 16) : (List.range (32 - 2 * (m + 1))).map (bsv X) ++ [.int .u8 (byv X (2 * m + 1)),.int .u8 (byv X (2 * m))] = (List.range (32 - 2 * m)).map (bsv X):=by
 rw [show 32 - 2 * m = (32 - 2 * (m + 1)) + 1 + 1 by omega,List.range_succ,List.range_succ,List.map_append,List.map_append,List.append_assoc]
 simp only [List.map_cons,List.map_nil,bsv,List.cons_append,List.nil_append]
 rw [show 31 - (32 - 2 * (m + 1)) = 2 * m + 1 by omega,show 31 - (32 - 2 * (m + 1) + 1) = 2 * m by omega]
theorem conv_hi (z : Int) (h0 : 0 ≤ z) (h1 : z ≤ 65535) : IntKind.u8.wrap (IntKind.i64.wrap (z.tdiv 256)) = z / 256:=by
 have e : z.tdiv 256 = z / 256:=Int.tdiv_eq_ediv_of_nonneg h0
 have h2 : 0 ≤ z / 256:=by omega
 have h3 : z / 256 ≤ 255:=by omega
 rw [e]
 generalize z / 256 = q at *
 rw [IntWalk.i64_in q ⟨by omega,by omega⟩,IntKind.wrap_u8]
 exact Int.emod_eq_of_lt h2 (by omega)
theorem conv_lo (z : Int) (h0 : 0 ≤ z) : IntKind.u8.wrap (z.tmod 256) = z % 256:=by
 have e : z.tmod 256 = z % 256:=Int.tmod_eq_emod_of_nonneg h0
 rw [e,IntKind.wrap_u8]
 exact Int.emod_emod_of_dvd z (Int.dvd_refl 256)
theorem none_yet (X : Nat) (W : World) (base : Nat) : W.ownsRow base 5 1 (.slice none 0 0) (32 - 2 * 16) ((List.range (32 - 2 * 16)).map (bsv X)):=by
 simp only [show 32 - 2 * 16 = 0 from by omega,List.range_zero,List.map_nil]
 exact World.ownsRow_nil _ _ _ _
theorem zgp (X : Nat) (w : World) :
  Calls Tryz.prog 108 #[.agg #[vI vU (wd X 0),vI vU (wd X 1),vI vU (wd X 2),vI vU (wd X 3)]] w fun e w' => ∃ g cap,e = .returned (.slice (some ⟨g,0,none⟩) 32 cap) ∧ 32 ≤ cap ∧ w.heap.size ≤ g ∧ Own w' w.heap.size 5 (.slice (some ⟨g,0,none⟩) 32 cap) 32 (bsv X) ∧ Below w.heap.size w w':=by
 obtain ⟨i0,hi,hz0,hz1,hz2⟩:=info_parts infoByte
 have hB0 : Below w.heap.size w (w.alloc (.cells #[vI vU (wd X 0),vI vU (wd X 1),vI vU (wd X 2),vI vU (wd X 3)] 29)):=(Below.refl _ _).alloc (by simp) _
 go_enter Tryz.func108,Tryz.ntmps108
 go_wp2_with fail
 refine (zfk X _).mono ?_
 rintro e w1 ⟨g1,cap1,rfl,hg1,hp1,hb1⟩
 have hB1:=hB0.trans (hb1.mono (by simp))
 have hl1:=hp1.lt
 have hsz:=hB1.size
 clear hB0 hb1 hg1
 go_wp2
 go_loopw [4,5] (fun v i wr => ∃ k : Nat,k ≤ 16 ∧ i = .int .i64 ((k : Int) - 1) ∧ wr.ownsRow w1.heap.size 5 1 v (32 - 2 * k) ((List.range (32 - 2 * k)).map (bsv X)) ∧ Pre wr g1 3 16 (ptv X) ∧ Below w.heap.size w wr ∧ w1.heap.size ≤ wr.heap.size)
  (fun _ i _ => (intOf i + 1).toNat)
 case atStart => exact ⟨16,by omega,rfl,none_yet X w1 _,hp1,hB1,Nat.le_refl _⟩
 case round =>
  clear hp1 hB1
  obtain ⟨k,hk,hii,hown,hp,hbel,hsz2⟩:=hrel
  cases k with
  | zero =>
   subst hii
   go_wp2
   go_ret
   have ho : Own wr w1.heap.size 5 _ 32 (bsv X):=hown
   obtain ⟨g,cap,rfl,hc,hg,_⟩:=ho.pre (by omega)
   exact ⟨g,cap,rfl,hc,by omega,ho.base_le hsz,hbel⟩
  | succ m =>
   obtain rfl : _ = Value.int .i64 (m : Int):=hii.trans (by congr 1; omega)
   have hm : m < 16:=by omega
   have c1:=hp.cell hm
   simp only [ptv] at c1
   clear hii
   go_wp2
   have hm0 : (0 : Int) ≤ (m : Int):=by omega
   have hm1 : (m : Int) < 16:=by omega
   have l1:=pt_lo X m
   have u1 : pt X m ≤ 65535:=by have:=pt_lt X m; omega
   obtain ⟨q1,q2⟩:=part_bytes X m
   have E1 : IntKind.u8.wrap (IntKind.i64.wrap ((pt X m).tdiv 256)) = byv X (2 * m + 1):=(conv_hi _ l1 u1).trans q1
   have E2 : IntKind.u8.wrap ((pt X m).tmod 256) = byv X (2 * m):=(conv_lo _ l1).trans q2
   clear q1 q2
   as_aux_lemma =>
   go_region_held3 (fun w' => w'.cell? ⟨g1,m,none⟩ = some (.int .i64 (pt X m)))
    (first
     | go_keep
     | exact (hgrow.cell_far ⟨g1,m,none⟩ ((hp.alloc _).drew).lt (fun e => by have h2 : w1.heap.size ≤ g1:=(hown.lt g1 e.symm).1; omega)).trans (((hp.alloc _).drew).cell hm))
    ((refine step_append_lies _ (by rfl) _ _ _ (by rfl) w1.heap.size 5 i0 _ 1 1 Tryz.underlying24 hi hz0 hz1 hz2 rfl (by omega) _ _ _ (by rfl) ((hown.alloc _).drew)
       ⟨wr.heap.size,0,none⟩ 2 2 [.int .u8 (byv X (2 * m + 1)),.int .u8 (byv X (2 * m))] (by rfl) (by rfl) (World.news_of_block (cs:=#[.int .u8 (byv X (2 * m + 1)),.int .u8 (byv X (2 * m))]) (t:=5) (fr:=(0,0)) (heap_alloc_drew wr _)) (by simp [Value.oneCell'])
       (by omega) (by unfold maxLen; omega) (by omega) (by simp; omega) (wr.heap.size + 1) (by simp) ?_; intro gg cap w4 hown1 hgrow hat hlt))
   all_goals
    go_wp2
    go_roundw
    have hsz5 : w1.heap.size ≤ w4.heap.size:=by
     have h6:=hgrow.size
     have h5 : wr.heap.size ≤ (wr.alloc (.cells #[.int .u8 (byv X (2 * m + 1)),.int .u8 (byv X (2 * m))] 5)).drew.heap.size:=by
      show wr.heap.size ≤ (wr.alloc _).heap.size
      simp
     omega
    case rel => exact ⟨m,by omega,rfl,by rw [bsL_step X m hm,show 32 - 2 * (m + 1) + 2 = 32 - 2 * m by omega] at hown1; rw [show 32 - 2 * (m + 1) + 2 = 32 - 2 * m by omega]; exact hown1,(hp.alloc _).drew.of_block (hgrow.block g1 ((hp.alloc _).drew).lt (fun e => by have h2 : w1.heap.size ≤ g1:=(hown.lt g1 e.symm).1; omega)),((hbel.alloc (by omega) _).drew).grown hgrow (by show w.heap.size ≤ (wr.alloc _).heap.size; simp; omega) (fun k e => by have:=(hown.lt _ e).1; omega),hsz5⟩
    case measure => simp [intOf]
theorem row_block {w : World} {g t : Nat} {X : Nat} (h : w.heap[g]? = some (.cells (nc X) t (0,0))) : w.cell? ⟨g,0,none⟩ = some (vI vU (wd X 0)) ∧ w.cell? ⟨g,1,none⟩ = some (vI vU (wd X 1)) ∧ w.cell? ⟨g,2,none⟩ = some (vI vU (wd X 2)) ∧ w.cell? ⟨g,3,none⟩ = some (vI vU (wd X 3)) :=
 ⟨cell_of_row w g 0 (nc X) t (0,0) h,cell_of_row w g 1 (nc X) t (0,0) h,cell_of_row w g 2 (nc X) t (0,0) h,cell_of_row w g 3 (nc X) t (0,0) h⟩
theorem two_cells {w : World} {base D M : Nat} {v : Value} (h : Own w base 5 v 64 (fun j => if j < 32 then bsv D j else bsv M (j - 32))) : Own w base 5 v 64 (fun j => .int .u8 (two D M j : Nat)):=h.congr fun j _ => by
 unfold two cat
 split <;> rfl
theorem from_own' {w : World} {base e n g c : Nat} {f : Nat → Value} (o : Own w base e (.slice (some ⟨g,0,none⟩) n c) n f) : From w (some ⟨g,0,none⟩) n f:=by
 by_cases h : n = 0
 ·
  exact .inl h
 ·
  obtain ⟨g',c',e,_,_,hp⟩:=o.pre (by omega)
  injection e with e1 _ _
  injection e1 with e2
  injection e2 with e3
  subst e3
  exact .inr ⟨_,rfl,fun j hj => by rw [Addr.add_mid,Nat.zero_add]; exact hp.cell hj⟩
theorem pre_more {D M many i : Nat} (h : ∀ j,j < i → (outN D M j).length < many) (hi : (outN D M i).length < many) : ∀ j,j < i + 1 → (outN D M j).length < many:=fun j hj => by
 rcases Nat.lt_or_ge j i with e | e
 ·
  exact h j e
 ·
  have : j = i:=by omega
  subst this
  exact hi
theorem rlist_calls (RS : RSum) (D : Nat) (y : Nat → Nat) (hy : ∀ j,y j < 256) (many : Nat) (hm : many ≤ 16) (w : World) :
  Calls Tryz.prog 67 #[nv D,.agg (arrOf 32 fun i => .int .u8 (y i : Nat)),.int .i64 (many : Int)] w fun e w' => ∃ s v,Ends D (num32 y % Pt.nn) many s ∧ e = .returned v ∧ OwnN w' w.heap.size v (outN D (num32 y % Pt.nn) s) ∧ Ext w w':=by
 obtain ⟨X,hX⟩ : ∃ X,X = num32 y:=⟨_,rfl⟩
 obtain ⟨M,hM⟩ : ∃ M,M = X % Pt.nn:=⟨_,rfl⟩
 rw [← hX,← hM]
 have hXt : X < top:=by rw [hX]; exact zga hy
 have hMt : M < top:=by rw [hM]; exact Nat.lt_trans (Nat.mod_lt _ (by decide +kernel)) zbn
 obtain ⟨F,hF⟩ : ∃ F,F = arrOf 32 fun i => Value.int .u8 (y i : Nat):=⟨_,rfl⟩
 rw [← hF]
 obtain ⟨i8,hi8,hz0,hz1,hz2⟩:=info_parts infoByte
 have HI:=veil (And.intro hi8 (And.intro hz0 (And.intro hz1 hz2)))
 have HX:=veil (And.intro hX (And.intro hM (And.intro hXt (And.intro hMt (And.intro hy (And.intro hF hm))))))
 have HRS:=veil RS
 clear hi8 hz0 hz1 hz2 hX hM hXt hMt hy hF hm RS
 show Calls _ _ #[.agg (nc D),.agg F,_] w _
 obtain ⟨C,hC⟩ : ∃ C,C = nc D:=⟨_,rfl⟩
 rw [← hC]
 have HC:=veil hC
 clear hC
 go_enter Tryz.func67,Tryz.ntmps67
 go_upto_region 1 with (fail)
 have hc1 : (w.alloc (.cells C 29)).heap[w.heap.size]? = some (.cells C 29 (0,0)):=heap_alloc_last w _
 have hz1 : (w.alloc (.cells C 29)).heap.size = w.heap.size + 1:=by simp
 have hE1:=Ext.alloc w (.cells C 29)
 generalize w.alloc (.cells C 29) = w1 at *
 have hf2 : (w1.alloc (.cells F 23)).rowIs (w.heap.size + 1) 23 32 (fun i => .int .u8 (y i : Nat)):=by rw [HX.out.2.2.2.2.2.1]; exact zav w1 32 23 _ hz1.symm
 have hc2:=(Ext.alloc w1 (.cells F 23)).block hc1
 have hE2:=hE1.trans (Ext.alloc w1 (.cells F 23))
 generalize w1.alloc (.cells F 23) = w2 at *
 have KOf:=veil (show Calls Tryz.prog 75 #[.slice (some ⟨w.heap.size + 1,0,none⟩) 32 32] w2 fun e w' => e = .returned (nv X) ∧ Ext w2 w' from by
  rw [HX.out.1]; exact zkh (w.heap.size + 1) 0 32 32 y HX.out.2.2.2.2.1 (by decide) w2 hf2.lt (fun j hj => by rw [Nat.zero_add]; exact hf2.cell hj))
 have KIn:=veil (fun W => show Calls Tryz.prog 51 #[nv X,nv Pt.nn] W fun e w' => e = .returned (nv M) ∧ Ext W w' from by
  rw [HX.out.2.1]; exact gin_calls X Pt.nn HX.out.2.2.1 (by decide +kernel) zbn W)
 have H2:=veil (And.intro hc2 hE2)
 clear hc1 hz1 hE1 hf2 hc2 hE2
 go_upto_region 2 with (first
  | (go_at_call 75; refine KOf.out.mono ?_; rintro e w3 ⟨rfl,hE3⟩)
  | (go_at_call 34; refine (nn_is _).mono ?_; rintro e w4 ⟨rfl,hE4⟩)
  | (go_at_call 51; refine (KIn.out _).mono ?_; rintro e w5 ⟨rfl,hE5⟩)
  | ((with_reducible refine zak ?_); refine wpList_store_row rfl 29 _ _ rfl w5.heap.size (nc M) rfl rfl 29 _ (heap_alloc_last w5 _) (iN M) (by rfl) (zch M) ?_; rw [World.setRow_alloc_new]))
 have hm6 : (w5.alloc (.cells (nc M) 29)).heap[w5.heap.size]? = some (.cells (nc M) 29 (0,0)):=heap_alloc_last w5 _
 have hE6:=((hE3.trans hE4).trans hE5).trans (Ext.alloc w5 (.cells (nc M) 29))
 have hc6:=hE6.block H2.out.1
 replace hE6:=H2.out.2.trans hE6
 generalize w5.alloc (.cells (nc M) 29) = wz at *
 generalize w5.heap.size = gm at *
 rw [HC.out] at hc6
 clear hE3 hE4 hE5 KOf KIn H2
 obtain ⟨x0,x1,x2,x3⟩:=row_block hc6
 obtain ⟨m0,m1,m2,m3⟩:=row_block hm6
 have lz : w.heap.size < wz.heap.size:=(Array.getElem?_eq_some_iff.1 hc6).1
 have lm : gm < wz.heap.size:=(Array.getElem?_eq_some_iff.1 hm6).1
 have H1:=veil (fun W => zgp D W)
 have H2:=veil (fun W => zgp M W)
 have hzz : wz.heap.size = wz.heap.size:=rfl
 clear hc6 hm6
 simp only [Act.put]
 go_cut [8] from 20 to 24 (fun v8 wx => ∃ g cap,v8 = .slice (some ⟨g,0,none⟩) 64 cap ∧ Own wx wz.heap.size 5 (.slice (some ⟨g,0,none⟩) 64 cap) 64 (fun j => .int .u8 (two D M j : Nat)) ∧ Ext wz wx)
 case first =>
  go_region_held3 (fun w' => (∀ b o,b < wz.heap.size → w'.cell? ⟨b,o,none⟩ = wz.cell? ⟨b,o,none⟩) ∧ Below wz.heap.size wz w')
   (first
    | with_reducible assumption
    | with_reducible exact ziv _
    | exact hS3
    | with_reducible exact zge (by assumption) (by assumption)
    | fail)
   (first
    | (go_at_call 108; first
      | ((with_reducible refine (H1.out _).mono ?_); rintro e w1 ⟨g1,c1,rfl,hc1,hg1,ho1,hb1⟩)
      | ((with_reducible refine (H2.out _).mono ?_); rintro e w2 ⟨g2,c2,rfl,hc2,hg2,ho2,hb2⟩))
    | ((with_reducible refine at_slotR 24 ?_); refine zcg _ rfl _ _ 24 rfl wz.heap.size 5 i8 (.int .u8 0) 1 Tryz.underlying24 HI.out.1 HI.out.2.1 HI.out.2.2.1 HI.out.2.2.2 rfl (.slice (some ⟨g1,0,none⟩) 32 c1) 32 _ rfl (ho1.below hb2 (Nat.le_refl _)) (some ⟨g2,0,none⟩) 32 c2 rfl _ (from_own' ho2) (fun _ => rfl) (by unfold maxLen; omega) (by omega) (Nat.le_trans hb1.size hb2.size) ?_; intro v3 w3 hO3 hg3 _ _; have hX:=zge hb2 (zge hb1 (ziv wz)); have hb3 : Below wz.heap.size wz w3:=hX.2.grown hg3 hX.2.size (fun k e => (ho1.lt e).1); have hS3:=And.intro (fun b o (h : b < wz.heap.size) => hb3.cell (p:=⟨b,o,none⟩) h) hb3; obtain ⟨g3,c3,rfl,-,hg3',-⟩:=hO3.pre (by omega)))
  rename (_ ∧ Below wz.heap.size wz _) => hH
  clear x0 x1 x2 x3 m0 m1 m2 m3
  go_wp2_with fail
  go_meet
  case rel => exact ⟨g3,c3,rfl,two_cells hO3,hH.2⟩
 case rest =>
  obtain ⟨g8,c8,rfl,hO8,hE8⟩:=hcut
  clear x0 x1 x2 x3 m0 m1 m2 m3 lm lz H1 H2 hzz
  go_upto_region 6 with (fail)
  obtain ⟨bs,hbs⟩ : ∃ bs,bs = wc.heap.size:=⟨_,rfl⟩
  have HZ:=veil (And.intro (hE6.trans hE8) (And.intro hO8 (show wc.heap.size ≤ bs by omega)))
  have hbw : wc.heap.size ≤ bs:=by omega
  clear hE6 hE8 hO8
  go_loopw [9,10,11] (fun v9 v10 v11 wr => ∃ i : Nat,i ≤ 32 ∧ v11 = .int .i64 (i : Int) ∧ Own wr bs 5 v9 i (fun _ => .int .u8 0) ∧ Own wr bs 5 v10 i (fun _ => .int .u8 1) ∧ (∀ b,v9.ownBlock = some b → v10.ownBlock ≠ some b) ∧ Below bs wc wr ∧ bs ≤ wr.heap.size)
   (fun _ _ v11 _ => 32 - (intOf v11).toNat)
  case atStart => exact ⟨0,by omega,rfl,Own.nil _ _ _ _,Own.nil _ _ _ _,(fun b e => by cases e),hbs ▸ Below.refl _ _,by omega⟩
  case round =>
   obtain ⟨i,hi,rfl,hK,hV,hne,hB,hzr⟩:=hrel
   by_cases hlt : i < 32
   ·
    have HA:=veil (And.intro (hK.alloc (.cells #[.int .u8 0] 5)) (zcy wr (.int .u8 0) 5))
    have HBr:=veil (And.intro hB (And.intro hK (And.intro hV hne)))
    clear hK hV hne hB
    go_upto_region 9 with ((with_reducible refine zac 31 ?_); refine zae _ rfl _ _ 24 rfl bs 5 i8 (.int .u8 0) 1 Tryz.underlying24 HI.out.1 HI.out.2.1 HI.out.2.2.1 HI.out.2.2.2 rfl _ i _ rfl HA.out.1 (some ⟨wr.heap.size,0,none⟩) 1 1 rfl _ HA.out.2 (fun _ => rfl) (by unfold maxLen; omega) (by omega) (by simp; omega) ?_; intro k3 w3 hK3 hg3 hat3)
    replace hK3 : Own w3 bs 5 k3 (i + 1) (fun _ => .int .u8 0):=hK3.congr fun j _ => by split <;> rfl
    have hB3 : Below bs wc w3:=(HBr.out.1.alloc (by omega) _).grown hg3 (by simp; omega) (fun k e => (HBr.out.2.1.lt e).1)
    have hz3 : bs ≤ w3.heap.size:=by have:=hg3.size; simp at this; omega
    have hV3:=(HBr.out.2.2.1.alloc (.cells #[.int .u8 0] 5)).kept hg3 (by
     cases e : Value.ownBlock _ with
     | none => exact .inl rfl
     | some b => exact .inr fun e2 => HBr.out.2.2.2 b e2.symm e)
    replace hat3 : k3.ownBlock = u9.ownBlock ∨ k3.ownBlock = some _:=hat3
    have hne3 : ∀ b,k3.ownBlock = some b → u10.ownBlock ≠ some b:=fun b e e2 => by
     rcases hat3 with h | h
     ·
      exact HBr.out.2.2.2 b (h.symm.trans e) e2
     ·
      have:=(HBr.out.2.2.1.lt e2).2
      rw [e] at h
      injection h with h
      simp at h
      omega
    have HA3:=veil (And.intro (hV3.alloc (.cells #[.int .u8 1] 5)) (zcy w3 (.int .u8 1) 5))
    have HB3:=veil (And.intro hB3 (And.intro hV3 (And.intro hK3 hne3)))
    clear hg3 hat3 hV3 hK3 hne3 hB3 HA HBr
    go_wp2_with ((with_reducible refine zac 34 ?_); refine zae _ rfl _ _ 24 rfl bs 5 i8 (.int .u8 0) 1 Tryz.underlying24 HI.out.1 HI.out.2.1 HI.out.2.2.1 HI.out.2.2.2 rfl _ i _ rfl HA3.out.1 (some ⟨w3.heap.size,0,none⟩) 1 1 rfl _ HA3.out.2 (fun _ => rfl) (by unfold maxLen; omega) (by omega) (by simp; omega) ?_; intro v4 w4' hV4 hg4 hat4)
    replace hV4 : Own w4' bs 5 v4 (i + 1) (fun _ => .int .u8 1):=hV4.congr fun j _ => by split <;> rfl
    have hB4 : Below bs wc w4':=(HB3.out.1.alloc (by omega) _).grown hg4 (by simp; omega) (fun k e => (HB3.out.2.1.lt e).1)
    have hz4 : bs ≤ w4'.heap.size:=by have:=hg4.size; simp at this; omega
    have hK4:=(HB3.out.2.2.1.alloc (.cells #[.int .u8 1] 5)).kept hg4 (by
     cases e : k3.ownBlock with
     | none => exact .inl rfl
     | some b => exact .inr fun e2 => HB3.out.2.2.2 b e e2.symm)
    replace hat4 : v4.ownBlock = u10.ownBlock ∨ v4.ownBlock = some _:=hat4
    have hne4 : ∀ b,k3.ownBlock = some b → v4.ownBlock ≠ some b:=fun b e e2 => by
     rcases hat4 with h | h
     ·
      exact HB3.out.2.2.2 b e (h.symm.trans e2)
     ·
      have:=(HB3.out.2.2.1.lt e).2
      rw [e2] at h
      injection h with h
      simp at h
      omega
    clear hg4 hat4 HA3 HB3
    go_roundw
    case rel => exact ⟨i + 1,by omega,by go_num,hK4,hV4,hne4,hB4,hz4⟩
    case measure => simp [intOf]; omega
   ·
    obtain rfl : i = 32:=by omega
    obtain ⟨ga,ca,rfl,_,_,hpa⟩:=hK.pre (by decide)
    obtain ⟨gb,cb,rfl,_,_,hpb⟩:=hV.pre (by decide)
    have hk0 : RSrc wr (.slice (some ⟨ga,0,none⟩) 32 ca) kv0.k none:=⟨ga,0,ca,rfl,hpa.lt,(fun e => by cases e),fun j hj => by rw [Nat.zero_add]; exact hpa.cell hj⟩
    have hv0 : RSrc wr (.slice (some ⟨gb,0,none⟩) 32 cb) kv0.v none:=⟨gb,0,cb,rfl,hpb.lt,(fun e => by cases e),fun j hj => by rw [Nat.zero_add]; exact hpb.cell hj⟩
    have HR:=veil (And.intro hk0 (And.intro hv0 (And.intro (HZ.out.2.1.below (hbs ▸ hB) (Nat.le_refl _)) (Below.trans HZ.out.1 ((hbs ▸ hB).mono (Below.size HZ.out.1))))))
    clear hK hV hne hB hzr hpa hpb hk0 hv0 hlt hi HZ hbw
    have hO:=Own.made (base:=wr.heap.size) (e:=5) (f:=fun _ => .int .u8 0) wr (cs:=#[.int .u8 0]) (Nat.le_refl _) (by show 1 ≤ maxLen; decide) (fun i hi => by
     have : i < 1:=hi
     obtain rfl : i = 0:=by omega
     rfl)
    have HO10:=veil (And.intro hO (And.intro (from_own' (HR.out.2.2.1.alloc (.cells #[.int .u8 0] 5))) (show Below wr.heap.size wr (wr.alloc (.cells #[.int .u8 0] 5)) from (Below.refl _ _).alloc (Nat.le_refl _) _)))
    clear hO
    go_wp2_with ((with_reducible refine zac 39 ?_); refine zae _ rfl _ _ 24 rfl wr.heap.size 5 i8 (.int .u8 0) 1 Tryz.underlying24 HI.out.1 HI.out.2.1 HI.out.2.2.1 HI.out.2.2.2 rfl _ 1 _ rfl HO10.out.1 (some ⟨g8,0,none⟩) 64 c8 rfl _ HO10.out.2.1 (fun _ => rfl) (by unfold maxLen; omega) (by omega) (by simp) ?_; intro t10 wt10 hO10 hg10 ha10)
    have hE10 : Ext wr wt10:=zbr HO10.out.2.2 hg10 (by simp) (fun k e => (HO10.out.1.lt e).1)
    obtain ⟨C10,cc10,rfl,_,hS10⟩:=src_own (g:=wt10.heap.size) (y:=cat (fun _ => 0) 1 (two D M)) (tx_own (b:=0) (m:=64) (t:=two D M) hO10) (fun b e => by have:=(hO10.lt e).2; omega)
    clear hO10 hg10 ha10 HO10
    refine (code_tx HRS.out kv0 kv0_ok _ _ none 0 (by decide) (two D M) (two_lt D M) 64 (by decide) C10 cc10 wt10 (HR.out.1.ext hE10) (HR.out.2.1.ext hE10) hS10 (fun b e => by cases e)).mono ?_
    rintro e wa ⟨ra,rfl,hra,hEa⟩
    have HA:=veil (And.intro hra (And.intro ((HR.out.2.1.ext hE10).ext hEa) (And.intro (HR.out.2.2.1.below (Ext.trans hE10 hEa) (Nat.le_refl _)) (Below.trans HR.out.2.2.2 ((Ext.trans hE10 hEa).mono HR.out.2.2.2.size)))))
    clear hra hEa hE10 hS10 HR
    go_wp2_with fail
    refine (zgf HRS.out (⟨nb kv0.k 32 (tx kv0.v 0 (two D M)) (33 + 64),kv0.v⟩ : KV) ⟨fun j => nb_lt _ _ _ _ j,kv0_ok.v⟩ _ _ none wa HA.out.1 HA.out.2.1 (fun b e => by cases e)).mono ?_
    rintro e wb ⟨rb,rfl,hrb,hEb⟩
    obtain ⟨s1,hs1⟩ : ∃ s1,s1 = kv0.mix 0 (two D M) 64:=⟨_,rfl⟩
    have HS1:=veil (And.intro hs1 (show s1.Ok from by rw [hs1]; exact kv0_ok.mix 0 (two D M) 64))
    have HB:=veil (show RSrc wb ra s1.k none ∧ RSrc wb rb s1.v none ∧ (Own wb wz.heap.size 5 (.slice (some ⟨g8,0,none⟩) 64 c8) 64 fun j => .int .u8 (two D M j : Nat)) ∧ Below w.heap.size w wb from
     by rw [hs1]; exact ⟨HA.out.1.ext hEb,hrb,HA.out.2.2.1.below hEb (Nat.le_refl _),Below.trans HA.out.2.2.2 (hEb.mono HA.out.2.2.2.size)⟩)
    clear hrb hEb HA hs1
    have hO:=Own.made (base:=wb.heap.size) (e:=5) (f:=fun _ => .int .u8 1) wb (cs:=#[.int .u8 1]) (Nat.le_refl _) (by show 1 ≤ maxLen; decide) (fun i hi => by
     have : i < 1:=hi
     obtain rfl : i = 0:=by omega
     rfl)
    have HO12:=veil (And.intro hO (And.intro (from_own' (HB.out.2.2.1.alloc (.cells #[.int .u8 1] 5))) (show Below wb.heap.size wb (wb.alloc (.cells #[.int .u8 1] 5)) from (Below.refl _ _).alloc (Nat.le_refl _) _)))
    clear hO
    go_wp2_with ((with_reducible refine zac 48 ?_); refine zae _ rfl _ _ 24 rfl wb.heap.size 5 i8 (.int .u8 0) 1 Tryz.underlying24 HI.out.1 HI.out.2.1 HI.out.2.2.1 HI.out.2.2.2 rfl _ 1 _ rfl HO12.out.1 (some ⟨g8,0,none⟩) 64 c8 rfl _ HO12.out.2.1 (fun _ => rfl) (by unfold maxLen; omega) (by omega) (by simp) ?_; intro t12 wt12 hO12 hg12 ha12)
    have hE12 : Ext wb wt12:=zbr HO12.out.2.2 hg12 (by simp) (fun k e => (HO12.out.1.lt e).1)
    obtain ⟨C12,cc12,rfl,_,hS12⟩:=src_own (g:=wt12.heap.size) (y:=cat (fun _ => 1) 1 (two D M)) (tx_own (b:=1) (m:=64) (t:=two D M) hO12) (fun b e => by have:=(hO12.lt e).2; omega)
    clear hO12 hg12 ha12 HO12
    refine (code_tx HRS.out s1 HS1.out.2 _ _ none 1 (by decide) (two D M) (two_lt D M) 64 (by decide) C12 cc12 wt12 (HB.out.1.ext hE12) (HB.out.2.1.ext hE12) hS12 (fun b e => by cases e)).mono ?_
    rintro e wd' ⟨rd,rfl,hrd,hEd⟩
    have HD:=veil (And.intro hrd (And.intro ((HB.out.2.1.ext hE12).ext hEd) (Below.trans HB.out.2.2.2 ((Ext.trans hE12 hEd).mono HB.out.2.2.2.size))))
    clear hrd hEd hE12 hS12 HB
    go_wp2_with fail
    refine (zgf HRS.out (⟨nb s1.k 32 (tx s1.v 1 (two D M)) (33 + 64),s1.v⟩ : KV) ⟨fun j => nb_lt _ _ _ _ j,HS1.out.2.v⟩ _ _ none wd' HD.out.1 HD.out.2.1 (fun b e => by cases e)).mono ?_
    rintro e wb2 ⟨re,rfl,hre,hEe⟩
    have HE:=veil (show RSrc wb2 rd (kvN D M 0).k none ∧ RSrc wb2 re (kvN D M 0).v none ∧ Below w.heap.size w wb2 from by
     have hkv : kvN D M 0 = s1.mix 1 (two D M) 64:=by rw [HS1.out.1]; rfl
     rw [hkv]
     exact ⟨HD.out.1.ext hEe,hre,Below.trans HD.out.2.2 (hEe.mono HD.out.2.2.size)⟩)
    clear hre hEe HD hbs
    go_upto_region 16 with (fail)
    obtain ⟨bl,hbl⟩ : ∃ bl,bl = wb2.heap.size:=⟨_,rfl⟩
    have hm16 : many ≤ 16:=HX.out.2.2.2.2.2.2
    go_loopw [9,10,12,13] (fun v9 v10 v12 v13 wl => ∃ i : Nat,i ≤ 100 ∧ v13 = .int .i64 (i : Int) ∧ (∀ j,j < i → (outN D M j).length < many) ∧ RSrc wl v9 (kvN D M i).k v12.ownBlock ∧ RSrc wl v10 (kvN D M i).v v12.ownBlock ∧ OwnN wl bl v12 (outN D M i) ∧ Ext wb2 wl)
     (fun _ _ _ v13 _ => 100 - (intOf v13).toNat)
    case atStart => exact ⟨0,by omega,rfl,(fun j hj => by omega),HE.out.1,HE.out.2.1,OwnN.nil _ _,Ext.refl _⟩
    case round =>
     obtain ⟨i,hi,rfl,hpre,hk,hv,hO,hE⟩:=hrel
     have ho : ∀ b,u12.ownBlock = some b → b < wr.heap.size:=fun b e => (hO.lt e).2
     obtain ⟨A,c,rfl,hnc⟩:=hO.form
     obtain ⟨n,hn⟩ : ∃ n,n = (outN D M i).length:=⟨_,rfl⟩
     rw [← hn] at hO hk hv ho ⊢
     by_cases h100 : i < 100
     ·
      have hd1 : decide ((i : Int) < 100) = true:=by simp; omega
      by_cases hlt : n < many
      ·
       have hd2 : decide ((n : Int) < (many : Int)) = true:=by simp; omega
       have hd3 : decide (n < many) = true:=decide_eq_true hlt
       have HOK:=veil (kvN_ok D M i)
       have HP:=veil hpre
       have HL:=veil (show (outN D M i).length < many from by rw [← hn]; exact hlt)
       have hl1000 : (outN D M i).length ≤ 1000:=by omega
       have HO:=veil (And.intro hO ho)
       have HK:=veil (And.intro hk (And.intro hv hE))
       clear hpre hnc hO ho hk hv hE hn hi
       go_wp2_with fail
       refine (zgf HRS.out (kvN D M i) HOK.out u9 u10 _ wr HK.out.1 HK.out.2.1 HO.out.2).mono ?_
       rintro e wa2 ⟨rv,rfl,hrv,hEa⟩
       have hrv0:=hrv
       obtain ⟨bv,ov,cv,rfl,hbv,_,hcv⟩:=hrv
       obtain ⟨Z,hZ⟩ : ∃ Z,Z = numN D M i:=⟨_,rfl⟩
       obtain ⟨m,hmZ⟩ : ∃ m,m = mayB Z:=⟨_,rfl⟩
       have HZZ:=veil (And.intro hZ (And.intro hmZ (show Z < top from by rw [hZ]; exact numN_lt D M i)))
       have KOf:=veil (show Calls Tryz.prog 75 #[.slice (some ⟨bv,ov,none⟩) 32 cv] wa2 fun e w' => e = .returned (nv Z) ∧ Ext wa2 w' from by
        rw [hZ]; exact zkh bv ov 32 cv (nb (kvN D M i).k 32 (kvN D M i).v 32) (fun j => nb_lt _ _ _ _ j) (by decide) wa2 hbv hcv)
       have HV:=veil (And.intro hrv0 hEa)
       clear hrv0 hbv hcv hZ hmZ hEa
       go_upto_region 20 with (first
        | (go_at_call 75; refine KOf.out.mono ?_; rintro e wo ⟨rfl,hEo⟩)
        | ((with_reducible refine zak ?_); refine wpList_store_row rfl 29 _ _ rfl wo.heap.size (nc Z) rfl rfl 29 _ (heap_alloc_last wo _) (iN Z) (by rfl) (zch Z) ?_; rw [World.setRow_alloc_new]))
       have hz3 : (wo.alloc (.cells (nc Z) 29)).heap[wo.heap.size]? = some (.cells (nc Z) 29 (0,0)):=heap_alloc_last wo _
       have hE3 : Ext wa2 (wo.alloc (.cells (nc Z) 29)):=hEo.trans (Ext.alloc wo (.cells (nc Z) 29))
       generalize wo.alloc (.cells (nc Z) 29) = wp at *
       generalize wo.heap.size = gx at *
       have H3:=veil (And.intro hz3 (And.intro (HV.out.1.ext hE3) (HV.out.2.trans hE3)))
       have KM:=veil (may_calls Z HZZ.out.2.2 wp)
       rw [← HZZ.out.2.1] at KM
       clear hz3 hE3 hEo HV KOf hd1 hd2 hd3
       cases m with
       | false =>
        have hout : outN D M (i + 1) = outN D M i:=by
         show (if mayB (numN D M i) = true then _ else _) = _
         rw [← HZZ.out.1,← HZZ.out.2.1]; rfl
        go_wp2_with (first
         | ((with_reducible refine zac 68 ?_); refine wpList_load_row rfl 29 _ rfl gx rfl 29 (nc Z) (0,0) _ H3.out.1 Tryz.underlying29 rfl (iN Z) ?_)
         | (go_at_call 13; refine KM.out.mono ?_; rintro e wq ⟨rfl,hEq⟩))
        have hEp:=H3.out.2.2.trans hEq
        have HT:=veil (And.intro (HK.out.1.ext hEp) (And.intro (H3.out.2.1.ext hEq) (And.intro (HO.out.1.ext hEp) (HK.out.2.2.trans hEp))))
        clear hEp hEq H3 KM HK HO
        have KC1:=veil (show Calls Tryz.prog 120 #[u9,.slice (some ⟨bv,ov,none⟩) 32 cv,.slice (some ⟨wq.heap.size,0,none⟩) 1 1] (wq.alloc (.cells #[.int .u8 0] 5)) _ from
         code_tx HRS.out (⟨(kvN D M i).k,nb (kvN D M i).k 32 (kvN D M i).v 32⟩ : KV) ⟨HOK.out.k,fun j => nb_lt _ _ _ _ j⟩ u9 (.slice (some ⟨bv,ov,none⟩) 32 cv) _ 0 (by decide) none0 (fun _ => by show (0 : Nat) < 256; decide) 0 (by decide) (some ⟨wq.heap.size,0,none⟩) 1 (wq.alloc (.cells #[.int .u8 0] 5)) (HT.out.1.ext (Ext.alloc _ _)) (HT.out.2.1.ext (Ext.alloc _ _)) (src_one wq 0) (fun b e => Nat.lt_of_lt_of_le ((HT.out.2.2.1.lt e).2) (by simp)))
        refine KC1.out.mono ?_
        rintro e wu ⟨rk,rfl,hrk,hEu⟩
        have hru:=(HT.out.2.1.ext (Ext.alloc wq (.cells #[.int .u8 0] 5))).ext hEu
        have KC2:=veil (zgf HRS.out (⟨nb (kvN D M i).k 32 (tx (nb (kvN D M i).k 32 (kvN D M i).v 32) 0 none0) (33 + 0),nb (kvN D M i).k 32 (kvN D M i).v 32⟩ : KV) ⟨fun j => nb_lt _ _ _ _ j,fun j => nb_lt _ _ _ _ j⟩ rk (.slice (some ⟨bv,ov,none⟩) 32 cv) _ wu hrk hru (fun b e => Nat.lt_of_lt_of_le ((HT.out.2.2.1.lt e).2) (Nat.le_trans (by simp) hEu.size)))
        have HU:=veil (And.intro hrk hEu)
        clear hrk hEu hru KC1
        go_wp2_with fail
        refine KC2.out.mono ?_
        rintro e wx ⟨rx,rfl,hrx,hEx⟩
        have hEt : Ext wq wx:=((Ext.alloc wq (.cells #[.int .u8 0] 5)).trans HU.out.2).trans hEx
        have hOx:=HT.out.2.2.1.ext hEt
        have hEl:=Below.trans HT.out.2.2.2 (hEt.mono HT.out.2.2.2.size)
        have hrk:=HU.out.1.ext hEx
        rw [← hout] at hOx
        have HF2:=veil (show RSrc wx rk (kvN D M (i + 1)).k _ ∧ RSrc wx rx (kvN D M (i + 1)).v _ ∧ OwnN wx bl _ (outN D M (i + 1)) ∧ Ext wb2 wx from ⟨hrk,hrx,hOx,hEl⟩)
        clear KC2 HU HT hEx hEt hrx hOx hEl hrk
        go_wp2
        go_roundw
        case rel => exact ⟨i + 1,by omega,by go_num,pre_more HP.out HL.out,HF2.out.1,HF2.out.2.1,HF2.out.2.2.1,HF2.out.2.2.2⟩
        case measure => simp [intOf]; omega
       | true =>
        have hout : outN D M (i + 1) = outN D M i ++ [Z]:=by
         show (if mayB (numN D M i) = true then _ ++ _ else _) = _
         rw [← HZZ.out.1,← HZZ.out.2.1]; rfl
        have hnc4 : (nc Z).size = 4:=rfl
        go_wp2_with (first
         | ((with_reducible refine zac 68 ?_); refine wpList_load_row rfl 29 _ rfl gx rfl 29 (nc Z) (0,0) _ H3.out.1 Tryz.underlying29 rfl (iN Z) ?_)
         | (go_at_call 13; refine KM.out.mono ?_; rintro e wq ⟨rfl,hEq⟩)
         | ((with_reducible refine zac 72 ?_); refine wpList_load_row rfl 29 _ rfl gx rfl 29 (nc Z) (0,0) _ (hEq.block H3.out.1) Tryz.underlying29 rfl (iN Z) ?_)
         | ((with_reducible refine zac 74 ?_); refine wpl_append_num' rfl _ _ rfl bl (.slice A n c) (outN D M i) rfl ((HO.out.1.ext (H3.out.2.2.trans hEq)).ext (Ext.alloc _ (.cells (nc Z) 29))) wq.heap.size Z rfl (heap_alloc_last wq _) hl1000 (hbl ▸ Nat.le_trans HK.out.2.2.size (Nat.le_trans (Below.size (H3.out.2.2.trans hEq)) (by simp))) ?_; intro v12 w12 hO12 hg12 ha12))
        have hEp:=(H3.out.2.2.trans hEq).trans (Ext.alloc wq (.cells (nc Z) 29))
        have hB12 : Ext wb2 w12:=zbr (HK.out.2.2.trans hEp) hg12 (Nat.le_trans HK.out.2.2.size (Below.size hEp)) (fun k e => by have:=(HO.out.1.lt e).1; omega)
        have HT:=veil (And.intro ((HK.out.1.ext hEp).grown hg12 ha12) (And.intro ((H3.out.2.1.ext (hEq.trans (Ext.alloc wq (.cells (nc Z) 29)))).grown hg12 ha12) (And.intro hO12 hB12)))
        clear hEp hEq H3 KM HK HO hO12 hg12 ha12 hB12 hnc4
        have KC1:=veil (show Calls Tryz.prog 120 #[u9,.slice (some ⟨bv,ov,none⟩) 32 cv,.slice (some ⟨w12.heap.size,0,none⟩) 1 1] (w12.alloc (.cells #[.int .u8 0] 5)) _ from
         code_tx HRS.out (⟨(kvN D M i).k,nb (kvN D M i).k 32 (kvN D M i).v 32⟩ : KV) ⟨HOK.out.k,fun j => nb_lt _ _ _ _ j⟩ u9 (.slice (some ⟨bv,ov,none⟩) 32 cv) _ 0 (by decide) none0 (fun _ => by show (0 : Nat) < 256; decide) 0 (by decide) (some ⟨w12.heap.size,0,none⟩) 1 (w12.alloc (.cells #[.int .u8 0] 5)) (HT.out.1.ext (Ext.alloc _ _)) (HT.out.2.1.ext (Ext.alloc _ _)) (src_one w12 0) (fun b e => Nat.lt_of_lt_of_le ((HT.out.2.2.1.lt e).2) (by simp)))
        refine KC1.out.mono ?_
        rintro e wu ⟨rk,rfl,hrk,hEu⟩
        have hru:=(HT.out.2.1.ext (Ext.alloc w12 (.cells #[.int .u8 0] 5))).ext hEu
        have KC2:=veil (zgf HRS.out (⟨nb (kvN D M i).k 32 (tx (nb (kvN D M i).k 32 (kvN D M i).v 32) 0 none0) (33 + 0),nb (kvN D M i).k 32 (kvN D M i).v 32⟩ : KV) ⟨fun j => nb_lt _ _ _ _ j,fun j => nb_lt _ _ _ _ j⟩ rk (.slice (some ⟨bv,ov,none⟩) 32 cv) _ wu hrk hru (fun b e => Nat.lt_of_lt_of_le ((HT.out.2.2.1.lt e).2) (Nat.le_trans (by simp) hEu.size)))
        have HU:=veil (And.intro hrk hEu)
        clear hrk hEu hru KC1
        go_wp2_with fail
        refine KC2.out.mono ?_
        rintro e wx ⟨rx,rfl,hrx,hEx⟩
        have hEt : Ext w12 wx:=((Ext.alloc w12 (.cells #[.int .u8 0] 5)).trans HU.out.2).trans hEx
        have hOx:=HT.out.2.2.1.ext hEt
        have hEl:=Below.trans HT.out.2.2.2 (hEt.mono HT.out.2.2.2.size)
        have hrk:=HU.out.1.ext hEx
        rw [← hout] at hOx
        have HF2:=veil (show RSrc wx rk (kvN D M (i + 1)).k _ ∧ RSrc wx rx (kvN D M (i + 1)).v _ ∧ OwnN wx bl _ (outN D M (i + 1)) ∧ Ext wb2 wx from ⟨hrk,hrx,hOx,hEl⟩)
        clear KC2 HU HT hEx hEt hrx hOx hEl hrk
        go_wp2
        go_roundw
        case rel => exact ⟨i + 1,by omega,by go_num,pre_more HP.out HL.out,HF2.out.1,HF2.out.2.1,HF2.out.2.2.1,HF2.out.2.2.2⟩
        case measure => simp [intOf]; omega
      ·
       have hd2 : decide ((n : Int) < (many : Int)) = false:=by simp; omega
       have hd3 : decide (n < many) = false:=decide_eq_false hlt
       have hEnd:=veil (show Ends D M many i from ⟨hi,hpre,.inr (by rw [← hn]; exact hlt)⟩)
       have HO:=veil (And.intro hO hE)
       clear hpre hnc hO ho hk hv hE hn
       go_wp2
       go_ret
       exact ⟨i,_,hEnd.out,rfl,HO.out.1.base_le (hbl ▸ HE.out.2.2.size),Below.trans HE.out.2.2 (HO.out.2.mono HE.out.2.2.size)⟩
     ·
      have hd1 : decide ((i : Int) < 100) = false:=by simp; omega
      obtain rfl : i = 100:=by omega
      have hEnd:=veil (show Ends D M many 100 from ⟨Nat.le_refl _,hpre,.inl rfl⟩)
      have HO:=veil (And.intro hO hE)
      clear hpre hnc hO ho hk hv hE hn
      go_wp2
      go_ret
      exact ⟨100,_,hEnd.out,rfl,HO.out.1.base_le (hbl ▸ HE.out.2.2.size),Below.trans HE.out.2.2 (HO.out.2.mono HE.out.2.2.size)⟩
end Go.Proofs.YtihophdbkjhopaaGreatDoor
