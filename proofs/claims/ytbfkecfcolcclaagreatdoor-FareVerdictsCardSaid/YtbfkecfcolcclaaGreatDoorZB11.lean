/-
  Of Q9 Bit Len RBit RLen Q10 Q12 G6 G7a PS S0 S1 V9 S3 S4 FMath FBase Mul64.
-/
import Derived.Deep.Cut
import Derived.Deep.CutRange
import Derived.Deep.LoopGhost
import Derived.Deep.MidRow
import Derived.Laws.OwnMore
import Derived.Deep.AppendLies
import Derived.Deep.RegionHeld3
import Derived.Test.YtbfkecfcolcclaaGreatDoorRows
import Derived.WalkKit
import Derived.WalkSpells
import Derived.WalkLawsBesides
import Derived.Deep.RegionWith
import Derived.Deep.QuietTactic
import Derived.BigQuiet
import Derived.Test.YtbfkecfcolcclaaGreatDoorZB5
import Derived.Test.YtbfkecfcolcclaaGreatDoorZB4
import Derived.Test.YtbfkecfcolcclaaGreatDoorZB3
import Derived.Test.YtbfkecfcolcclaaGreatDoorZB10
import Derived.Test.YtbfkecfcolcclaaGreatDoorZB9
import Derived.Test.YtbfkecfcolcclaaGreatDoorZB6
import Derived.Test.YtbfkecfcolcclaaGreatDoorZB2
import Derived.Test.YtbfkecfcolcclaaGreatDoorZB1
set_option maxRecDepth 1000000
set_option maxHeartbeats 20000000
namespace Go.Proofs.YtbfkecfcolcclaaGreatDoor
open Go.RowKit
open Go.Value renaming int → vI
open Go.IntKind renaming u64 → vU
open Go.Act renaming put → aP
open List renaming setIfInBounds_toArray → lA, set_cons_zero → lZ, set_cons_succ → lS
theorem p_top (p : Pt.P Pt.pp) : Pt.pX p < top ∧ Pt.pY p < top:=⟨Nat.lt_trans (Pt.pX_lt p) zcf,Nat.lt_trans (Pt.pY_lt p) zcf⟩
theorem zgj (p q : Pt.Q) (w : World) :
  Calls Tryz.prog 131 #[.agg #[vI vU (wd (Pt.pX p.1) 0),vI vU (wd (Pt.pX p.1) 1),vI vU (wd (Pt.pX p.1) 2),vI vU (wd (Pt.pX p.1) 3),vI vU (wd (Pt.pY p.1) 0),vI vU (wd (Pt.pY p.1) 1),vI vU (wd (Pt.pY p.1) 2),vI vU (wd (Pt.pY p.1) 3),.bool (Pt.pFar p.1)],.agg #[vI vU (wd (Pt.pX q.1) 0),vI vU (wd (Pt.pX q.1) 1),vI vU (wd (Pt.pX q.1) 2),vI vU (wd (Pt.pX q.1) 3),vI vU (wd (Pt.pY q.1) 0),vI vU (wd (Pt.pY q.1) 1),vI vU (wd (Pt.pY q.1) 2),vI vU (wd (Pt.pY q.1) 3),.bool (Pt.pFar q.1)]] w fun e w' => e = .returned (.agg #[vI vU (wd (Pt.pX (Pt.grp.op p q).1) 0),vI vU (wd (Pt.pX (Pt.grp.op p q).1) 1),vI vU (wd (Pt.pX (Pt.grp.op p q).1) 2),vI vU (wd (Pt.pX (Pt.grp.op p q).1) 3),vI vU (wd (Pt.pY (Pt.grp.op p q).1) 0),vI vU (wd (Pt.pY (Pt.grp.op p q).1) 1),vI vU (wd (Pt.pY (Pt.grp.op p q).1) 2),vI vU (wd (Pt.pY (Pt.grp.op p q).1) 3),.bool (Pt.pFar (Pt.grp.op p q).1)]) ∧ Below w.heap.size w w':=by
 obtain ⟨p,hp⟩:=p
 obtain ⟨q,hq⟩:=q
 show Calls Tryz.prog 131 #[.agg #[vI vU (wd (Pt.pX p) 0),vI vU (wd (Pt.pX p) 1),vI vU (wd (Pt.pX p) 2),vI vU (wd (Pt.pX p) 3),vI vU (wd (Pt.pY p) 0),vI vU (wd (Pt.pY p) 1),vI vU (wd (Pt.pY p) 2),vI vU (wd (Pt.pY p) 3),.bool (Pt.pFar p)],.agg #[vI vU (wd (Pt.pX q) 0),vI vU (wd (Pt.pX q) 1),vI vU (wd (Pt.pX q) 2),vI vU (wd (Pt.pX q) 3),vI vU (wd (Pt.pY q) 0),vI vU (wd (Pt.pY q) 1),vI vU (wd (Pt.pY q) 2),vI vU (wd (Pt.pY q) 3),.bool (Pt.pFar q)]] w fun e w' => e = .returned (.agg #[vI vU (wd (Pt.pX (Pt.E256.add p q)) 0),vI vU (wd (Pt.pX (Pt.E256.add p q)) 1),vI vU (wd (Pt.pX (Pt.E256.add p q)) 2),vI vU (wd (Pt.pX (Pt.E256.add p q)) 3),vI vU (wd (Pt.pY (Pt.E256.add p q)) 0),vI vU (wd (Pt.pY (Pt.E256.add p q)) 1),vI vU (wd (Pt.pY (Pt.E256.add p q)) 2),vI vU (wd (Pt.pY (Pt.E256.add p q)) 3),.bool (Pt.pFar (Pt.E256.add p q))]) ∧ Below w.heap.size w w'
 rcases p with _ | ⟨x1,y1⟩
 ·
  rw [Pt.none_add]
  exact radd_far1 0 0 (Pt.pX q) (Pt.pY q) (Pt.pFar q) w
 ·
  rcases q with _ | ⟨x2,y2⟩
  ·
   rw [Pt.add_none]
   exact radd_far2 x1.val y1.val 0 0 w
  ·
   by_cases h : x1 = x2 ∧ y1 = 0 - y2
   ·
    rw [Pt.add_far h]
    obtain ⟨rfl,rfl⟩:=h
    obtain ⟨m,hm⟩ : ∃ m,m = 0 - y2:=⟨_,rfl⟩
    rw [← hm]
    exact radd_opp hm w
   ·
    rw [Pt.add_near h]
    by_cases hs : x1 = x2 ∧ y1 = y2
    ·
     obtain ⟨rfl,rfl⟩:=hs
     rw [Pt.lam_same]
     obtain ⟨u,hu⟩ : ∃ u,u = 3 * (x1 * x1 - 1):=⟨_,rfl⟩
     obtain ⟨d,hd⟩ : ∃ d,d = y1 + y1:=⟨_,rfl⟩
     obtain ⟨l,hl⟩ : ∃ l,l = u * Pt.E256.inv d:=⟨_,rfl⟩
     rw [← hu,← hd,← hl]
     obtain ⟨X,hX⟩ : ∃ X,X = l * l - x1 - x1:=⟨_,rfl⟩
     obtain ⟨Y,hY⟩ : ∃ Y,Y = l * (x1 - X) - y1:=⟨_,rfl⟩
     rw [show Pt.third x1 y1 x1 l = some (X,Y) by rw [hY,hX]; rfl]
     exact radd_same rfl (fun e => h ⟨rfl,Fin.ext e.2⟩) rfl rfl rfl rfl hu hd (hd ▸ Pt.down_same hp) rfl hl rfl rfl hX rfl rfl hY w
    ·
     rw [Pt.lam_else hs]
     obtain ⟨u,hu⟩ : ∃ u,u = y2 - y1:=⟨_,rfl⟩
     obtain ⟨d,hd⟩ : ∃ d,d = x2 - x1:=⟨_,rfl⟩
     obtain ⟨l,hl⟩ : ∃ l,l = u * Pt.E256.inv d:=⟨_,rfl⟩
     rw [← hu,← hd,← hl]
     obtain ⟨X,hX⟩ : ∃ X,X = l * l - x1 - x2:=⟨_,rfl⟩
     obtain ⟨Y,hY⟩ : ∃ Y,Y = l * (x1 - X) - y1:=⟨_,rfl⟩
     rw [show Pt.third x1 y1 x2 l = some (X,Y) by rw [hY,hX]; rfl]
     exact radd_else rfl (fun e => h ⟨Fin.ext e.1,Fin.ext e.2⟩) (fun e => hs ⟨Fin.ext e.1,Fin.ext e.2⟩) hu hd (hd ▸ Pt.down_else hp hq h hs) rfl hl rfl rfl hX rfl rfl hY w
theorem onB_iff (X Y : Nat) (f : Bool) : onB X Y f = true ↔ Pt.isOn X Y f:=by
 unfold onB Pt.isOn
 cases f with
 | true => simp
 | false =>
  simp only [Bool.false_eq_true,if_false,Bool.and_eq_true,decide_eq_true_eq]
  constructor
  ·
   rintro ⟨hx,hy,h⟩
   refine ⟨hx,hy,(Pt.on_iff _ _).2 (Fin.ext ?_)⟩
   have ex : X = (Pt.F X : Fin Pt.pp).val:=(Nat.mod_eq_of_lt hx).symm
   have ey : Y = (Pt.F Y : Fin Pt.pp).val:=(Nat.mod_eq_of_lt hy).symm
   rw [← Pt.v_mul,← zhm,← ex,← ey]
   exact h
  ·
   rintro ⟨hx,hy,h⟩
   refine ⟨hx,hy,?_⟩
   have ex : X = (Pt.F X : Fin Pt.pp).val:=(Nat.mod_eq_of_lt hx).symm
   have ey : Y = (Pt.F Y : Fin Pt.pp).val:=(Nat.mod_eq_of_lt hy).symm
   have h2:=congrArg Fin.val ((Pt.on_iff _ _).1 h)
   rw [← Pt.v_mul,← zhm,← ex,← ey] at h2
   exact h2
theorem onB_some {X Y : Nat} {f : Bool} (h : onB X Y f = true) : ∃ q : Pt.Q,X = Pt.pX q.1 ∧ Y = Pt.pY q.1 ∧ f = Pt.pFar q.1:=(Pt.isOn_iff X Y f).1 ((onB_iff X Y f).1 h)
theorem onB_of (q : Pt.Q) : onB (Pt.pX q.1) (Pt.pY q.1) (Pt.pFar q.1) = true:=(onB_iff _ _ _).2 ((Pt.isOn_iff _ _ _).2 ⟨q,rfl,rfl,rfl⟩)
def bit (X n : Nat) : Bool:=X / 2 ^ n % 2 == 1
theorem w64_two : w64 = 2 ^ 64:=by decide
theorem w16_two : w16 = 2 ^ 16:=by decide
theorem bit_dg (a n r m : Nat) (hr : r < m) : a / (2 ^ m) ^ n % 2 ^ m / 2 ^ r % 2 = a / 2 ^ (m * n + r) % 2:=by
 have h:=zcn (B:=2) (a / (2 ^ m) ^ n) m r hr
 unfold dg at h
 rw [h,← Nat.pow_mul,Nat.div_div_eq_div_mul,← Nat.pow_add]
theorem bit_word (X n : Nat) : (bits BinOp.and IntKind.u64 (wd X (n / 64) / 2 ^ (n % 64)) 1 == 1) = bit X n:=by
 have e : wd X (n / 64) / 2 ^ (n % 64) = ((dg w64 X (n / 64) / 2 ^ (n % 64) : Nat) : Int):=by
  unfold wd
  rw [Int.natCast_ediv]
  simp
 have hlt : dg w64 X (n / 64) / 2 ^ (n % 64) < 18446744073709551616:=Nat.lt_of_le_of_lt (Nat.div_le_self _ _) (dg_lt zam X _)
 rw [e,show (1 : Int) = ((1 : Nat) : Int) from rfl,u64_and_nat _ _ hlt (by omega),Nat.and_one_is_mod]
 have h:=bit_dg X (n / 64) (n % 64) 64 (Nat.mod_lt _ (by omega))
 rw [Nat.div_add_mod] at h
 unfold bit dg
 rw [w64_two,h]
 rw [Bool.eq_iff_iff]
 simp only [beq_iff_eq]
 omega
def ph (X q k : Nat) : Int:=((dg w16 X q / 2 ^ k : Nat) : Int)
theorem ph_lo (X q k : Nat) : 0 ≤ ph X q k:=Int.natCast_nonneg _
theorem ph_lt (X q k : Nat) : ph X q k < 65536:=by
 have h : dg w16 X q / 2 ^ k < 65536:=Nat.lt_of_le_of_lt (Nat.div_le_self _ _) (dg_lt zje X q)
 unfold ph; omega
theorem ph_zero (X q : Nat) : ph X q 0 = pt X q:=by simp [ph,pt]
theorem ph_succ (X q k : Nat) : ph X q (k + 1) = ph X q k / 2:=by
 unfold ph
 rw [Nat.pow_succ,← Nat.div_div_eq_div_mul,Int.natCast_ediv]
 rfl
theorem ph_bit (X n : Nat) : (ph X (n / 16) (n % 16) % 2 == 1) = bit X n:=by
 have h:=bit_dg X (n / 16) (n % 16) 16 (Nat.mod_lt _ (by omega))
 rw [Nat.div_add_mod] at h
 unfold bit ph dg
 rw [w16_two,← h]
 rw [Bool.eq_iff_iff]
 simp only [beq_iff_eq]
 omega
theorem bit_in (X n : Nat) (hn : n < 256) (w : World) :
  Calls Tryz.prog 146 #[.agg #[vI vU (wd X 0),vI vU (wd X 1),vI vU (wd X 2),vI vU (wd X 3)],.int .i64 (n : Int)] w fun e w' => e = .returned (.bool (bit X n)) ∧ Below w.heap.size w w':=by
 have hq : n / 64 < 4:=by omega
 have h0 : ¬ (n : Int) < 0:=by omega
 have h1 : ¬ (256 : Int) ≤ (n : Int):=by omega
 have hR : (w.alloc (.cells #[vI vU (wd X 0),vI vU (wd X 1),vI vU (wd X 2),vI vU (wd X 3)] 58)).rowIs w.heap.size 58 4 (fun j => .int .u64 (wd X j)):=zah (n:=4) (by simp) rfl (arr4 fun j => .int .u64 (wd X j))
 have c1:=hR.cell hq
 have l1:=wd_lo X (n / 64)
 have u1:=wd_le X (n / 64)
 clear hR
 go_enter Tryz.func146,Tryz.ntmps146
 go_wp2
 go_ret
 rw [← bit_word]
 exact ⟨rfl,(Below.refl _ _).alloc (Nat.le_refl _) _⟩
theorem zea {a b : Int} (h : a = b) : Ending.returned (.int .i64 a) = .returned (.int .i64 b):=by rw [h]
theorem zdr (k i : Nat) (hi : i < 256) (hk : k ≤ 56) : wrap64 ((k : Int) + wrap64 (bitLen i : Int)) = ((k + bitLen i : Nat) : Int):=by
 have:=bitLen_le8 i hi
 rw [IntWalk.wrap64_in (bitLen i : Int) (by omega),IntWalk.wrap64_in _ (by omega)]
 omega
theorem zcw (x b : Nat) (h : 2 ^ b ≤ x) : bitLen x = b + bitLen (x / 2 ^ b) :=
 bitLen_shift x b (by have:=Nat.div_pos h (Nat.two_pow_pos b); omega)
theorem len64_0 (x : Int) (hl : 0 ≤ x) (hu : x ≤ 255) (w : World) : Calls Tryz.prog 114 #[vI vU x] w fun e w' => e = .returned (.int .i64 (bitLen x.toNat)) ∧ w' = w:=by
 have h1 : x ≤ 4294967295:=by omega
 have h2 : x ≤ 65535:=by omega
 have h3 : x ≤ 255:=by omega
 have h0 : 0 ≤ x:=by omega
 clear hu hl
 go_enter Tryz.func114,Tryz.ntmps114
 go_wp2
 go_ret
 refine ⟨zea ?_,rfl⟩
 rw [len8tab_get]
 have h:=zdr 0 x.toNat (by omega) (by omega)
 simpa using h
theorem len64_8 (x : Int) (hl : 256 ≤ x) (hu : x ≤ 65535) (w : World) : Calls Tryz.prog 114 #[vI vU x] w fun e w' => e = .returned (.int .i64 (bitLen x.toNat)) ∧ w' = w:=by
 have h1 : x ≤ 4294967295:=by omega
 have h2 : x ≤ 65535:=by omega
 have h3 : (256 : Int) ≤ x:=by omega
 have h4 : x / 256 ≤ 255:=by omega
 have h0 : 0 ≤ x:=by omega
 clear hu hl
 go_enter Tryz.func114,Tryz.ntmps114
 go_wp2
 go_ret
 refine ⟨zea ?_,rfl⟩
 rw [len8tab_get]
 have e : (x / 256).toNat = x.toNat / 2 ^ 8:=by show _ = x.toNat / 256; omega
 rw [e,zcw x.toNat 8 (by show 256 ≤ x.toNat; omega)]
 exact zdr 8 _ (by rw [← e]; omega) (by omega)
theorem len64_16 (x : Int) (hl : 65536 ≤ x) (hu : x ≤ 16777215) (w : World) : Calls Tryz.prog 114 #[vI vU x] w fun e w' => e = .returned (.int .i64 (bitLen x.toNat)) ∧ w' = w:=by
 have h1 : x ≤ 4294967295:=by omega
 have h2 : (65536 : Int) ≤ x:=by omega
 have h3 : x / 65536 ≤ 255:=by omega
 have h0 : 0 ≤ x:=by omega
 clear hu hl
 go_enter Tryz.func114,Tryz.ntmps114
 go_wp2
 go_ret
 refine ⟨zea ?_,rfl⟩
 rw [len8tab_get]
 have e : (x / 65536).toNat = x.toNat / 2 ^ 16:=by show _ = x.toNat / 65536; omega
 rw [e,zcw x.toNat 16 (by show 65536 ≤ x.toNat; omega)]
 exact zdr 16 _ (by rw [← e]; omega) (by omega)
theorem len64_24 (x : Int) (hl : 16777216 ≤ x) (hu : x ≤ 4294967295) (w : World) : Calls Tryz.prog 114 #[vI vU x] w fun e w' => e = .returned (.int .i64 (bitLen x.toNat)) ∧ w' = w:=by
 have h1 : x ≤ 4294967295:=by omega
 have h2 : (65536 : Int) ≤ x:=by omega
 have h3 : (256 : Int) ≤ x / 65536:=by omega
 have h4 : x / 65536 / 256 ≤ 255:=by omega
 have h0 : 0 ≤ x:=by omega
 clear hu hl
 go_enter Tryz.func114,Tryz.ntmps114
 go_wp2
 go_ret
 refine ⟨zea ?_,rfl⟩
 rw [len8tab_get]
 have e : (x / 65536 / 256).toNat = x.toNat / 2 ^ 24:=by show _ = x.toNat / 16777216; omega
 rw [e,zcw x.toNat 24 (by show 16777216 ≤ x.toNat; omega)]
 exact zdr 24 _ (by rw [← e]; omega) (by omega)
theorem len64_32 (x : Int) (hl : 4294967296 ≤ x) (hu : x ≤ 1099511627775) (w : World) : Calls Tryz.prog 114 #[vI vU x] w fun e w' => e = .returned (.int .i64 (bitLen x.toNat)) ∧ w' = w:=by
 have h1 : (4294967296 : Int) ≤ x:=by omega
 have h2 : x / 4294967296 ≤ 65535:=by omega
 have h3 : x / 4294967296 ≤ 255:=by omega
 have h0 : 0 ≤ x:=by omega
 clear hu hl
 go_enter Tryz.func114,Tryz.ntmps114
 go_wp2
 go_ret
 refine ⟨zea ?_,rfl⟩
 rw [len8tab_get]
 have e : (x / 4294967296).toNat = x.toNat / 2 ^ 32:=by show _ = x.toNat / 4294967296; omega
 rw [e,zcw x.toNat 32 (by show 4294967296 ≤ x.toNat; omega)]
 exact zdr 32 _ (by rw [← e]; omega) (by omega)
theorem len64_40 (x : Int) (hl : 1099511627776 ≤ x) (hu : x ≤ 281474976710655) (w : World) : Calls Tryz.prog 114 #[vI vU x] w fun e w' => e = .returned (.int .i64 (bitLen x.toNat)) ∧ w' = w:=by
 have h1 : (4294967296 : Int) ≤ x:=by omega
 have h2 : x / 4294967296 ≤ 65535:=by omega
 have h3 : (256 : Int) ≤ x / 4294967296:=by omega
 have h4 : x / 4294967296 / 256 ≤ 255:=by omega
 have h0 : 0 ≤ x:=by omega
 clear hu hl
 go_enter Tryz.func114,Tryz.ntmps114
 go_wp2
 go_ret
 refine ⟨zea ?_,rfl⟩
 rw [len8tab_get]
 have e : (x / 4294967296 / 256).toNat = x.toNat / 2 ^ 40:=by show _ = x.toNat / 1099511627776; omega
 rw [e,zcw x.toNat 40 (by show 1099511627776 ≤ x.toNat; omega)]
 exact zdr 40 _ (by rw [← e]; omega) (by omega)
theorem len64_48 (x : Int) (hl : 281474976710656 ≤ x) (hu : x ≤ 72057594037927935) (w : World) : Calls Tryz.prog 114 #[vI vU x] w fun e w' => e = .returned (.int .i64 (bitLen x.toNat)) ∧ w' = w:=by
 have h1 : (4294967296 : Int) ≤ x:=by omega
 have h2 : (65536 : Int) ≤ x / 4294967296:=by omega
 have h3 : x / 4294967296 / 65536 ≤ 255:=by omega
 have h0 : 0 ≤ x:=by omega
 clear hu hl
 go_enter Tryz.func114,Tryz.ntmps114
 go_wp2
 go_ret
 refine ⟨zea ?_,rfl⟩
 rw [len8tab_get]
 have e : (x / 4294967296 / 65536).toNat = x.toNat / 2 ^ 48:=by show _ = x.toNat / 281474976710656; omega
 rw [e,zcw x.toNat 48 (by show 281474976710656 ≤ x.toNat; omega)]
 exact zdr 48 _ (by rw [← e]; omega) (by omega)
theorem len64_56 (x : Int) (hl : 72057594037927936 ≤ x) (hu : x ≤ 18446744073709551615) (w : World) : Calls Tryz.prog 114 #[vI vU x] w fun e w' => e = .returned (.int .i64 (bitLen x.toNat)) ∧ w' = w:=by
 have h1 : (4294967296 : Int) ≤ x:=by omega
 have h2 : (65536 : Int) ≤ x / 4294967296:=by omega
 have h3 : (256 : Int) ≤ x / 4294967296 / 65536:=by omega
 have h4 : x / 4294967296 / 65536 / 256 ≤ 255:=by omega
 have h0 : 0 ≤ x:=by omega
 clear hu hl
 go_enter Tryz.func114,Tryz.ntmps114
 go_wp2
 go_ret
 refine ⟨zea ?_,rfl⟩
 rw [len8tab_get]
 have e : (x / 4294967296 / 65536 / 256).toNat = x.toNat / 2 ^ 56:=by show _ = x.toNat / 72057594037927936; omega
 rw [e,zcw x.toNat 56 (by show 72057594037927936 ≤ x.toNat; omega)]
 exact zdr 56 _ (by rw [← e]; omega) (by omega)
theorem len64_calls (x : Int) (h0 : 0 ≤ x) (h1 : x ≤ 18446744073709551615) (w : World) : Calls Tryz.prog 114 #[vI vU x] w fun e w' => e = .returned (.int .i64 (bitLen x.toNat)) ∧ w' = w:=by
 by_cases a : x ≤ 4294967295
 ·
  by_cases b : x ≤ 65535
  ·
   by_cases c : x ≤ 255
   ·
    exact len64_0 x (by omega) (by omega) w
   ·
    exact len64_8 x (by omega) (by omega) w
  ·
   by_cases c : x ≤ 16777215
   ·
    exact len64_16 x (by omega) (by omega) w
   ·
    exact len64_24 x (by omega) (by omega) w
 ·
  by_cases b : x ≤ 281474976710655
  ·
   by_cases c : x ≤ 1099511627775
   ·
    exact len64_32 x (by omega) (by omega) w
   ·
    exact len64_40 x (by omega) (by omega) w
  ·
   by_cases c : x ≤ 72057594037927935
   ·
    exact len64_48 x (by omega) (by omega) w
   ·
    exact len64_56 x (by omega) (by omega) w
theorem high_zero {X m : Nat} (hX : X < top) (h : ∀ j,m ≤ j → j < 4 → dg w64 X j = 0) : X < w64 ^ m:=by
 have hp : 0 < w64 ^ m:=Nat.pow_pos zam
 have e : X % w64 ^ 4 = X % w64 ^ m % w64 ^ 4:=zjv zam 4 fun i hi => by
  by_cases hlt : i < m
  ·
   rw [zcn X m i hlt]
  ·
   rw [h i (by omega) hi]
   unfold dg
   rw [Nat.div_eq_of_lt (Nat.lt_of_lt_of_le (Nat.mod_lt _ hp) (Nat.pow_le_pow_right zam (by omega)))]
   rfl
 rw [Nat.mod_eq_of_lt (show X < w64 ^ 4 from hX)] at e
 have h1:=Nat.mod_le (X % w64 ^ m) (w64 ^ 4)
 have h2:=Nat.mod_lt X hp
 omega
theorem len_word {X m : Nat} (hX : X < top) (h : ∀ j,m + 1 ≤ j → j < 4 → dg w64 X j = 0) (hne : dg w64 X m ≠ 0) : bitLen X = 64 * m + bitLen (dg w64 X m):=by
 have hlt:=high_zero hX h
 have hd : X / w64 ^ m = dg w64 X m:=by
  rw [dg,Nat.mod_eq_of_lt]
  rw [Nat.div_lt_iff_lt_mul (Nat.pow_pos zam),Nat.mul_comm,← Nat.pow_succ]
  exact hlt
 have e : 2 ^ (64 * m) = w64 ^ m:=by rw [w64_two,← Nat.pow_mul]
 rw [← hd] at hne ⊢
 have h1:=bitLen_shift X (64 * m) (by rw [e]; exact hne)
 rw [e] at h1
 exact h1
theorem wd_toNat (X i : Nat) : (wd X i).toNat = dg w64 X i:=by unfold wd; omega
theorem bitLen_le64 (X i : Nat) : bitLen (dg w64 X i) ≤ 64:=by
 unfold bitLen
 split
 ·
  omega
 ·
  rename_i h
  have:=(Nat.log2_lt h).2 (show dg w64 X i < 2 ^ 64 from dg_lt zam X i)
  omega
theorem len_calls (X : Nat) (hX : X < top) (w : World) :
  Calls Tryz.prog 186 #[.agg #[vI vU (wd X 0),vI vU (wd X 1),vI vU (wd X 2),vI vU (wd X 3)]] w fun e w' => e = .returned (.int .i64 (bitLen X)) ∧ Below w.heap.size w w':=by
 go_enter Tryz.func186,Tryz.ntmps186
 go_wp2
 go_loopw [3] (fun i wr => ∃ k : Nat,k ≤ 4 ∧ i = .int .i64 ((k : Int) - 1) ∧ (∀ j,k ≤ j → j < 4 → dg w64 X j = 0) ∧ wr.rowIs w.heap.size 58 4 (fun j => .int .u64 (wd X j)) ∧ Below w.heap.size w wr)
  (fun i _ => (intOf i + 1).toNat)
 case atStart => exact ⟨4,by omega,rfl,by intro j h1 h2; omega,zah (n:=4) (by simp) rfl (arr4 fun j => .int .u64 (wd X j)),(Below.refl _ _).alloc (by simp) _⟩
 case round =>
  obtain ⟨k,hk,hi,hall,hR,hbel⟩:=hrel
  have HALL:=veil hall
  clear hall
  cases k with
  | zero =>
   subst hi
   have h1:=high_zero hX HALL.out
   have hX0 : X = 0:=by simpa using h1
   have HX:=veil hX0
   clear hX0 h1
   go_wp2
   go_ret
   rw [show bitLen X = 0 by rw [HX.out]; rfl]
   exact ⟨rfl,hbel⟩
  | succ m =>
   obtain rfl : _ = Value.int .i64 (m : Int):=hi.trans (by congr 1; omega)
   have hm : m < 4:=by omega
   clear hi
   have c1:=hR.cell hm
   have l1:=wd_lo X m
   have u1:=wd_le X m
   by_cases h : dg w64 X m = 0
   ·
    have hz : (wd X m != 0) = false:=by unfold wd; rw [h]; rfl
    go_wp2
    go_roundw
    case rel => exact ⟨m,by omega,rfl,fun j h1 h2 => by
     by_cases e : j = m
     ·
      rw [e]; exact h
     ·
      exact HALL.out j (by omega) h2,hR,hbel⟩
    case measure => simp [intOf]
   ·
    have hz : (wd X m != 0) = true:=by rw [bne_iff_ne]; unfold wd; omega
    have hw:=len_word hX HALL.out h
    have hb:=bitLen_le64 X m
    have ht:=wd_toNat X m
    have HW:=veil hw
    have HT:=veil ht
    clear hw h ht
    go_wp2_with (go_at_call 114; refine (len64_calls _ l1 u1 _).mono ?_; rintro e w' ⟨rfl,rfl⟩)
    rw [HT.out]
    go_wp2
    go_ret
    rw [HW.out]
    exact ⟨zea (by rw [IntWalk.wrap64_in _ (by omega)]; omega),hbel⟩
theorem top_256 : top = 2 ^ 256:=by unfold top; rw [w64_two,← Nat.pow_mul]
theorem rbit_in (X n : Nat) (hn : n < 256) (w : World) :
  Calls Tryz.prog 171 #[.agg #[vI vU (wd X 0),vI vU (wd X 1),vI vU (wd X 2),vI vU (wd X 3)],.int .i64 (n : Int)] w fun e w' => e = .returned (.bool (bit X n)) ∧ Below w.heap.size w w':=by
 have hq : n / 16 < 16:=by omega
 have h0 : ¬ (n : Int) < 0:=by omega
 have h1 : ¬ (255 : Int) < (n : Int):=by omega
 have hB0 : Below w.heap.size w (w.alloc (.cells #[vI vU (wd X 0),vI vU (wd X 1),vI vU (wd X 2),vI vU (wd X 3)] 58)):=(Below.refl _ _).alloc (Nat.le_refl _) _
 go_enter Tryz.func171,Tryz.ntmps171
 go_wp2_with fail
 refine (zgq X _).mono ?_
 rintro e w1 ⟨g1,cap1,rfl,hg1,hp1,hb1⟩
 have hB1:=hB0.trans (hb1.mono (by simp))
 have c1:=hp1.cell hq
 simp only [ptv] at c1
 clear hB0 hb1 hg1 hp1
 go_wp2
 go_loop [5,6] (fun p i => ∃ k : Nat,k ≤ n % 16 ∧ i = .int .i64 k ∧ p = .int .i64 (ph X (n / 16) k)) (fun _ i => n % 16 - (intOf i).toNat)
 case atStart => exact ⟨0,Nat.zero_le _,rfl,by rw [ph_zero]⟩
 case round =>
  obtain ⟨k,hk,rfl,rfl⟩:=hrel
  by_cases hlt : k < n % 16
  ·
   have l1:=ph_lo X (n / 16) k
   have u1 : ph X (n / 16) k ≤ 65535:=by have:=ph_lt X (n / 16) k; omega
   go_wp2
   go_round
   case rel => exact ⟨k + 1,by omega,by go_num,by rw [ph_succ]⟩
   case measure => simp [intOf]; omega
  ·
   have hk' : k = n % 16:=by omega
   have HK:=veil hk'
   clear hk'
   go_wp2
   have l1:=ph_lo X (n / 16) k
   go_ret
   rw [← ph_bit,← HK.out]
   exact ⟨rfl,hB1⟩
theorem bitLen_one {i v : Nat} (h1 : 2 ^ i ≤ v) (h2 : v < 2 ^ (i + 1)) : bitLen v = i + 1:=by
 rw [zcw v i h1]
 have : v / 2 ^ i = 1:=by
  have hp:=Nat.two_pow_pos i
  apply Nat.le_antisymm
  ·
   have:=(Nat.div_lt_iff_lt_mul hp (x:=v) (y:=2)).2 (by rw [Nat.pow_succ] at h2; omega)
   omega
  ·
   exact (Nat.le_div_iff_mul_le hp).2 (by omega)
 rw [this]
 rfl
theorem bitLen_succ (X i : Nat) : bitLen (X % 2 ^ (i + 1)) = if bit X i = true then i + 1 else bitLen (X % 2 ^ i):=by
 have h:=zbq 2 X i
 have hb : bit X i = (dg 2 X i == 1):=rfl
 have hd:=dg_lt (B:=2) (by omega) X i
 have hm:=Nat.mod_lt X (Nat.two_pow_pos i)
 rw [hb,h]
 by_cases e : dg 2 X i = 1
 ·
  rw [e]
  simp only [BEq.rfl,if_true,Nat.mul_one]
  exact bitLen_one (by omega) (by rw [Nat.pow_succ]; omega)
 ·
  have e0 : dg 2 X i = 0:=by omega
  rw [e0]
  simp
def lenK (X i : Nat) : Int:=(bitLen (X % 2 ^ i) : Nat)
theorem lenK_zero (X : Nat) : lenK X 0 = 0:=by simp [lenK,Nat.mod_one,bitLen]
theorem lenK_yes {X i : Nat} (h : bit X i = true) : lenK X (i + 1) = (i : Int) + 1:=by unfold lenK; rw [bitLen_succ,if_pos h]; omega
theorem lenK_no {X i : Nat} (h : bit X i = false) : lenK X (i + 1) = lenK X i:=by unfold lenK; rw [bitLen_succ,h]; rfl
theorem lenK_top {X : Nat} (hX : X < top) : lenK X 256 = (bitLen X : Nat):=by
 rw [top_256] at hX
 unfold lenK
 rw [Nat.mod_eq_of_lt hX]
theorem rlen_calls (X : Nat) (hX : X < top) (w : World) :
  Calls Tryz.prog 170 #[.agg #[vI vU (wd X 0),vI vU (wd X 1),vI vU (wd X 2),vI vU (wd X 3)]] w fun e w' => e = .returned (.int .i64 (bitLen X)) ∧ Below w.heap.size w w':=by
 go_enter Tryz.func170,Tryz.ntmps170
 go_wp2
 go_loopw [3,4] (fun n i wr => ∃ k : Nat,k ≤ 256 ∧ i = .int .i64 k ∧ n = .int .i64 (lenK X k) ∧ wr.rowIs w.heap.size 58 4 (fun j => .int .u64 (wd X j)) ∧ Below w.heap.size w wr)
  (fun _ i _ => 256 - (intOf i).toNat)
 case atStart => exact ⟨0,by omega,rfl,by rw [lenK_zero],zah (n:=4) (by simp) rfl (arr4 fun j => .int .u64 (wd X j)),(Below.refl _ _).alloc (by simp) _⟩
 case round =>
  obtain ⟨k,hk,rfl,rfl,hR,hbel⟩:=hrel
  by_cases hlt : k < 256
  ·
   obtain ⟨c0,c1,c2,c3⟩:=zak hR
   have hle : (k : Int) ≤ 255:=by omega
   have HLT:=veil hlt
   clear hlt hk
   go_wp2_with fail
   refine (rbit_in X k HLT.out _).mono ?_
   rintro e w1 ⟨rfl,hb1⟩
   have hR1:=zaf hR hb1 hR.lt
   have hB1:=hbel.trans (hb1.mono hbel.size)
   clear hR hbel hb1 c0 c1 c2 c3
   cases hb : bit X k with
   | true =>
    go_wp2
    go_roundw
    case rel => exact ⟨k + 1,HLT.out,by go_num,by rw [lenK_yes hb],hR1,hB1⟩
    case measure => simp [intOf]; omega
   | false =>
    go_wp2
    go_roundw
    case rel => exact ⟨k + 1,HLT.out,by go_num,by rw [lenK_no hb],hR1,hB1⟩
    case measure => simp [intOf]; omega
  ·
   obtain rfl : k = 256:=by omega
   go_wp2
   go_ret
   rw [← lenK_top hX]
   exact ⟨rfl,hbel⟩
theorem bl_le {X : Nat} (hX : X < top) : bitLen X ≤ 256:=by
 unfold bitLen
 split
 ·
  omega
 ·
  rename_i h
  have:=(Nat.log2_lt h).2 (show X < 2 ^ 256 by rw [← top_256]; exact hX)
  omega
theorem bl_div (X : Nat) : X / 2 ^ bitLen X = 0:=Nat.div_eq_of_lt (bitLen_spec X).1
theorem zfr (K m : Nat) (q : Pt.Q) : Pt.grp.mul (K / 2 ^ m) q = if bit K m = true then Pt.grp.op (Pt.grp.op (Pt.grp.mul (K / 2 ^ (m + 1)) q) (Pt.grp.mul (K / 2 ^ (m + 1)) q)) q else Pt.grp.op (Pt.grp.mul (K / 2 ^ (m + 1)) q) (Pt.grp.mul (K / 2 ^ (m + 1)) q):=by
 rw [Pt.mul_top]
 have hb : (bit K m = true) = (K / 2 ^ m % 2 = 1):=by unfold bit; simp
 simp only [hb]
def cQ (X Y : Nat) (f : Bool) : List SV:=cN X ++ (cN Y ++ [.v (.bool f)])
def tmT (n : Nat) : List (Nat × SV):=[(2,.p 0 0),(3,.p 1 0),(4,.p 2 0),(5,.p 3 0),(6,.v (.int .i64 ((n : Int) - 1)))]
def tmM (K : Nat) (q p : Pt.Q) : List Blk:=[⟨58,cN K⟩,⟨60,cQ (Pt.pX q.1) (Pt.pY q.1) (Pt.pFar q.1)⟩,⟨60,cQ 0 0 false⟩,⟨60,cQ (Pt.pX p.1) (Pt.pY p.1) (Pt.pFar p.1)⟩]
section
variable {w0 : World} {Post : Value → World → Prop} {J : World → Prop}
def tmNext (K n : Nat) (q p : Pt.Q) (h : n ≤ 256) (h0 : ¬ n = 0) (hp : Pt.grp.mul (K / 2 ^ (n - 1)) q = p) : OT Tryz.prog w0 Post J :=
 .ins 15 (binK .sub 3 (.tmp 14) (.const (.int .i64 1)) (.int .i64 ((n : Int) - 1)) (.int .i64 1)) (.int .i64 (((n - 1 : Nat) : Int) - 1)) (fun _ _ => zjn (by omega) (by omega) (by omega)) <|
 .nextG (tmT (n - 1)) (tmM K q p) (∃ l,(l ≤ 256 ∧ l < n) ∧ tmT l = tmT (n - 1) ∧ tmM K q (Pt.grp.mul (K / 2 ^ l) q) = tmM K q p) ⟨n - 1,⟨by omega,by omega⟩,rfl,by rw [hp]⟩
end
theorem rtimes_calls (K : Nat) (hKt : K < top) (q : Pt.Q) (w : World) :
  Calls Tryz.prog 127 #[.agg #[vI vU (wd K 0),vI vU (wd K 1),vI vU (wd K 2),vI vU (wd K 3)],.agg #[vI vU (wd (Pt.pX q.1) 0),vI vU (wd (Pt.pX q.1) 1),vI vU (wd (Pt.pX q.1) 2),vI vU (wd (Pt.pX q.1) 3),vI vU (wd (Pt.pY q.1) 0),vI vU (wd (Pt.pY q.1) 1),vI vU (wd (Pt.pY q.1) 2),vI vU (wd (Pt.pY q.1) 3),.bool (Pt.pFar q.1)]] w fun e w' => e = .returned (.agg #[vI vU (wd (Pt.pX (Pt.grp.mul K q).1) 0),vI vU (wd (Pt.pX (Pt.grp.mul K q).1) 1),vI vU (wd (Pt.pX (Pt.grp.mul K q).1) 2),vI vU (wd (Pt.pX (Pt.grp.mul K q).1) 3),vI vU (wd (Pt.pY (Pt.grp.mul K q).1) 0),vI vU (wd (Pt.pY (Pt.grp.mul K q).1) 1),vI vU (wd (Pt.pY (Pt.grp.mul K q).1) 2),vI vU (wd (Pt.pY (Pt.grp.mul K q).1) 3),.bool (Pt.pFar (Pt.grp.mul K q).1)]) ∧ Below w.heap.size w w':=by
 refine way1 Tryz.func127 [.agg #[vI vU (wd K 0),vI vU (wd K 1),vI vU (wd K 2),vI vU (wd K 3)],.agg #[vI vU (wd (Pt.pX q.1) 0),vI vU (wd (Pt.pX q.1) 1),vI vU (wd (Pt.pX q.1) 2),vI vU (wd (Pt.pX q.1) 3),vI vU (wd (Pt.pY q.1) 0),vI vU (wd (Pt.pY q.1) 1),vI vU (wd (Pt.pY q.1) 2),vI vU (wd (Pt.pY q.1) 3),.bool (Pt.pFar q.1)]] (.call _ _ _ (fun W _ => rlen_calls K hKt W) <|
  .ins 11 (binK .sub 3 (.tmp 10) (.const (.int .i64 1)) (.int .i64 (bitLen K : Int)) (.int .i64 1)) (.int .i64 ((bitLen K : Int) - 1)) (fun _ _ => by have:=bl_le hKt; exact zjn rfl (by omega) (by omega)) <|
  .loopG tmT (fun n => tmM K q (Pt.grp.mul (K / 2 ^ n) q)) (fun n => n) (fun n => n ≤ 256) (bitLen K) (bl_le hKt) (tmT (bitLen K)) (tmM K q ⟨none,trivial⟩) ⟨rfl,by rw [bl_div]; rfl⟩ fun n h =>
  .cases (n = 0)
   (fun h0 => .ins 13 (binK .geq 3 (.tmp 12) (.const (.int .i64 0)) (.int .i64 ((n : Int) - 1)) (.int .i64 0)) (.bool false) (fun W _ => zed (decide_eq_false (by omega)) W) <|
    .ret (.agg #[vI vU (wd (Pt.pX (Pt.grp.mul (K / 2 ^ n) q).1) 0),vI vU (wd (Pt.pX (Pt.grp.mul (K / 2 ^ n) q).1) 1),vI vU (wd (Pt.pX (Pt.grp.mul (K / 2 ^ n) q).1) 2),vI vU (wd (Pt.pX (Pt.grp.mul (K / 2 ^ n) q).1) 3),vI vU (wd (Pt.pY (Pt.grp.mul (K / 2 ^ n) q).1) 0),vI vU (wd (Pt.pY (Pt.grp.mul (K / 2 ^ n) q).1) 1),vI vU (wd (Pt.pY (Pt.grp.mul (K / 2 ^ n) q).1) 2),vI vU (wd (Pt.pY (Pt.grp.mul (K / 2 ^ n) q).1) 3),.bool (Pt.pFar (Pt.grp.mul (K / 2 ^ n) q).1)]) fun _ hW => ⟨by rw [h0,Nat.pow_zero,Nat.div_one],hW⟩)
   (fun h0 => .ins 13 (binK .geq 3 (.tmp 12) (.const (.int .i64 0)) (.int .i64 ((n : Int) - 1)) (.int .i64 0)) (.bool true) (fun W _ => zed (decide_eq_true (by omega)) W) <|
    .call _ _ _ (fun W _ => zgj (Pt.grp.mul (K / 2 ^ n) q) (Pt.grp.mul (K / 2 ^ n) q) W) <|
    .cases (bit K (n - 1) = true)
     (fun hb => .call _ #[.agg #[vI vU (wd K 0),vI vU (wd K 1),vI vU (wd K 2),vI vU (wd K 3)],.int .i64 ((n : Int) - 1)] (.bool true) (fun W _ => by have k:=rbit_in K (n - 1) (by omega) W; rw [hb,show ((n - 1 : Nat) : Int) = (n : Int) - 1 by omega] at k; exact k) <|
      .call _ _ _ (fun W _ => zgj (Pt.grp.op (Pt.grp.mul (K / 2 ^ n) q) (Pt.grp.mul (K / 2 ^ n) q)) q W) <| tmNext K n q _ h h0 (by rw [zfr,if_pos hb,show n - 1 + 1 = n by omega]))
     (fun hb => .call _ #[.agg #[vI vU (wd K 0),vI vU (wd K 1),vI vU (wd K 2),vI vU (wd K 3)],.int .i64 ((n : Int) - 1)] (.bool false) (fun W _ => by have k:=rbit_in K (n - 1) (by omega) W; rw [Bool.eq_false_iff.2 hb,show ((n - 1 : Nat) : Int) = (n : Int) - 1 by omega] at k; exact k) <|
      tmNext K n q _ h h0 (by rw [zfr,if_neg hb,show n - 1 + 1 = n by omega])))) (by kernel_rfl)
theorem rbase_calls (w : World) : Calls Tryz.prog 130 #[] w fun e w' => e = .returned (.agg #[vI vU (wd (Pt.gx) 0),vI vU (wd (Pt.gx) 1),vI vU (wd (Pt.gx) 2),vI vU (wd (Pt.gx) 3),vI vU (wd (Pt.gy) 0),vI vU (wd (Pt.gy) 1),vI vU (wd (Pt.gy) 2),vI vU (wd (Pt.gy) 3),.bool (false)]) ∧ Below w.heap.size w w' :=
 way1 Tryz.func130 [] (.ret _ fun _ h => ⟨rfl,h⟩) (by kernel_rfl)
theorem gin_small (X M : Nat) (hX : X < M) (hM : M < top) (w : World) :
  Calls Tryz.prog 132 #[.agg #[vI vU (wd X 0),vI vU (wd X 1),vI vU (wd X 2),vI vU (wd X 3)],.agg #[vI vU (wd M 0),vI vU (wd M 1),vI vU (wd M 2),vI vU (wd M 3)]] w fun e w' => e = .returned (.agg #[vI vU (wd X 0),vI vU (wd X 1),vI vU (wd X 2),vI vU (wd X 3)]) ∧ Below w.heap.size w w':=by
 have k:=veil fun W => zew X M true (decide_eq_true hX) (Nat.lt_trans hX hM) hM W
 clear hX hM
 exact way1 Tryz.func132 [.agg #[vI vU (wd X 0),vI vU (wd X 1),vI vU (wd X 2),vI vU (wd X 3)],.agg #[vI vU (wd M 0),vI vU (wd M 1),vI vU (wd M 2),vI vU (wd M 3)]] (.call _ _ _ (fun W _ => k.out W) <| .ret _ fun _ h => ⟨rfl,h⟩) (by kernel_rfl)
def top2 : Nat:=w64 ^ 8
theorem acc_startw (X Y M n : Nat) (h : Y < w64 ^ n) : acc X Y M (64 * n) = 0:=by
 have e : (2 : Nat) ^ 64 = w64:=rfl
 unfold acc; rw [Nat.pow_mul,e,Nat.div_eq_of_lt h]; simp
def cW (n : Nat) : List SV:=cN n ++ [.v (.int .u64 (wd n 4)),.v (.int .u64 (wd n 5)),.v (.int .u64 (wd n 6)),.v (.int .u64 (wd n 7))]
theorem gcut_calls (Z M : Nat) (hZ : Z < top2) (hM1 : 1 < M) (hM : M < top) (w : World) :
  Calls Tryz.prog 173 #[.agg #[vI vU (wd Z 0),vI vU (wd Z 1),vI vU (wd Z 2),vI vU (wd Z 3),vI vU (wd Z 4),vI vU (wd Z 5),vI vU (wd Z 6),vI vU (wd Z 7)],.agg #[vI vU (wd M 0),vI vU (wd M 1),vI vU (wd M 2),vI vU (wd M 3)]] w fun e w' => e = .returned (.agg #[vI vU (wd (Z % M) 0),vI vU (wd (Z % M) 1),vI vU (wd (Z % M) 2),vI vU (wd (Z % M) 3)]) ∧ Below w.heap.size w w' :=
 let T0 (k : Int) : List (Nat × SV):=[(2,.p 0 0),(3,.p 1 0),(4,.p 2 0),(5,.p 3 0),(6,.p 4 0),(7,.v (.int .i64 k))]
 let M0 (V : Nat) : List Blk:=[⟨196,cW Z⟩,⟨58,cN M⟩,⟨58,cZ⟩,⟨58,cN V⟩,⟨58,cN 1⟩]
 way1 Tryz.func173 [.agg #[vI vU (wd Z 0),vI vU (wd Z 1),vI vU (wd Z 2),vI vU (wd Z 3),vI vU (wd Z 4),vI vU (wd Z 5),vI vU (wd Z 6),vI vU (wd Z 7)],.agg #[vI vU (wd M 0),vI vU (wd M 1),vI vU (wd M 2),vI vU (wd M 3)]] (.call _ _ _ (fun W _ => gin_small 1 M hM1 hM W) <| .unroll 9 <| gword 2 8 9 (T0 7) M0 1 Z M 7 hM1 hM 0 (acc_startw 1 Z M 8 hZ).symm fun V h => gword 2 8 9 (T0 6) M0 1 Z M 6 hM1 hM V h fun V h => gword 2 8 9 (T0 5) M0 1 Z M 5 hM1 hM V h fun V h => gword 2 8 9 (T0 4) M0 1 Z M 4 hM1 hM V h fun V h => gword 2 8 9 (T0 3) M0 1 Z M 3 hM1 hM V h fun V h => gword 2 8 9 (T0 2) M0 1 Z M 2 hM1 hM V h fun V h => gword 2 8 9 (T0 1) M0 1 Z M 1 hM1 hM V h fun V h => gword 2 8 9 (T0 0) M0 1 Z M 0 hM1 hM V h fun V h =>
  .ret (.agg #[vI vU (wd V 0),vI vU (wd V 1),vI vU (wd V 2),vI vU (wd V 3)]) fun _ hW => ⟨by rw [h,Nat.mul_zero,acc_end,Nat.one_mul],hW⟩) (by kernel_rfl)
theorem top_le_top2 : top ≤ top2:=by
 show w64 ^ 4 ≤ w64 ^ 8
 exact Nat.pow_le_pow_right zam (by omega)
theorem gcut_num (X M P : Nat) (hP : X % M = P) (hX : X < top) (hM1 : 1 < M) (hM : M < top) (w : World) :
  Calls Tryz.prog 173 #[.agg #[vI vU (wd X 0),vI vU (wd X 1),vI vU (wd X 2),vI vU (wd X 3),vI vU 0,vI vU 0,vI vU 0,vI vU 0],.agg #[vI vU (wd M 0),vI vU (wd M 1),vI vU (wd M 2),vI vU (wd M 3)]] w fun e w' => e = .returned (.agg #[vI vU (wd P 0),vI vU (wd P 1),vI vU (wd P 2),vI vU (wd P 3)]) ∧ Below w.heap.size w w':=by
 subst hP
 obtain ⟨e4,e5,e6,e7⟩:=num_wide X hX
 have h:=gcut_calls X M (Nat.lt_of_lt_of_le hX top_le_top2) hM1 hM w
 rw [e4,e5,e6,e7] at h
 exact h
theorem gin_big (X M P : Nat) (hP : X % M = P) (hX : X < top) (hXM : decide (X < M) = false) (hM1 : 1 < M) (hM : M < top) (w : World) :
  Calls Tryz.prog 132 #[.agg #[vI vU (wd X 0),vI vU (wd X 1),vI vU (wd X 2),vI vU (wd X 3)],.agg #[vI vU (wd M 0),vI vU (wd M 1),vI vU (wd M 2),vI vU (wd M 3)]] w fun e w' => e = .returned (.agg #[vI vU (wd P 0),vI vU (wd P 1),vI vU (wd P 2),vI vU (wd P 3)]) ∧ Below w.heap.size w w':=by
 have k:=veil (And.intro (fun W => zew X M false hXM hX hM W) (fun W => gcut_num X M P hP hX hM1 hM W))
 clear hP hX hXM hM1 hM
 exact way1 Tryz.func132 [.agg #[vI vU (wd X 0),vI vU (wd X 1),vI vU (wd X 2),vI vU (wd X 3)],.agg #[vI vU (wd M 0),vI vU (wd M 1),vI vU (wd M 2),vI vU (wd M 3)]] (.call _ _ _ (fun W _ => k.out.1 W) <| .call _ _ _ (fun W _ => k.out.2 W) <| .ret _ fun _ h => ⟨rfl,h⟩) (by kernel_rfl)
theorem gin_calls (X M : Nat) (hX : X < top) (hM1 : 1 < M) (hM : M < top) (w : World) :
  Calls Tryz.prog 132 #[.agg #[vI vU (wd X 0),vI vU (wd X 1),vI vU (wd X 2),vI vU (wd X 3)],.agg #[vI vU (wd M 0),vI vU (wd M 1),vI vU (wd M 2),vI vU (wd M 3)]] w fun e w' => e = .returned (.agg #[vI vU (wd (X % M) 0),vI vU (wd (X % M) 1),vI vU (wd (X % M) 2),vI vU (wd (X % M) 3)]) ∧ Below w.heap.size w w':=by
 by_cases h : X < M
 ·
  rw [Nat.mod_eq_of_lt h]; exact gin_small X M h hM w
 ·
  exact gin_big X M _ rfl hX (by simpa using h) hM1 hM w
end Go.Proofs.YtbfkecfcolcclaaGreatDoor
namespace Go.Proofs.YtbfkecfcolcclaaGreatDoor.Pt
theorem nn_big : 3 < nn:=by decide +kernel
theorem nn_root : ∃ g : Fin nn,Root g:=by
 obtain ⟨ps,hp,h⟩:=(tab_pr tab [2] two_only tab_ok (0xffffffff00000000ffffffffffffffffbce6faada7179e84f3b9cac2fc632551,7,[2,2,2,2,3,71,131,373,3407,17449,38189,187019741,622491383,1002328039319,2624747550333869278416773953]) (by decide +kernel)).2
 exact ⟨_,(row_root (n:=nn) hp h).2⟩
abbrev Ne:=Fin nn
theorem nn_one : 1 < nn:=by have:=nn_big; omega
section
variable {n : Nat} [NeZero n]
theorem uniq_inv {x y z : Fin n} (h1 : x * y = 1) (h2 : x * z = 1) : y = z:=by
 have e : y = y * (x * z):=by rw [h2,zgs]
 rw [e,← zep,zfj y x,h1,zfi]
theorem F_vlt {a : Nat} (h : a < n) : (F a : Fin n).val = a:=Nat.mod_eq_of_lt h
theorem F_mul_one (hn : 1 < n) {a t : Nat} (h : a * t % n = 1) : (F a : Fin n) * F t = 1:=by
 rw [← F_mul]
 apply Fin.ext
 rw [val_one hn]
 exact h
def gi (x : Fin n) : Fin n:=pf x (n - 2)
theorem gi_mul (hr : ∃ g : Fin n,Root g) (hn : 1 < n) {x : Fin n} (h : x ≠ 0) : x * gi x = 1:=by
 obtain ⟨g,hg⟩:=hr
 exact zhk hg hn h
theorem gi_of (hr : ∃ g : Fin n,Root g) (hn : 1 < n) {x t : Fin n} (h : x * t = 1) : t = gi x:=by
 have hx : x ≠ 0:=by
  rintro rfl
  have e : (0 : Fin n) * t = 0:=by grobner
  rw [e] at h
  have h2:=congrArg Fin.val h
  rw [Fin.val_zero,val_one hn] at h2
  exact absurd h2 (by decide)
 exact uniq_inv h (gi_mul hr hn hx)
end
section
variable (n : Nat) [NeZero n]
def iG (a : Nat) : Nat:=(gi (F a : Fin n)).val
theorem iG_lt (a : Nat) : iG n a < n:=(gi (F a : Fin n)).isLt
theorem iG_of (hr : ∃ g : Fin n,Root g) (hn : 1 < n) {a t : Nat} (ht : t < n) (h : a * t % n = 1) : t = iG n a:=by
 have e2:=congrArg Fin.val (gi_of hr hn (F_mul_one hn h))
 rw [F_vlt ht] at e2
 exact e2
omit [NeZero n] in
theorem gcd_of (hp : ∀ d,d ∣ n → d = 1 ∨ d = n) {a : Nat} (h0 : a ≠ 0) (h : a < n) : Nat.gcd a n = 1:=by
 rcases hp _ (Nat.gcd_dvd_right a n) with h1 | h1
 ·
  exact h1
 ·
  exfalso
  have h2:=Nat.gcd_dvd_left a n
  rw [h1] at h2
  have h3:=Nat.le_of_dvd (Nat.pos_of_ne_zero h0) h2
  omega
end
theorem gcd_nn {a : Nat} (h0 : a ≠ 0) (h : a < nn) : Nat.gcd a nn = 1:=gcd_of nn nn_pr.2 h0 h
/-! ### multiples -/
/-! ### signatures -/
def rOf (k : Nat) : Nat:=pX (grp.mul k base).1 % nn
def sOf (d e k : Nat) : Nat:=iG nn k * ((e % nn + rOf k * d % nn) % nn) % nn
def inR (x : Nat) : Bool:=decide (x ≠ 0) && decide (x < nn)
theorem inR_iff (x : Nat) : inR x = true ↔ x ≠ 0 ∧ x < nn:=by simp [inR]
def sumOf (q : Q) (e r s : Nat) : Q:=grp.op (grp.mul (e % nn * iG nn s % nn) base) (grp.mul (r * iG nn s % nn) q)
def verB (q : Q) (e r s : Nat) : Bool:=!pFar q.1 && inR r && inR s && !pFar (sumOf q e r s).1 && decide (pX (sumOf q e r s).1 % nn = r)
end Go.Proofs.YtbfkecfcolcclaaGreatDoor.Pt
namespace Go.Proofs.YtbfkecfcolcclaaGreatDoor
open Go.RowKit
open Go.Value renaming int → vI
open Go.IntKind renaming u64 → vU
open Go.Act renaming put → aP
open List renaming setIfInBounds_toArray → lA, set_cons_zero → lZ, set_cons_succ → lS
/-! ### points -/
def pv (q : Pt.Q) : Value:=qv (Pt.pX q.1) (Pt.pY q.1) (Pt.pFar q.1)
theorem base_x : Pt.pX Pt.base.1 = Pt.gx ∧ Pt.pY Pt.base.1 = Pt.gy ∧ Pt.pFar Pt.base.1 = false:=by decide +kernel
theorem rbase_is (w : World) : Calls Tryz.prog 130 #[] w fun e w' => e = .returned (qv Pt.gx Pt.gy false) ∧ Ext w w':=rbase_calls w
theorem rmulq_is {K : Nat} (hK : K < top) {p q : Pt.Q} (hq : q = Pt.grp.mul K p) (w : World) : Calls Tryz.prog 127 #[nv K,qv (Pt.pX p.1) (Pt.pY p.1) (Pt.pFar p.1)] w fun e w' => e = .returned (qv (Pt.pX q.1) (Pt.pY q.1) (Pt.pFar q.1)) ∧ Ext w w':=by
 subst hq; exact rtimes_calls K hK p w
theorem rmulb_is {K : Nat} (hK : K < top) {q : Pt.Q} (hq : q = Pt.grp.mul K Pt.base) (w : World) : Calls Tryz.prog 127 #[nv K,qv Pt.gx Pt.gy false] w fun e w' => e = .returned (qv (Pt.pX q.1) (Pt.pY q.1) (Pt.pFar q.1)) ∧ Ext w w':=by
 have h:=rmulq_is hK hq w
 rwa [base_x.1,base_x.2.1,base_x.2.2] at h
theorem rmulp_is {K X Y : Nat} {f : Bool} (hK : K < top) {p q : Pt.Q} (hp : X = Pt.pX p.1 ∧ Y = Pt.pY p.1 ∧ f = Pt.pFar p.1) (hq : q = Pt.grp.mul K p) (w : World) : Calls Tryz.prog 127 #[nv K,qv X Y f] w fun e w' => e = .returned (qv (Pt.pX q.1) (Pt.pY q.1) (Pt.pFar q.1)) ∧ Ext w w':=by
 obtain ⟨rfl,rfl,rfl⟩:=hp
 exact rmulq_is hK hq w
theorem radd_at {a b c : Pt.Q} {x z : Nat} {f : Bool} (hc : c = Pt.grp.op a b) (hx : x = Pt.pX c.1) (hz : z = Pt.pY c.1) (hf : Pt.pFar c.1 = f) (w : World) : Calls Tryz.prog 131 #[qv (Pt.pX a.1) (Pt.pY a.1) (Pt.pFar a.1),qv (Pt.pX b.1) (Pt.pY b.1) (Pt.pFar b.1)] w fun e w' => e = .returned (qv x z f) ∧ Ext w w':=by
 subst hx hz hf hc; exact zgj a b w
theorem ron_is {X Y : Nat} {f r : Bool} (h : onB X Y f = r) (hX : X < top) (hY : Y < top) (w : World) : Calls Tryz.prog 28 #[qv X Y f] w fun e w' => e = .returned (.bool r) ∧ Ext w w':=by
 subst h; exact ron_calls X Y f hX hY w
theorem rmay_is {X : Nat} {r : Bool} (h : mayB X = r) (hX : X < top) (w : World) : Calls Tryz.prog 124 #[nv X] w fun e w' => e = .returned (.bool r) ∧ Ext w w':=by
 subst h; exact may_calls X hX w
/-! ### numbers modulo n -/
theorem nn_1 : 1 < Pt.nn:=Pt.nn_one
theorem nn_pos : 0 < Pt.nn:=Nat.lt_trans Nat.zero_lt_one nn_1
theorem mod_nn {M X : Nat} (h : M = X % Pt.nn) : M < Pt.nn:=by rw [h]; exact Nat.mod_lt _ nn_pos
theorem mod_top {M X : Nat} (h : M = X % Pt.nn) : M < top:=Nat.lt_trans (mod_nn h) zdh
theorem mul_top {M X Y : Nat} (h : M = X * Y % Pt.nn) : M < top:=mod_top h
theorem inv_nn {t S : Nat} (h : t = Pt.iG Pt.nn S) : t < Pt.nn:=by rw [h]; exact Pt.iG_lt Pt.nn S
theorem zhq {t S : Nat} (h : t = Pt.iG Pt.nn S) : t < top:=Nat.lt_trans (inv_nn h) zdh
theorem may_lt {X : Nat} (h : mayB X = true) : X < Pt.nn:=((Pt.inR_iff X).1 h).2
theorem may_ne {X : Nat} (h : mayB X = true) : X ≠ 0:=((Pt.inR_iff X).1 h).1
theorem rinn_is {X M : Nat} (hM : M = X % Pt.nn) (hX : X < top) (w : World) : Calls Tryz.prog 132 #[nv X,nv Pt.nn] w fun e w' => e = .returned (nv M) ∧ Ext w w':=by
 subst hM; exact gin_calls X Pt.nn hX nn_1 zdh w
theorem rmuln_is {X Y Z : Nat} (hZ : Z = X * Y % Pt.nn) (hX : X < Pt.nn) (hY : Y < top) (w : World) : Calls Tryz.prog 79 #[nv X,nv Y,nv Pt.nn] w fun e w' => e = .returned (nv Z) ∧ Ext w w':=by
 subst hZ; exact gmul_calls X Y Pt.nn hX hY zdh w
theorem rinvn_is {X t : Nat} (h0 : X ≠ 0) (hX : X < Pt.nn) (ht : t = Pt.iG Pt.nn X) (w : World) : Calls Tryz.prog 125 #[nv X,nv Pt.nn] w fun e w' => e = .returned (.tuple #[nv t,.bool true]) ∧ Ext w w':=by
 refine (ginv_calls X Pt.nn hX nn_1 (by decide +kernel) zdh w).mono ?_
 rintro e w' ⟨y,hy,hi,rfl,hb⟩
 have hg:=Pt.gcd_nn h0 hX
 have e1 : y = t:=by rw [ht]; exact Pt.iG_of Pt.nn Pt.nn_root Pt.nn_one hy (hi hg)
 rw [hg,e1]
 exact ⟨rfl,hb⟩
theorem rofd_is {y : Nat → Nat} {X : Nat} (hy : ∀ j,y j < 256) (hX : X = num32 y) {g : Nat} (w : World) (hb : w.heap[g]? = some (.cells (dgc y) 109 (0,0))) : Calls Tryz.prog 122 #[.slice (some ⟨g,0,none⟩) 32 32] w fun e w' => e = .returned (nv X) ∧ Ext w w':=by
 subst hX
 exact rof_some g 0 32 32 y hy (by decide) w (Array.getElem?_eq_some_iff.1 hb).1 (fun j hj => by rw [Nat.zero_add,cell_of_row w g j _ _ _ hb]; exact zck _ hj)
theorem vmul_calls {X Y Z : Nat} (hZ : Z = X * Y % Pt.nn) (hX : X < Pt.nn) (hY : Y < top) (w : World) :
  Calls Tryz.prog 128 #[nv X,nv Y] w fun e w' => e = .returned (nv Z) ∧ Ext w w':=by
 have kZ:=veil hZ
 have kX:=veil hX
 have kY:=veil hY
 clear hY hX hZ
 exact way1 Tryz.func128 [nv X,nv Y] (.call _ _ _ (fun W _ => nn_is W) <|
  .call _ _ _ (fun W _ => rmuln_is kZ.out kX.out kY.out W) <|
  .ret _ fun _ h => ⟨rfl,h⟩) (by kernel_rfl)
theorem vnum_calls (y : Nat → Nat) (hy : ∀ j,y j < 256) {X M : Nat} (hX : X = num32 y) (hM : M = X % Pt.nn) (w : World) :
  Calls Tryz.prog 129 #[dgv y] w fun e w' => e = .returned (nv M) ∧ Ext w w':=by
 have ky:=veil hy
 have kX:=veil hX
 have kM:=veil hM
 clear hM hX hy
 unfold nv nc dgv dgc
 go_enter Tryz.func129,Tryz.ntmps129
 go_upto_region 1 with (fail)
 refine wp_via2 fun w1 hx b0 b1 => ?_
 have b0 : w1.heap[w.heap.size]? = some (.cells (dgc y) 109 (0,0)):=b0
 refine' zja (m:=4) (A:=_) (by kernel_rfl) ?h1 ?h2
 case h1 =>
  refine zad (.slice (some ⟨w.heap.size,0,none⟩) 32 32) rfl (made_slice rfl rfl (sliceD _ ·)) ?_
  refine zad (nv X) rfl (zbc (args:=[.slice (some ⟨w.heap.size,0,none⟩) 32 32]) rfl rfl (fun W => zai Tryz.func122 rfl rfl _ W) (fun W hW => rofd_is ky.out kX.out W (hW.block b0))) ?_;simp only [aP,lA,lZ,lS]
  refine zad (nv Pt.nn) rfl (zbc (args:=[]) rfl rfl (fun W => zai Tryz.func126 rfl rfl _ W) (fun W hW => nn_is W)) ?_
  refine zad (nv M) rfl (zbc (args:=[nv X,nv Pt.nn]) rfl rfl (fun W => zai Tryz.func132 rfl rfl _ W) (fun W hW => rinn_is kM.out (by rw [kX.out]; exact num32_lt ky.out) W)) ?_;simp only [aP,lA,lZ,lS]
  exact zdx
 refine prest_store _ rfl rfl rfl rfl rfl rfl b1 (iN _) rfl (nc_one _) ?_
 intro w2 hB hb
 go_wp2
 exact bodyPost_ret (results_cell_row rfl _ _ (w.heap.size + 1) 58 (nc M) (0,0) _ rfl hb Tryz.underlying58 rfl (by kernel_rfl)) rfl ⟨rfl,hx.new hB (by omega)⟩
def V3 (w W : World) (X Y : Nat) (f : Bool) (y : Nat → Nat) (R S : Nat) : Prop :=
 Ext w W ∧ W.heap[w.heap.size]? = some (.cells (qc X Y f) 60 (0,0)) ∧ W.heap[w.heap.size + 1]? = some (.cells (dgc y) 109 (0,0)) ∧ W.heap[w.heap.size + 1 + 1]? = some (.cells (gc R S) 69 (0,0))
section
variable {w W W' : World} {X Y R S : Nat} {f : Bool} {y : Nat → Nat}
theorem V3.ext (h : V3 w W X Y f y R S) (k : Ext W W') : V3 w W' X Y f y R S:=⟨h.1.trans k,k.block h.2.1,k.block h.2.2.1,k.block h.2.2.2⟩
theorem V3.r (h : V3 w W X Y f y R S) : W.rangeAt (w.heap.size + 1 + 1) 0 (nc R).toList:=fun j v hv => by
 rw [Nat.zero_add,cell_of_row W _ j _ _ _ h.2.2.2]
 match j,hv with
 | 0,hv => exact hv
 | 1,hv => exact hv
 | 2,hv => exact hv
 | 3,hv => exact hv
theorem V3.s (h : V3 w W X Y f y R S) : W.rangeAt (w.heap.size + 1 + 1) 4 (nc S).toList:=fun j v hv => by
 rw [cell_of_row W _ (4 + j) _ _ _ h.2.2.2]
 match j,hv with
 | 0,hv => exact hv
 | 1,hv => exact hv
 | 2,hv => exact hv
 | 3,hv => exact hv
theorem V3.far (h : V3 w W X Y f y R S) : W.cell? ⟨w.heap.size,8,none⟩ = some (.bool f):=by rw [cell_of_row W _ 8 _ _ _ h.2.1]; rfl
end
theorem ver_bad {X Y R S : Nat} {f o a b : Bool} (hX : X < top) (hY : Y < top) (hR : R < top) (hS : S < top) (hon : onB X Y f = o) (hr : mayB R = a) (hs : mayB S = b) (hbad : (o && !f && a && b) = false) (y : Nat → Nat) (w : World) :
  Calls Tryz.prog 86 #[qv X Y f,dgv y,gv R S] w fun e w' => e = .returned (.bool false) ∧ Ext w w':=by
 have KO:=veil (fun W => show Calls Tryz.prog 28 #[.agg (qc X Y f)] W (fun e w' => e = .returned (.bool o) ∧ Ext W w') from ron_is hon hX hY W)
 have KR:=veil (fun W => show Calls Tryz.prog 124 #[.agg (nc R)] W (fun e w' => e = .returned (.bool a) ∧ Ext W w') from rmay_is hr hR W)
 have KS:=veil (fun W => show Calls Tryz.prog 124 #[.agg (nc S)] W (fun e w' => e = .returned (.bool b) ∧ Ext W w') from rmay_is hs hS W)
 clear hX hY hR hS hon hr hs
 show Calls _ _ #[.agg (qc X Y f),.agg (dgc y),.agg (gc R S)] w _
 go_enter Tryz.func86,Tryz.ntmps86
 go_upto_region 1 with (fail)
 have H1 : Hid (V3 w (((w.alloc (.cells (qc X Y f) 60)).alloc (.cells (dgc y) 109)).alloc (.cells (gc R S) 69)) X Y f y R S):=veil (blocks3 w _ _ _)
 generalize ((w.alloc (.cells (qc X Y f) 60)).alloc (.cells (dgc y) 109)).alloc (.cells (gc R S) 69) = w1 at *
 go_upto_region 2 with (first
  | ((with_reducible refine zaa 15 ?_); refine wpList_load_row rfl 60 _ rfl w.heap.size rfl 60 (qc X Y f) (0,0) _ H1.out.2.1 Tryz.underlying60 rfl (iT X Y f) ?_)
  | (go_at_call 28; refine (KO.out _).mono ?_; rintro e w2 ⟨rfl,hE⟩))
 have H2:=veil (H1.out.ext hE)
 clear hE H1 KO
 go_upto_region 3 with (first
  | ((with_reducible refine zaa 18 ?_); refine wpList_load_mid rfl 58 _ rfl (w.heap.size + 1 + 1) 0 rfl _ _ H2.out.r uN rfl (iN R) ?_)
  | (go_at_call 124; refine (KR.out _).mono ?_; rintro e w3 ⟨rfl,hE⟩))
 have H3:=veil (H2.out.ext hE)
 clear hE H2 KR
 go_upto_region 4 with (first
  | ((with_reducible refine zaa 21 ?_); refine wpList_load_mid rfl 58 _ rfl (w.heap.size + 1 + 1) 4 rfl _ _ H3.out.s uN rfl (iN S) ?_)
  | (go_at_call 124; refine (KS.out _).mono ?_; rintro e w4 ⟨rfl,hE⟩))
 have H4:=veil (H3.out.ext hE)
 clear hE H3 KS
 have cf:=H4.out.far
 cases o <;> cases f <;> cases a <;> cases b <;> first
  | exact absurd hbad (by decide)
  | (clear hbad; go_wp2; go_ret; exact ⟨rfl,H4.out.1⟩)
theorem ver_good (y : Nat → Nat) {p a b c : Pt.Q} {X Y R S t M u v m : Nat} {ff : Bool} (hX : X < top) (hY : Y < top) (hon : onB X Y false = true) (hr : mayB R = true) (hs : mayB S = true) (hp : X = Pt.pX p.1 ∧ Y = Pt.pY p.1 ∧ false = Pt.pFar p.1) (hy : ∀ j,y j < 256) (hM : M = num32 y % Pt.nn) (ht : t = Pt.iG Pt.nn S) (hu : u = M * t % Pt.nn) (hv : v = R * t % Pt.nn) (ha : a = Pt.grp.mul u Pt.base) (hb : b = Pt.grp.mul v p) (hc : c = Pt.grp.op a b) (hfar : Pt.pFar c.1 = ff) (hm : m = Pt.pX c.1 % Pt.nn) {w : World} :
  Calls Tryz.prog 86 #[qv X Y false,dgv y,gv R S] w fun e w' => e = .returned (.bool (!ff && decide (m = R))) ∧ Ext w w':=by
 obtain ⟨x,hx0⟩ : ∃ x,x = Pt.pX c.1:=⟨_,rfl⟩
 obtain ⟨z,hz0⟩ : ∃ z,z = Pt.pY c.1:=⟨_,rfl⟩
 have kadd:=veil (fun W => radd_at (x:=x) (z:=z) hc hx0 hz0 hfar W)
 have km:=veil (show m = x % Pt.nn ∧ x < top from ⟨by rw [hx0]; exact hm,by rw [hx0]; exact (p_top _).1⟩)
 have kR:=veil (Nat.lt_trans (may_lt hr) zdh)
 have kS:=veil (Nat.lt_trans (may_lt hs) zdh)
 have KO:=veil (fun W => show Calls Tryz.prog 28 #[.agg (qc X Y false)] W (fun e w' => e = .returned (.bool true) ∧ Ext W w') from ron_is hon hX hY W)
 have KR:=veil (fun W => show Calls Tryz.prog 124 #[.agg (nc R)] W (fun e w' => e = .returned (.bool true) ∧ Ext W w') from rmay_is hr kR.out W)
 have KS:=veil (fun W => show Calls Tryz.prog 124 #[.agg (nc S)] W (fun e w' => e = .returned (.bool true) ∧ Ext W w') from rmay_is hs kS.out W)
 have kr:=veil hr
 have ks:=veil hs
 have kp:=veil hp
 have ky:=veil hy
 have kM:=veil hM
 have kt:=veil ht
 have ku:=veil hu
 have kv:=veil hv
 have ka:=veil ha
 have kb:=veil hb
 clear hb ha hv hu ht hM hy hp hs hr hon hY hX
 clear hc hfar hm hx0 hz0
 show Calls _ _ #[.agg (qc X Y false),.agg (dgc y),.agg (gc R S)] w _
 go_enter Tryz.func86,Tryz.ntmps86
 go_upto_region 1 with (fail)
 have H1 : Hid (V3 w (((w.alloc (.cells (qc X Y false) 60)).alloc (.cells (dgc y) 109)).alloc (.cells (gc R S) 69)) X Y false y R S):=veil (blocks3 w _ _ _)
 generalize ((w.alloc (.cells (qc X Y false) 60)).alloc (.cells (dgc y) 109)).alloc (.cells (gc R S) 69) = w1 at *
 go_upto_region 2 with (first
  | ((with_reducible refine zaa 15 ?_); refine wpList_load_row rfl 60 _ rfl w.heap.size rfl 60 (qc X Y false) (0,0) _ H1.out.2.1 Tryz.underlying60 rfl (iT X Y false) ?_)
  | (go_at_call 28; refine (KO.out _).mono ?_; rintro e w2 ⟨rfl,hE⟩))
 have H2:=veil (H1.out.ext hE)
 clear hE H1 KO
 go_upto_region 3 with (first
  | ((with_reducible refine zaa 18 ?_); refine wpList_load_mid rfl 58 _ rfl (w.heap.size + 1 + 1) 0 rfl _ _ H2.out.r uN rfl (iN R) ?_)
  | (go_at_call 124; refine (KR.out _).mono ?_; rintro e w3 ⟨rfl,hE⟩))
 have H3:=veil (H2.out.ext hE)
 clear hE H2 KR
 go_upto_region 4 with (first
  | ((with_reducible refine zaa 21 ?_); refine wpList_load_mid rfl 58 _ rfl (w.heap.size + 1 + 1) 4 rfl _ _ H3.out.s uN rfl (iN S) ?_)
  | (go_at_call 124; refine (KS.out _).mono ?_; rintro e w4 ⟨rfl,hE⟩))
 have H4:=veil (H3.out.ext hE)
 clear hE H3 KS
 have cf:=H4.out.far
 go_upto_region 6 with (fail)
 clear cf
 obtain ⟨hx,b0,b1,b2⟩:=H4.out
 clear H4
 refine' wp_made (m:=6) (A:=_) 8 (by kernel_rfl) (by kernel_rfl) (by kernel_rfl) ?h1 ?h2
 case h1 =>
  refine zad (.pointer (some ⟨w.heap.size + 1 + 1,4,none⟩)) rfl (zdi rfl rfl (fldG1 _ ·)) ?_
  refine zad (nv S) rfl (zaz rfl rfl b2 rfl uN rfl (iN _)) ?_;simp only [aP,lA,lZ,lS]
  refine zad (nv Pt.nn) rfl (zbc (args:=[]) rfl rfl (fun W => zai Tryz.func126 rfl rfl _ W) (fun W hW => nn_is W)) ?_
  refine zad (.tuple #[nv t,.bool true]) rfl (zbc (args:=[nv S,nv Pt.nn]) rfl rfl (fun W => zai Tryz.func125 rfl rfl _ W) (fun W hW => rinvn_is (may_ne ks.out) (may_lt ks.out) kt.out W)) ?_;simp only [aP,lA,lZ,lS]
  refine zad (.tuple #[nv t,.bool true]) rfl (zbm (.inl rfl) rfl) ?_
  refine zad (nv t) rfl (made_ext rfl rfl rfl) ?_;simp only [aP,lA,lZ,lS]
  exact zdx
 refine rest_var2 (v:=.bool true) (vx:=.bool true) _ _ _ _ rfl rfl rfl rfl rfl rfl rfl rfl rfl rfl rfl rfl rfl rfl rfl rfl (by decide) (by kernel_rfl) (by kernel_rfl) (by kernel_rfl) (by kernel_rfl) (by kernel_rfl) (by kernel_rfl) (by kernel_rfl) rfl rfl rfl rfl rfl rfl (hzN ·) (run_ext rfl rfl rfl) (fun _ => run_ext rfl rfl rfl) (fun _ => rfl) (fun _ => rfl) (fun _ => rfl) (fun _ => rfl) (fun _ => rfl) (iN _) rfl (nc_one _) ?_
 intro gt w6 hgt bt hE
 refine NoPanic.normal ?_
 replace b0:=hE.block b0
 replace b1:=hE.block b1
 replace b2:=hE.block b2
 replace hx:=hx.trans hE
 clear hE
 simp only [aP,lA,lZ,lS]
 clear hgt
 go_upto_region 7 with (fail)
 refine' wp_made (m:=6) (A:=_) 7 (by kernel_rfl) (by kernel_rfl) (by kernel_rfl) ?h2a ?h2b
 case h2a =>
  refine zad (dgv y) rfl (zaz rfl rfl b1 rfl Tryz.underlying109 rfl (iDg _)) ?_
  refine zad (nv M) rfl (zbc (args:=[dgv y]) rfl rfl (fun W => zai Tryz.func129 rfl rfl _ W) (fun W hW => vnum_calls y ky.out rfl kM.out W)) ?_;simp only [aP,lA,lZ,lS]
  refine zad (nv t) rfl (zaz rfl rfl bt rfl uN rfl (iN _)) ?_
  refine zad (nv u) rfl (zbc (args:=[nv M,nv t]) rfl rfl (fun W => zai Tryz.func128 rfl rfl _ W) (fun W hW => vmul_calls ku.out (mod_nn kM.out) (zhq kt.out) W)) ?_;simp only [aP,lA,lZ,lS]
  refine zad (qv Pt.gx Pt.gy false) rfl (zbc (args:=[]) rfl rfl (fun W => zai Tryz.func130 rfl rfl _ W) (fun W hW => rbase_is W)) ?_
  refine zad (qv (Pt.pX a.1) (Pt.pY a.1) (Pt.pFar a.1)) rfl (zbc (args:=[nv u,qv Pt.gx Pt.gy false]) rfl rfl (fun W => zai Tryz.func127 rfl rfl _ W) (fun W hW => rmulb_is (mul_top ku.out) ka.out W)) ?_;simp only [aP,lA,lZ,lS]
  exact zdx
 refine rest_var _ _ rfl rfl rfl rfl rfl rfl rfl rfl rfl (by kernel_rfl) (by kernel_rfl) (by kernel_rfl) rfl rfl (hzT ·) (fun _ => rfl) (fun _ => rfl) (iT _ _ _) rfl (zgm _ _ _) ?_
 intro ga w7 hga ba hE
 refine NoPanic.normal ?_
 replace b0:=hE.block b0
 replace b2:=hE.block b2
 replace bt:=hE.block bt
 replace hx:=hx.trans hE
 clear hE
 simp only [aP,lA,lZ,lS]
 clear hga
 go_upto_region 8 with (fail)
 refine' wp_made (m:=6) (A:=_) 7 (by kernel_rfl) (by kernel_rfl) (by kernel_rfl) ?h3a ?h3b
 case h3a =>
  refine zad (ptrTo (w.heap.size + 1 + 1)) rfl (zdi rfl rfl (fldG0 _ ·)) ?_
  refine zad (nv R) rfl (zaz rfl rfl b2 rfl uN rfl (iN _)) ?_;simp only [aP,lA,lZ,lS]
  refine zad (nv t) rfl (zaz rfl rfl bt rfl uN rfl (iN _)) ?_
  refine zad (nv v) rfl (zbc (args:=[nv R,nv t]) rfl rfl (fun W => zai Tryz.func128 rfl rfl _ W) (fun W hW => vmul_calls kv.out (may_lt kr.out) (zhq kt.out) W)) ?_;simp only [aP,lA,lZ,lS]
  refine zad (qv X Y false) rfl (zaz rfl rfl b0 rfl Tryz.underlying60 rfl (iT _ _ _)) ?_
  refine zad (qv (Pt.pX b.1) (Pt.pY b.1) (Pt.pFar b.1)) rfl (zbc (args:=[nv v,qv X Y false]) rfl rfl (fun W => zai Tryz.func127 rfl rfl _ W) (fun W hW => rmulp_is (mul_top kv.out) kp.out kb.out W)) ?_;simp only [aP,lA,lZ,lS]
  exact zdx
 refine rest_var _ _ rfl rfl rfl rfl rfl rfl rfl rfl rfl (by kernel_rfl) (by kernel_rfl) (by kernel_rfl) rfl rfl (hzT ·) (fun _ => rfl) (fun _ => rfl) (iT _ _ _) rfl (zgm _ _ _) ?_
 intro gb w8 hgb bb hE
 refine NoPanic.normal ?_
 replace b2:=hE.block b2
 replace ba:=hE.block ba
 replace hx:=hx.trans hE
 clear hE
 simp only [aP,lA,lZ,lS]
 clear hgb
 go_upto_region 9 with (fail)
 refine' zja (m:=3) (A:=_) (by kernel_rfl) ?h4a ?h4b
 case h4a =>
  refine zad (qv (Pt.pX a.1) (Pt.pY a.1) (Pt.pFar a.1)) rfl (zaz rfl rfl ba rfl Tryz.underlying60 rfl (iT _ _ _)) ?_
  refine zad (qv (Pt.pX b.1) (Pt.pY b.1) (Pt.pFar b.1)) rfl (zaz rfl rfl bb rfl Tryz.underlying60 rfl (iT _ _ _)) ?_;simp only [aP,lA,lZ,lS]
  refine zad (qv x z ff) rfl (zbc (args:=[qv (Pt.pX a.1) (Pt.pY a.1) (Pt.pFar a.1),qv (Pt.pX b.1) (Pt.pY b.1) (Pt.pFar b.1)]) rfl rfl (fun W => zai Tryz.func131 rfl rfl _ W) (fun W hW => kadd.out W)) ?_;simp only [aP,lA,lZ,lS]
  exact zdx
 refine prest_var _ _ rfl rfl rfl rfl rfl rfl rfl (hzT ·) (fun _ => rfl) (fun _ => rfl) (iT _ _ _) rfl (zgm _ _ _) ?_
 intro gc w9 hgc bc hE
 replace b2:=hE.block b2
 replace hx:=hx.trans hE
 clear hE
 simp only [aP,lA,lZ,lS]
 clear hgc
 cases ff with
 | true =>
  go_upto_region 10 with (fail)
  refine' zgf (m:=13) (A:=_) 13 (by kernel_rfl) (by kernel_rfl) ?h5a ?h5b
  case h5a =>
   refine zad (.pointer (some ⟨gc,8,none⟩)) rfl (zdi rfl rfl (fldT2 _ ·)) ?_
   refine zad (.bool true) rfl (zii rfl rfl bc rfl (isn_bool ·)) ?_;simp only [aP,lA,lZ,lS]
   refine zad (.bool false) rfl (made_not' rfl rfl rfl) ?_
   refine zad (.bool false) rfl (zbm (.inl rfl) rfl) ?_;simp only [aP,lA,lZ,lS]
   refine zda rfl ?_
   refine zda rfl ?_;simp only [aP,lA,lZ,lS]
   refine zda rfl ?_
   refine zda rfl ?_;simp only [aP,lA,lZ,lS]
   refine zda rfl ?_
   refine zda rfl ?_;simp only [aP,lA,lZ,lS]
   refine zda rfl ?_
   refine zad (.bool false) rfl (zfm rfl rfl rfl) ?_;simp only [aP,lA,lZ,lS]
   refine zad (.bool false) rfl (zbm (.inr rfl) rfl) ?_;simp only [aP,lA,lZ,lS]
   exact zdx
  refine zfg rfl (by kernel_rfl) ?_
  intro w10 hE
  refine NoPanic.normal ?_
  replace b2:=hE.block b2
  replace bc:=hE.block bc
  replace hx:=hx.trans hE
  clear hE
  go_wp2
  go_ret
  exact ⟨rfl,hx⟩
 | false =>
  go_upto_region 10 with (fail)
  refine' zgf (m:=13) (A:=_) 13 (by kernel_rfl) (by kernel_rfl) ?h6a ?h6b
  case h6a =>
   refine zad (.pointer (some ⟨gc,8,none⟩)) rfl (zdi rfl rfl (fldT2 _ ·)) ?_
   refine zad (.bool false) rfl (zii rfl rfl bc rfl (isn_bool ·)) ?_;simp only [aP,lA,lZ,lS]
   refine zad (.bool true) rfl (made_not' rfl rfl rfl) ?_
   refine zad (.bool true) rfl (zbm (.inl rfl) rfl) ?_;simp only [aP,lA,lZ,lS]
   refine zbw (ptrTo gc) rfl (zdi rfl rfl (fldT0 _ ·)) ?_
   refine zbw (nv x) rfl (zaz rfl rfl bc rfl uN rfl (iN _)) ?_;simp only [aP,lA,lZ,lS]
   refine zbw (nv Pt.nn) rfl (zbc (args:=[]) rfl rfl (fun W => zai Tryz.func126 rfl rfl _ W) (fun W hW => nn_is W)) ?_
   refine zbw (nv m) rfl (zbc (args:=[nv x,nv Pt.nn]) rfl rfl (fun W => zai Tryz.func132 rfl rfl _ W) (fun W hW => rinn_is km.out.1 km.out.2 W)) ?_;simp only [aP,lA,lZ,lS]
   refine zbw (ptrTo (w.heap.size + 1 + 1)) rfl (zdi rfl rfl (fldG0 _ ·)) ?_
   refine zbw (nv R) rfl (zaz rfl rfl b2 rfl uN rfl (iN _)) ?_;simp only [aP,lA,lZ,lS]
   refine zbw (.bool (decide (m = R))) rfl (made_eqn rfl rfl rfl (mod_top km.out.1) kR.out) ?_
   refine zad (.bool (decide (m = R))) rfl (zfm rfl rfl rfl) ?_;simp only [aP,lA,lZ,lS]
   refine zad (.bool (decide (m = R))) rfl (zbm (.inr rfl) rfl) ?_;simp only [aP,lA,lZ,lS]
   exact zdx
  refine zfg rfl (by kernel_rfl) ?_
  intro w10 hE
  refine NoPanic.normal ?_
  replace hx:=hx.trans hE
  clear hE
  go_wp2
  go_ret
  exact ⟨rfl,hx⟩
theorem inR_may (X : Nat) : Pt.inR X = mayB X:=rfl
theorem ver_no {X Y R S : Nat} {f : Bool} (hX : X < top) (hY : Y < top) (hR : R < top) (hS : S < top) (h : onB X Y f = false) (y : Nat → Nat) (w : World) :
  Calls Tryz.prog 86 #[qv X Y f,dgv y,gv R S] w fun e w' => e = .returned (.bool false) ∧ Ext w w':=ver_bad hX hY hR hS h rfl rfl rfl y w
theorem ver_yes (p : Pt.Q) {R S : Nat} (hR : R < top) (hS : S < top) (y : Nat → Nat) (hy : ∀ j,y j < 256) (w : World) :
  Calls Tryz.prog 86 #[pv p,dgv y,gv R S] w fun e w' => e = .returned (.bool (Pt.verB p (num32 y) R S)) ∧ Ext w w':=by
 have hon:=onB_of p
 have hX:=(p_top p.1).1
 have hY:=(p_top p.1).2
 unfold pv Pt.verB
 rw [inR_may,inR_may]
 cases hh : (!Pt.pFar p.1 && mayB R && mayB S) with
 | false =>
  exact ver_bad hX hY hR hS hon rfl rfl (by rw [Bool.true_and]; exact hh) y w
 | true =>
  simp only [Bool.and_eq_true] at hh
  have hf : Pt.pFar p.1 = false:=by simpa using hh.1.1
  rw [hf] at hon ⊢
  rw [Bool.true_and]
  exact ver_good (c:=Pt.sumOf p (num32 y) R S) y hX hY hon hh.1.2 hh.2 ⟨rfl,rfl,hf.symm⟩ hy rfl rfl rfl rfl rfl rfl rfl rfl rfl
def pick (D E : Nat) : List Nat → Option (Nat × Nat)
 | [] => none
 | k :: l => if (mayB (Pt.rOf k) && mayB (Pt.sOf D E k)) = true then some (Pt.rOf k,Pt.sOf D E k) else pick D E l
end Go.Proofs.YtbfkecfcolcclaaGreatDoor
namespace Go.Proofs.YtbfkecfcolcclaaGreatDoor
def top8 : Nat:=w64 ^ 8
theorem zjg : top8 = top * top:=by unfold top8 top; rw [← Nat.pow_add]
theorem zjd : w64 = 18446744073709551616:=rfl
theorem div_succ' (B n i : Nat) : n / B ^ (i + 1) = n / B ^ i / B:=by rw [Nat.pow_succ,Nat.div_div_eq_div_mul]
theorem setw {B : Nat} (hB : 0 < B) (Z k n v : Nat) (hk : k < n) (hZ : Z < B ^ n) (hv : v < B) :
  ∃ Z',Z' < B ^ n ∧ (∀ m,dg B Z' m = if m = k then v else dg B Z m) ∧ Z' + B ^ k * dg B Z k = Z + B ^ k * v:=by
 have hP : 0 < B ^ k:=Nat.pow_pos hB
 have e1 : B ^ k * (Z / B ^ k) + Z % B ^ k = Z:=Nat.div_add_mod _ _
 have e2 : B * (Z / B ^ k / B) + Z / B ^ k % B = Z / B ^ k:=Nat.div_add_mod _ _
 have hr:=Nat.mod_lt Z hP
 have hq : Z / B ^ k / B < B ^ (n - (k + 1)):=by
  rw [← div_succ',Nat.div_lt_iff_lt_mul (Nat.pow_pos hB),← Nat.pow_add,show n - (k + 1) + (k + 1) = n by omega]; exact hZ
 have hn : B ^ n = B ^ k * (B * B ^ (n - (k + 1))):=by
  rw [← Nat.mul_assoc,← Nat.pow_succ,← Nat.pow_add]; congr 1; omega
 have hd : dg B Z k = Z / B ^ k % B:=rfl
 have hdm : ∀ j,dg B Z (k + 1 + j) = Z / B ^ k / B / B ^ j % B:=by
  intro j; unfold dg; rw [Nat.pow_add,← Nat.div_div_eq_div_mul,div_succ']
 have hlo : ∀ j,j < k → dg B Z j = dg B (Z % B ^ k) j:=fun j hj => (zcn Z k j hj).symm
 rw [hd,hn]
 clear hd hn hZ
 generalize Z / B ^ k / B = q at *
 generalize Z / B ^ k % B = d at *
 generalize Z / B ^ k = a at *
 generalize Z % B ^ k = r at *
 have hz : r + B ^ k * (v + B * q) = r + B ^ k * v + B ^ k * (B * q):=by rw [Nat.mul_add,Nat.add_assoc]
 refine ⟨r + B ^ k * (v + B * q),?_,?_,?_⟩
 ·
  have : v + B * q + 1 ≤ B * B ^ (n - (k + 1)):=by
   have : B * (q + 1) ≤ B * B ^ (n - (k + 1)):=Nat.mul_le_mul_left _ hq
   rw [Nat.mul_add] at this; omega
  have:=Nat.mul_le_mul_left (B ^ k) this
  rw [Nat.mul_add] at this; omega
 ·
  have hdiv : (r + B ^ k * (v + B * q)) / B ^ k = v + B * q:=by
   rw [Nat.add_mul_div_left _ _ hP,Nat.div_eq_of_lt hr,Nat.zero_add]
  intro m
  by_cases h : m = k
  ·
   rw [if_pos h,h]
   unfold dg
   rw [hdiv,Nat.add_mul_mod_self_left,Nat.mod_eq_of_lt hv]
  ·
   rw [if_neg h]
   by_cases hlt : m < k
   ·
    rw [← zcn _ k m hlt,Nat.add_mul_mod_self_left,Nat.mod_eq_of_lt hr,hlo m hlt]
   ·
    obtain ⟨j,rfl⟩ : ∃ j,m = k + 1 + j:=⟨m - (k + 1),by omega⟩
    rw [hdm]
    unfold dg
    rw [Nat.pow_add,← Nat.div_div_eq_div_mul,div_succ',hdiv,Nat.add_mul_div_left _ _ hB,Nat.div_eq_of_lt hv,Nat.zero_add]
 ·
  rw [hz,← e1,← e2,Nat.mul_add]
  omega
theorem setwd (Z k : Nat) (v : Int) (hk : k < 8) (hZ : Z < top8) (h0 : 0 ≤ v) (h1 : v ≤ 18446744073709551615) :
  ∃ Z',Z' < top8 ∧ (∀ m,wd Z' m = if m = k then v else wd Z m) ∧ Z' + w64 ^ k * dg w64 Z k = Z + w64 ^ k * v.toNat:=by
 obtain ⟨Z',a,b,c⟩:=setw zam Z k 8 v.toNat hk hZ (by unfold w64; omega)
 refine ⟨Z',a,fun m => ?_,c⟩
 unfold wd
 rw [b m]
 split
 ·
  omega
 ·
  rfl
theorem col_step {B Z Z' Z0 t m c c' x i j M : Nat} (hM : m = dg B M j) (e : Z + c * B ^ (i + j) = Z0 + t * (M % B ^ j) * B ^ i)
  (hx : x + B * c' = t * m + c + dg B Z (i + j)) (hZ : Z' + B ^ (i + j) * dg B Z (i + j) = Z + B ^ (i + j) * x) :
  Z' + c' * B ^ (i + (j + 1)) = Z0 + t * (M % B ^ (j + 1)) * B ^ i:=by
 rw [zbq,← hM,← Nat.add_assoc i j 1,Nat.pow_succ B (i + j)]
 have h1 : t * (M % B ^ j + B ^ j * m) * B ^ i = t * (M % B ^ j) * B ^ i + B ^ (i + j) * (t * m):=by
  rw [Nat.mul_add,Nat.add_mul,Nat.pow_add]
  congr 1
  rw [Nat.mul_left_comm t,Nat.mul_comm (B ^ i),Nat.mul_comm (B ^ j * B ^ i),Nat.mul_comm (B ^ j),Nat.mul_assoc]
 have h2:=congrArg (fun z => B ^ (i + j) * z) hx
 simp only [Nat.mul_add] at h2
 rw [h1]
 have h3 : c' * (B ^ (i + j) * B) = B ^ (i + j) * (B * c'):=by rw [Nat.mul_comm c',Nat.mul_assoc]
 rw [h3]
 rw [Nat.mul_comm c] at e
 generalize B ^ (i + j) * (B * c') = p1 at *
 generalize B ^ (i + j) * (t * m) = p2 at *
 generalize B ^ (i + j) * c = p3 at *
 generalize B ^ (i + j) * dg B Z (i + j) = p4 at *
 generalize B ^ (i + j) * x = p5 at *
 omega
theorem low_dvd {B Z : Nat} {k : Nat} (h : Z % B ^ k = 0) : Z = B ^ k * (Z / B ^ k):=by
 have:=Nat.div_add_mod Z (B ^ k); omega
theorem row_done {B X M Z Z1 Z2 T t c o o' x k : Nat} (hlow : Z % B ^ k = 0) (hT : T < B ^ k) (ht : t < B) (hM : M < B ^ 4) (e : Z + o * B ^ (k + 4) = X + T * M)
  (ht0 : (dg B Z k + t * dg B M 0) % B = 0) (h1 : Z1 + c * B ^ (k + 4) = Z + t * (M % B ^ 4) * B ^ k) (hx : x + B * o' = dg B Z1 (k + 4) + c + o)
  (h2 : Z2 + B ^ (k + 4) * dg B Z1 (k + 4) = Z1 + B ^ (k + 4) * x) :
  Z2 % B ^ (k + 1) = 0 ∧ T + B ^ k * t < B ^ (k + 1) ∧ Z2 + o' * B ^ (k + 1 + 4) = X + (T + B ^ k * t) * M:=by
 have hz:=low_dvd hlow
 rw [Nat.mod_eq_of_lt hM] at h1
 have hp5 : B ^ (k + 1 + 4) = B ^ (k + 4) * B:=by rw [← Nat.pow_succ,show k + 1 + 4 = k + 4 + 1 by omega]
 have hq : B ^ (k + 4) = B ^ (k + 1) * B ^ 3:=by rw [← Nat.pow_add,show k + 1 + 3 = k + 4 by omega]
 have f : Z2 + o' * B ^ (k + 1 + 4) = Z + t * M * B ^ k + o * B ^ (k + 4):=by
  have h3:=congrArg (fun z => B ^ (k + 4) * z) hx
  simp only [Nat.mul_add] at h3
  rw [hp5,Nat.mul_comm o',Nat.mul_assoc (B ^ (k + 4)),Nat.mul_comm o]
  rw [Nat.mul_comm c] at h1
  generalize B ^ (k + 4) * dg B Z1 (k + 4) = p1 at *
  generalize B ^ (k + 4) * x = p2 at *
  generalize B ^ (k + 4) * c = p3 at *
  generalize B ^ (k + 4) * o = p4 at *
  generalize B ^ (k + 4) * (B * o') = p5 at *
  omega
 refine ⟨?_,?_,?_⟩
 ·
  have g : (Z2 + o' * B ^ (k + 1 + 4)) % B ^ (k + 1) = Z2 % B ^ (k + 1):=by
   rw [hp5,hq,Nat.mul_comm o',Nat.mul_assoc,Nat.mul_assoc,Nat.add_mul_mod_self_left]
  rw [← g,f,hq,Nat.mul_comm o,Nat.mul_assoc (B ^ (k + 1)),Nat.add_mul_mod_self_left]
  have hd : (Z / B ^ k + t * M) % B = 0:=by
   have : dg B Z k = Z / B ^ k % B:=rfl
   rw [this] at ht0
   have h0 : dg B M 0 = M % B:=by unfold dg; rw [Nat.pow_zero,Nat.div_one]
   rw [h0,Nat.mod_add_mod,Nat.add_mod,Nat.mul_mod,Nat.mod_mod,← Nat.mul_mod,← Nat.add_mod] at ht0
   exact ht0
  rw [hz,Nat.mul_comm (t * M),← Nat.mul_add,Nat.pow_succ,Nat.mul_mod_mul_left,hd,Nat.mul_zero]
 ·
  rw [Nat.pow_succ]
  have : B ^ k * (t + 1) ≤ B ^ k * B:=Nat.mul_le_mul_left _ ht
  rw [Nat.mul_add] at this; omega
 ·
  rw [f,Nat.add_mul,Nat.mul_right_comm t M,Nat.mul_comm (B ^ k) t]
  generalize t * B ^ k * M = p3 at *
  generalize o * B ^ (k + 4) = p1 at *
  generalize T * M = p2 at *
  omega
theorem times_zero {d n m : Int} (h : (18446744073709551616 : Int) ∣ m * n - 1) :
  (d + (-d % 18446744073709551616 * n) % 18446744073709551616 * m) % 18446744073709551616 = 0:=by
 have e1:=Int.emod_add_mul_ediv (-d) 18446744073709551616
 have e2:=Int.emod_add_mul_ediv (-d % 18446744073709551616 * n) 18446744073709551616
 generalize -d % 18446744073709551616 * n / 18446744073709551616 = q2 at *
 generalize -d % 18446744073709551616 * n % 18446744073709551616 = t at *
 generalize -d / 18446744073709551616 = q1 at *
 generalize -d % 18446744073709551616 = s at *
 obtain ⟨c,hc⟩:=h
 apply Int.emod_eq_zero_of_dvd
 refine ⟨-d * c - q1 * n * m - q2 * m,?_⟩
 have et : t = s * n - 18446744073709551616 * q2:=by omega
 have es : s = -d - 18446744073709551616 * q1:=by omega
 have hmn : m * n = 18446744073709551616 * c + 1:=by omega
 rw [et,es]
 have : (-d - 18446744073709551616 * q1) * n * m = (-d - 18446744073709551616 * q1) * (m * n):=by rw [Int.mul_assoc,Int.mul_comm n]
 simp only [Int.sub_mul,Int.mul_sub,Int.neg_mul,Int.mul_assoc] at *
 rw [Int.mul_comm n m,hmn]
 simp only [Int.mul_add,Int.mul_one]
 have e3 : d * (18446744073709551616 * c) = 18446744073709551616 * (d * c):=by rw [Int.mul_left_comm]
 rw [e3]
 have e4 : q1 * (18446744073709551616 * c) = 18446744073709551616 * (q1 * c):=by rw [Int.mul_left_comm]
 rw [e4]
 omega
/-! ### Newton's steps -/
theorem newton {D E m x : Int} (h : D ∣ m * x - 1) (hE : E ∣ D * D) (hW : E ∣ 18446744073709551616) :
  E ∣ m * (x * ((2 - m * x % 18446744073709551616) % 18446744073709551616) % 18446744073709551616) - 1:=by
 obtain ⟨a,ha⟩:=h
 have e1:=Int.emod_add_mul_ediv (m * x) 18446744073709551616
 have e2:=Int.emod_add_mul_ediv (2 - m * x % 18446744073709551616) 18446744073709551616
 have e3:=Int.emod_add_mul_ediv (x * ((2 - m * x % 18446744073709551616) % 18446744073709551616)) 18446744073709551616
 generalize x * ((2 - m * x % 18446744073709551616) % 18446744073709551616) / 18446744073709551616 = q3 at *
 generalize x * ((2 - m * x % 18446744073709551616) % 18446744073709551616) % 18446744073709551616 = t3 at *
 generalize (2 - m * x % 18446744073709551616) / 18446744073709551616 = q2 at *
 generalize (2 - m * x % 18446744073709551616) % 18446744073709551616 = t2 at *
 generalize m * x / 18446744073709551616 = q1 at *
 generalize m * x % 18446744073709551616 = t1 at *
 -- m x = 1 + D a; t2 = 2 - m x + W (q1 - q2); t3 = x t2 - W q3
 have h3 : t3 = x * t2 - 18446744073709551616 * q3:=by omega
 have h2 : t2 = 2 - m * x + 18446744073709551616 * (q1 - q2):=by omega
 have hk : m * t3 - 1 = -(D * D) * (a * a) + 18446744073709551616 * (m * x * (q1 - q2) - m * q3):=by
  rw [h3,h2]
  have hx : m * x = 1 + D * a:=by omega
  rw [Int.mul_sub,← Int.mul_assoc,Int.mul_add,hx,Int.mul_left_comm m,Int.mul_left_comm (1 + D * a) 18446744073709551616]
  have : (1 + D * a) * (2 - (1 + D * a)) = 1 - D * D * (a * a):=by
   rw [show (2 : Int) - (1 + D * a) = 1 - D * a by omega,Int.mul_sub,Int.mul_one,Int.add_mul,Int.one_mul]
   have : D * a * (D * a) = D * D * (a * a):=by rw [Int.mul_assoc,Int.mul_left_comm a,Int.mul_assoc]
   omega
  rw [this,Int.neg_mul,Int.mul_sub]
  omega
 rw [hk]
 exact Int.dvd_add (Int.dvd_trans (Int.dvd_neg.2 hE) (Int.dvd_mul_right _ _)) (Int.dvd_trans hW (Int.dvd_mul_right _ _))
def dv (k : Nat) : Int:=match k with | 0 => 8 | 1 => 64 | 2 => 4096 | 3 => 16777216 | 4 => 281474976710656 | _ => 18446744073709551616
theorem dv_start {m : Int} (h : m % 2 = 1) : dv 0 ∣ m * m - 1:=by
 show (8 : Int) ∣ m * m - 1
 obtain ⟨a,b,ha,hb⟩ : ∃ a b : Int,m = 8 * a + b ∧ (b = 1 ∨ b = 3 ∨ b = 5 ∨ b = 7):=⟨m / 8,m % 8,by omega,by omega⟩
 have : m * m = 8 * (a * (8 * a) + 2 * (a * b)) + b * b:=by
  rw [ha,Int.add_mul,Int.mul_add,Int.mul_add,Int.mul_assoc,Int.mul_assoc,Int.mul_comm b,Int.mul_assoc 8 a b]
  omega
 rw [this]
 rcases hb with rfl | rfl | rfl | rfl <;> omega
theorem dv_step {m x : Int} {k : Nat} (hk : k < 5) (h : dv k ∣ m * x - 1) :
  dv (k + 1) ∣ m * (x * ((2 - m * x % 18446744073709551616) % 18446744073709551616) % 18446744073709551616) - 1:=by
 refine newton h ?_ ?_
 ·
  match k,hk with
  | 0,_ => decide
  | 1,_ => decide
  | 2,_ => decide
  | 3,_ => decide
  | 4,_ => decide
 ·
  match k,hk with
  | 0,_ => decide
  | 1,_ => decide
  | 2,_ => decide
  | 3,_ => decide
  | 4,_ => decide
/-! ### modulo an odd number,2^256 can be taken away -/
theorem top_two : top = 2 ^ 256:=by decide
theorem cop_top {M : Nat} (h : M % 2 = 1) : Nat.Coprime top M:=by
 rw [top_two]
 apply Nat.Coprime.pow_left
 unfold Nat.Coprime
 rw [Nat.gcd_rec,h]; rfl
theorem cut_top {M A B : Nat} (hM : M % 2 = 1) (h : A * top % M = B * top % M) : A % M = B % M:=by
 have hc : Nat.Coprime M top:=(cop_top hM).symm
 have key : ∀ {a b : Nat},a ≤ b → a * top % M = b * top % M → a % M = b % M:=by
  intro a b hab h
  have h1 : M ∣ (b - a) * top:=by
   rw [Nat.sub_mul]
   exact Nat.dvd_of_mod_eq_zero (Nat.sub_mod_eq_zero_of_mod_eq h.symm)
  have h2 : M ∣ b - a:=Nat.Coprime.dvd_of_dvd_mul_right hc h1
  obtain ⟨c,hc2⟩:=h2
  rw [show b = a + M * c by omega,Nat.add_mul_mod_self_left]
 rcases Nat.le_total A B with hab | hab
 ·
  exact key hab h
 ·
  exact (key hab h.symm).symm
theorem shr_sum {X M Z T o : Nat} (hX : X < top8) (hT : T < top) (hM0 : 0 < M) (hlow : Z % top = 0) (e : Z + o * top8 = X + T * M) :
  (Z / top + o * top) * top = X + T * M ∧ Z / top + o * top < top + M ∧ (X < M * top → Z / top + o * top < 2 * M):=by
 have hp:=zbh
 have hz : top * (Z / top) + Z % top = Z:=Nat.div_add_mod _ _
 rw [zjg] at *
 have e2 : (Z / top + o * top) * top = X + T * M:=by
  rw [Nat.add_mul,Nat.mul_assoc,Nat.mul_comm (Z / top)]; omega
 have hTM : T * M < top * M:=Nat.mul_lt_mul_of_pos_right hT hM0
 refine ⟨e2,?_,fun h => ?_⟩
 ·
  apply Nat.lt_of_mul_lt_mul_right (a:=top)
  rw [e2,Nat.add_mul,Nat.mul_comm M]; omega
 ·
  apply Nat.lt_of_mul_lt_mul_right (a:=top)
  rw [e2,Nat.mul_assoc 2,Nat.mul_comm M] at *
  omega
end Go.Proofs.YtbfkecfcolcclaaGreatDoor
namespace Go.Proofs.YtbfkecfcolcclaaGreatDoor
open Go.RowKit
open Go.Value renaming int → vI
open Go.IntKind renaming u64 → vU
open Go.Act renaming put → aP
open List renaming setIfInBounds_toArray → lA, set_cons_zero → lZ, set_cons_succ → lS
def fdf (M : Nat) (N : Int) (Q : Nat) : Nat → Value:=fun j => if j < 4 then .int .u64 (wd M j) else if j = 4 then .int .u64 N else .int .u64 (wd Q (j - 5))
def Fb (w : World) (b M : Nat) (N : Int) (Q : Nat) : Prop:=w.rowIs b 188 9 (fdf M N Q)
structure Fok (M : Nat) (N : Int) (Q : Nat) : Prop where
 m2 : 2 < M
 odd : M % 2 = 1
 mt : M < top
 n0 : 0 ≤ N
 n1 : N ≤ 18446744073709551615
 inv : (18446744073709551616 : Int) ∣ wd M 0 * N - 1
 q : Q = top8 % M
theorem Fok.qm {M : Nat} {N : Int} {Q : Nat} (h : Fok M N Q) : Q < M:=by rw [h.q]; exact Nat.mod_lt _ (by have:=h.m2; omega)
section
variable {w w' : World} {b M Q B : Nat} {N : Int}
theorem Fb.lt (h : Fb w b M N Q) : b < w.heap.size:=World.rowIs.lt h
theorem Fb.below (h : Fb w b M N Q) (hb : Below B w w') (hlt : b < B) : Fb w' b M N Q:=zaf h hb hlt
theorem Fb.call (h : Fb w b M N Q) (hb : Below w.heap.size w w') : Fb w' b M N Q:=zaf h hb h.lt
theorem Fb.drew (h : Fb w b M N Q) : Fb w.drew b M N Q:=h
theorem Fb.alloc (h : Fb w b M N Q) (o : Obj) : Fb (w.alloc o) b M N Q:=World.rowIs.alloc h o
theorem Fb.far {b' i : Nat} (h : Fb w b M N Q) (hne : b ≠ b') (v : Value) : Fb (w.setCell ⟨b',i,none⟩ v) b M N Q:=zaq h hne v
theorem Fb.mod (h : Fb w b M N Q) : w.cell? ⟨b,0,none⟩ = some (vI vU (wd M 0)) ∧ w.cell? ⟨b,1,none⟩ = some (vI vU (wd M 1)) ∧ w.cell? ⟨b,2,none⟩ = some (vI vU (wd M 2)) ∧ w.cell? ⟨b,3,none⟩ = some (vI vU (wd M 3)) :=
 ⟨World.rowIs.cell h (by omega),World.rowIs.cell h (by omega),World.rowIs.cell h (by omega),World.rowIs.cell h (by omega)⟩
theorem Fb.inv (h : Fb w b M N Q) : w.cell? ⟨b,4,none⟩ = some (vI vU N):=World.rowIs.cell h (by omega)
theorem Fb.sq (h : Fb w b M N Q) : w.cell? ⟨b,5,none⟩ = some (vI vU (wd Q 0)) ∧ w.cell? ⟨b,6,none⟩ = some (vI vU (wd Q 1)) ∧ w.cell? ⟨b,7,none⟩ = some (vI vU (wd Q 2)) ∧ w.cell? ⟨b,8,none⟩ = some (vI vU (wd Q 3)) :=
 ⟨World.rowIs.cell h (by omega),World.rowIs.cell h (by omega),World.rowIs.cell h (by omega),World.rowIs.cell h (by omega)⟩
end
theorem wide_num (X : Nat) (h : X < top) : wd X 4 = 0 ∧ wd X 5 = 0 ∧ wd X 6 = 0 ∧ wd X 7 = 0:=by
 have e : ∀ i,4 ≤ i → wd X i = 0:=by
  intro i hi
  unfold wd dg
  rw [Nat.div_eq_of_lt (Nat.lt_of_lt_of_le h (Nat.pow_le_pow_right zam hi))]; rfl
 exact ⟨e 4 (by omega),e 5 (by omega),e 6 (by omega),e 7 (by omega)⟩
theorem wide_calls (X : Nat) (hX : X < top) (w : World) :
  Calls Tryz.prog 206 #[.agg #[vI vU (wd X 0),vI vU (wd X 1),vI vU (wd X 2),vI vU (wd X 3)]] w fun e w' => e = .returned (.agg #[vI vU (wd X 0),vI vU (wd X 1),vI vU (wd X 2),vI vU (wd X 3),vI vU (wd X 4),vI vU (wd X 5),vI vU (wd X 6),vI vU (wd X 7)]) ∧ Below w.heap.size w w':=by
 obtain ⟨e4,e5,e6,e7⟩:=wide_num X hX
 rw [e4,e5,e6,e7]
 have hA0 : ((w.alloc (.cells #[vI vU (wd X 0),vI vU (wd X 1),vI vU (wd X 2),vI vU (wd X 3)] 58)).alloc (.cells #[vI vU 0,vI vU 0,vI vU 0,vI vU 0,vI vU 0,vI vU 0,vI vU 0,vI vU 0] 196)).rowIs w.heap.size 58 4 (fun j => .int .u64 (wd X j)):=(zah (n:=4) (by simp) rfl (arr4 fun j => .int .u64 (wd X j))).alloc _
 have hR0 : ((w.alloc (.cells #[vI vU (wd X 0),vI vU (wd X 1),vI vU (wd X 2),vI vU (wd X 3)] 58)).alloc (.cells #[vI vU 0,vI vU 0,vI vU 0,vI vU 0,vI vU 0,vI vU 0,vI vU 0,vI vU 0] 196)).rowIs (w.heap.size + 1) 196 8 (fun _ => .int .u64 0):=zah (n:=8) (by simp) rfl (arr8 fun _ => .int .u64 0)
 obtain ⟨c0,c1,c2,c3⟩:=zak hA0
 obtain ⟨f0,f1,f2,f3,f4,f5,f6,f7⟩:=row_f8 hR0
 obtain ⟨d0,d1,d2,d3,d4,d5,d6,d7⟩:=row_c8 hR0
 clear e4 e5 e6 e7
 go_enter Tryz.func206,Tryz.ntmps206
 go_wp2
 exact bodyPost_ret (results_cell_row rfl _ _ (w.heap.size + 1) 196 #[vI vU (wd X 0),vI vU (wd X 1),vI vU (wd X 2),vI vU (wd X 3),vI vU 0,vI vU 0,vI vU 0,vI vU 0] (0,0) _ rfl (blk8 (zah (n:=8) (f:=fun j => if j < 4 then Value.int .u64 (wd X j) else .int .u64 0) (by simp) rfl (arr8 fun j => if j < 4 then Value.int .u64 (wd X j) else .int .u64 0))) Tryz.underlying196 rfl (by kernel_rfl)) rfl ⟨rfl,((Below.refl _ _).alloc (by simp) _).alloc (by simp) _⟩
theorem inverse_calls (m : Int) (h0 : 0 ≤ m) (h1 : m ≤ 18446744073709551615) (hodd : m % 2 = 1) (w : World) :
  Calls Tryz.prog 181 #[vI vU m] w fun e w' => ∃ n : Int,0 ≤ n ∧ n ≤ 18446744073709551615 ∧ (18446744073709551616 : Int) ∣ m * n - 1 ∧ e = .returned (.int .u64 n) ∧ w' = w:=by
 have hS:=veil (dv_start hodd)
 clear hodd
 go_enter Tryz.func181,Tryz.ntmps181
 go_wp2
 go_loopw [3,5] (fun x i wr => ∃ (k : Nat) (n : Int),k ≤ 5 ∧ i = .int .i64 (k : Int) ∧ x = .int .u64 n ∧ 0 ≤ n ∧ n ≤ 18446744073709551615 ∧ Hid (dv k ∣ m * n - 1) ∧ wr = w)
  (fun _ i _ => 5 - (intOf i).toNat)
 case atStart => exact ⟨0,m,by omega,rfl,rfl,h0,h1,hS,rfl⟩
 case round =>
  obtain ⟨k,n,hk,rfl,rfl,n0,n1,hD,rfl⟩:=hrel
  by_cases hlt : k < 5
  ·
   have hn:=veil (dv_step hlt hD.out)
   obtain ⟨y,hy⟩ : ∃ y,y = n * ((2 - m * n % 18446744073709551616) % 18446744073709551616) % 18446744073709551616:=⟨_,rfl⟩
   rw [← hy] at hn
   have y0 : 0 ≤ y:=by omega
   have y1 : y ≤ 18446744073709551615:=by omega
   have hY:=veil hy
   clear hy
   go_wp2
   go_roundw
   case rel => exact ⟨k + 1,y,by omega,by go_num,by simp only [IntKind.wrap_u64]; rw [hY.out],y0,y1,hn,trivial⟩
   case measure => simp [intOf]; omega
  ·
   obtain rfl : k = 5:=by omega
   go_wp2
   go_ret
   exact ⟨n,n0,n1,hD.out,rfl,rfl⟩
theorem Fb.range {w : World} {b M : Nat} {N : Int} {Q : Nat} (h : Fb w b M N Q) : w.rangeAt b 0 [.int .u64 (wd M 0),.int .u64 (wd M 1),.int .u64 (wd M 2),.int .u64 (wd M 3)]:=fun j v hv => by
 obtain ⟨c0,c1,c2,c3⟩:=h.mod
 match j,hv with
 | 0,rfl => exact c0
 | 1,rfl => exact c1
 | 2,rfl => exact c2
 | 3,rfl => exact c3
 | _ + 4,hv => simp at hv
theorem zef {W : World} {b M : Nat} {N : Int} {Q : Nat} (h : Fb W b M N Q) : (Instr.loadAt 58 (.pointer (some ⟨b,0,none⟩))).run Tryz.prog W = .ok (.agg #[vI vU (wd M 0),vI vU (wd M 1),vI vU (wd M 2),vI vU (wd M 3)]) W:=run_loadAt_mid W b 0 58 _ _ h.range Tryz.underlying58 rfl (by kernel_rfl)
theorem ret_u2 {a b c d : Int} (h : a = b) (h2 : c = d) : Ending.returned (.tuple #[vI vU a,vI vU c]) = .returned (.tuple #[vI vU b,vI vU d]):=by rw [h,h2]
theorem mul64 (x y : Int) (hx : 0 ≤ x) (hx2 : x ≤ 18446744073709551615) (hy : 0 ≤ y) (hy2 : y ≤ 18446744073709551615) (w : World) :
  Calls Tryz.prog 205 #[vI vU x,vI vU y] w fun e w' => e = .returned (.tuple #[vI vU (x * y / 18446744073709551616),vI vU (x * y % 18446744073709551616)]) ∧ w' = w:=by
 have key:=mul64_arith x y hx (by omega) hy (by omega)
 have m1:=and_low32 x hx (by omega)
 have m2:=and_low32 y hy (by omega)
 have K:=veil key
 have M1:=veil m1
 have M2:=veil m2
 clear key m1 m2
 go_enter Tryz.func205,Tryz.ntmps205
 go_wp2
 go_ret2
 refine ⟨ret_u2 ?_ ?_,rfl⟩
 ·
  simp only [M1.out,M2.out,IntKind.wrap_u64]
  rw [and_low32 _ (by omega) (by omega)]
  exact K.out
 ·
  exact IntKind.wrap_u64 _
theorem ma_bound {x y : Int} (hx : 0 ≤ x) (hx2 : x ≤ 18446744073709551615) (hy : 0 ≤ y) (hy2 : y ≤ 18446744073709551615) : 0 ≤ x * y ∧ x * y ≤ 340282366920938463426481119284349108225:=by
 refine ⟨Int.mul_nonneg hx hy,?_⟩
 have:=Int.mul_le_mul hx2 hy2 hy (by omega : (0 : Int) ≤ 18446744073709551615)
 omega
theorem mulAdd_calls (x y u v : Int) (hx : 0 ≤ x) (hx2 : x ≤ 18446744073709551615) (hy : 0 ≤ y) (hy2 : y ≤ 18446744073709551615) (hu : 0 ≤ u) (hu2 : u ≤ 18446744073709551615) (hv : 0 ≤ v) (hv2 : v ≤ 18446744073709551615) (w : World) :
  Calls Tryz.prog 191 #[vI vU x,vI vU y,vI vU u,vI vU v] w fun e w' => e = .returned (.tuple #[vI vU ((x * y + u + v) % 18446744073709551616),vI vU ((x * y + u + v) / 18446744073709551616)]) ∧ w' = w:=by
 obtain ⟨p0,p1⟩:=ma_bound hx hx2 hy hy2
 obtain ⟨P,hP⟩ : ∃ P,P = x * y:=⟨_,rfl⟩
 rw [← hP] at p0 p1 ⊢
 obtain ⟨L,hL⟩ : ∃ L,L = P % 18446744073709551616:=⟨_,rfl⟩
 obtain ⟨Hh,hH⟩ : ∃ Hh,Hh = P / 18446744073709551616:=⟨_,rfl⟩
 obtain ⟨L1,hL1⟩ : ∃ L1,L1 = (L + u + 0) % 18446744073709551616:=⟨_,rfl⟩
 obtain ⟨c1,hc1⟩ : ∃ c1,c1 = (L + u + 0) / 18446744073709551616:=⟨_,rfl⟩
 obtain ⟨L2,hL2⟩ : ∃ L2,L2 = (L1 + v + 0) % 18446744073709551616:=⟨_,rfl⟩
 obtain ⟨c2,hc2⟩ : ∃ c2,c2 = (L1 + v + 0) / 18446744073709551616:=⟨_,rfl⟩
 have h29a:=fun W => add64 L u 0 (by omega) hu (by omega) (by omega) W
 have h29b:=fun W => add64 L1 v 0 (by omega) hv (by omega) (by omega) W
 rw [← hL1,← hc1] at h29a
 rw [← hL2,← hc2] at h29b
 have b1 : 0 ≤ Hh:=by omega
 have b2 : 0 ≤ c1:=by omega
 have b3 : 0 ≤ c2:=by omega
 have b4 : Hh + c1 ≤ 18446744073709551615:=by omega
 have b5 : Hh + c1 + c2 ≤ 18446744073709551615:=by omega
 have e1 : (P + u + v) % 18446744073709551616 = L2:=by omega
 have e2 : (P + u + v) / 18446744073709551616 = Hh + c1 + c2:=by omega
 have hM:=fun W => mul64 x y hx hx2 hy hy2 W
 rw [← hP,← hL,← hH] at hM
 have HM:=veil hM
 have E:=veil (And.intro e1 e2)
 clear hM e1 e2 hP hL hH hL1 hc1 hL2 hc2 p0 p1 hx hx2 hy hy2 hu hu2 hv hv2
 go_enter Tryz.func191,Tryz.ntmps191
 go_wp2_with (go_at_call 205; refine (HM.out _).mono ?_; rintro e w' ⟨rfl,rfl⟩)
 go_ret2
 rw [E.out.1,E.out.2]
 exact ⟨rfl,rfl⟩
end Go.Proofs.YtbfkecfcolcclaaGreatDoor
