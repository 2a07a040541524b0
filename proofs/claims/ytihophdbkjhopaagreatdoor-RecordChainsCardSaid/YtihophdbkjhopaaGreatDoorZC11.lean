/-
  Of ROf G8 G9 QA Q9 Bit Len RBit RLen Q10 Q12 G6 G7a PS S0.
-/
import Derived.BigRegion
import Derived.BigQuiet
import Derived.Deep.Cut
import Derived.Deep.CutRange
import Derived.Deep.RegionHeld3
import Derived.Test.YtihophdbkjhopaaGreatDoorZC10
import Derived.Test.YtihophdbkjhopaaGreatDoorZC3
import Derived.Test.YtihophdbkjhopaaGreatDoorZC5
import Derived.Test.YtihophdbkjhopaaGreatDoorZC4
import Derived.Test.YtihophdbkjhopaaGreatDoorZC1
import Derived.Test.YtihophdbkjhopaaGreatDoorZC6
import Derived.Test.YtihophdbkjhopaaGreatDoorZC9
set_option maxRecDepth 1000000
set_option maxHeartbeats 20000000
namespace Go.Proofs.YtihophdbkjhopaaGreatDoor
open Go.RowKit
open Go.Value renaming int → vI
open Go.IntKind renaming u64 → vU
open Go.Act renaming put → aP
open List renaming setIfInBounds_toArray → lA, set_cons_zero → lZ, set_cons_succ → lS
theorem pt_put (L c k j : Nat) (hL : L < 256 ^ k) (hc : c < 256) : pt (L + c * 256 ^ k) j = if j = k / 2 then pt L j + (c * 256 ^ (k % 2) : Nat) else pt L j:=by
 have h:=dg_put 2 (k / 2) (k % 2) L c (Nat.mod_lt _ (by omega)) (by rw [Nat.div_add_mod]; exact hL) hc j
 rw [Nat.div_add_mod,← w16_bytes] at h
 unfold pt
 rw [h]
 split
 ·
  rw [Int.natCast_add]
 ·
  rfl
theorem rof_even (L c k : Nat) (hL : L < 256 ^ k) (hc : c < 256) (hk : k % 2 = 0) : pt L (k / 2) + (c : Int) = pt (L + c * 256 ^ k) (k / 2):=by
 rw [pt_put L c k _ hL hc,if_pos rfl,hk]; simp
theorem rof_odd (L c k : Nat) (hL : L < 256 ^ k) (hc : c < 256) (hk : k % 2 = 1) : pt L (k / 2) + 256 * (c : Int) = pt (L + c * 256 ^ k) (k / 2):=by
 rw [pt_put L c k _ hL hc,if_pos rfl,hk]; omega
theorem rof_step (z : Nat → Nat) (k : Nat) (hz : ∀ j,z j < 256) (i : Nat) :
  (if i = k / 2 then Value.int .i64 (pt (lev z k + z k * 256 ^ k) (k / 2)) else Value.int .i64 (pt (lev z k) i)) = Value.int .i64 (pt (lev z (k + 1)) i):=by
 show _ = Value.int .i64 (pt (lev z k + z k * 256 ^ k) i)
 by_cases h : i = k / 2
 ·
  rw [if_pos h,h]
 ·
  rw [if_neg h,pt_put _ _ _ _ (zii hz k) (hz k),if_neg h]
theorem pt_zero (i : Nat) : pt 0 i = 0:=by unfold pt dg; simp
theorem rof_some (b o n c : Nat) (y : Nat → Nat) (hy : ∀ j,y j < 256) (hn : n ≤ 32) (w : World) (hb : b < w.heap.size) (hcell : ∀ j,j < n → w.cell? ⟨b,o + j,none⟩ = some (.int .u8 (y j))) :
  Calls Tryz.prog 75 #[.slice (some ⟨b,o,none⟩) n c] w fun e w' => e = .returned (.agg #[vI vU (wd (lev (fun k => y (n - 1 - k)) n) 0),vI vU (wd (lev (fun k => y (n - 1 - k)) n) 1),vI vU (wd (lev (fun k => y (n - 1 - k)) n) 2),vI vU (wd (lev (fun k => y (n - 1 - k)) n) 3)]) ∧ Below w.heap.size w w':=by
 obtain ⟨i0,hi,hz0,hz1,hz2⟩:=info_parts infoInt
 have hmk : ∀ W : World,(Instr.makeSlice 72 (.int .i64 16) (.int .i64 16)).run Tryz.prog W = .ok (.slice (some ⟨W.heap.size,0,none⟩) 16 16) (W.alloc (.cells (madeCells #[.int .i64 0] 16) 3)) :=
  fun W => run_make_row 72 3 i0 (.int .i64 0) Tryz.underlying72 hi hz0 hz1 rfl .i64 .i64 16 (by rw [hz2]; omega) (by omega) W
 have HY:=veil hy
 have HC:=veil hcell
 clear hy hcell
 have hn' : (n : Int) ≤ 32:=by omega
 go_enter Tryz.func75,Tryz.ntmps75
 go_wp2
 go_loopw [4] (fun i wr => ∃ k : Nat,k ≤ n ∧ i = .int .i64 k ∧ wr.rowIs w.heap.size 29 4 (fun _ => .int .u64 0) ∧ wr.rowIs (w.heap.size + 1) 3 16 (fun j => .int .i64 (pt (lev (fun k => y (n - 1 - k)) k) j)) ∧ Below w.heap.size w wr)
  (fun i _ => n - (intOf i).toNat)
 case atStart => exact ⟨0,by omega,rfl,(zag (n:=4) rfl rfl (arr4 fun _ => .int .u64 0)).alloc _,(row_filled (z:=.int .i64 0) (by simp)).congr (fun i _ => by rw [lev,pt_zero]),((Below.refl _ _).alloc (by simp) _).alloc (by simp) _⟩
 case round =>
  obtain ⟨k,hk,rfl,hR,hS,hbel⟩:=hrel
  by_cases hlt : k < n
  ·
   have c1:=hS.cell (i:=k / 2) (by omega)
   have f1:=hS.frozen (k / 2)
   obtain ⟨j,hj⟩ : ∃ j,j = n - 1 - k:=⟨_,rfl⟩
   have hji : (n : Int) - 1 - (k : Int) = (j : Int):=by omega
   have hjn : (j : Int) < (n : Int):=by omega
   have hj0 : (0 : Int) ≤ (j : Int):=by omega
   have hkn : (k : Int) < (n : Int):=by omega
   have c2:=(hbel.cell (p:=⟨b,o + j,none⟩) hb).trans (HC.out j (by omega))
   have l1:=pt_lo (lev (fun k => y (n - 1 - k)) k) (k / 2)
   have u1 : pt (lev (fun k => y (n - 1 - k)) k) (k / 2) ≤ 65535:=by have:=pt_lt (lev (fun k => y (n - 1 - k)) k) (k / 2); omega
   have u2 : (y j : Int) ≤ 255:=by have:=HY.out j; omega
   have u3 : (0 : Int) ≤ (y j : Int):=by omega
   have HS:=veil (rof_step (fun k => y (n - 1 - k)) k (fun j => HY.out _))
   have HJ:=veil hj
   clear hj
   rcases Nat.mod_two_eq_zero_or_one k with h2 | h2
   ·
    have hm : ((k : Int) % 2 == 0) = true:=by rw [beq_iff_eq]; omega
    have HM:=veil h2
    clear h2
    go_wp2
    go_region
    all_goals
     go_wp2
     go_roundw
     case rel =>
      rw [show y j = y (n - 1 - k) by rw [HJ.out],rof_even _ _ _ (zii (fun j => HY.out _) k) (HY.out _) HM.out]
      exact ⟨k + 1,by omega,by go_num,(zar hR (by omega) _).drew,((hS.set (k / 2) _).congr fun i _ => HS.out i).drew,(zaf hbel (by omega) _).drew⟩
     case measure => simp [intOf]; omega
   ·
    have hm : ((k : Int) % 2 == 0) = false:=by rw [beq_eq_false_iff_ne]; omega
    have HM:=veil h2
    clear h2
    go_wp2
    go_region
    all_goals
     go_wp2
     go_roundw
     case rel =>
      rw [show y j = y (n - 1 - k) by rw [HJ.out],rof_odd _ _ _ (zii (fun j => HY.out _) k) (HY.out _) HM.out]
      exact ⟨k + 1,by omega,by go_num,(zar hR (by omega) _).drew,((hS.set (k / 2) _).congr fun i _ => HS.out i).drew,(zaf hbel (by omega) _).drew⟩
     case measure => simp [intOf]; omega
  ·
   obtain rfl : k = n:=by omega
   go_wp2_with fail
   refine (num_calls (lev (fun j => y (k - 1 - j)) k) (w.heap.size + 1) 16 _ (Pre.of_row hS)).mono ?_
   rintro e w3 ⟨rfl,hb3⟩
   have hR3:=zae hR hb3 hR.lt
   have hB3:=hbel.trans (hb3.mono hbel.size)
   obtain ⟨d0,d1,d2,d3⟩:=zaj hR3
   obtain ⟨f0,f1,f2,f3⟩:=zbm hR3
   clear hR hS hbel hb3
   go_wp2
   refine bodyPost_ret (results_cell_row rfl _ _ w.heap.size 29 #[vI vU (wd (lev (fun j => y (k - 1 - j)) k) 0),vI vU (wd (lev (fun j => y (k - 1 - j)) k) 1),vI vU (wd (lev (fun j => y (k - 1 - j)) k) 2),vI vU (wd (lev (fun j => y (k - 1 - j)) k) 3)] (0,0) _ rfl (blk4 (put4 hR3 fun j => .int .u64 (wd (lev (fun j => y (k - 1 - j)) k) j))) Tryz.underlying29 rfl (by kernel_rfl)) rfl ⟨rfl,zax hB3 (by omega) _ _ _ _⟩
theorem zhn (X m : Nat) : dg w64 (X / 2) m = dg w64 X m / 2 + 9223372036854775808 * (dg w64 X (m + 1) % 2):=by
 unfold dg
 rw [Nat.pow_succ,← Nat.div_div_eq_div_mul,Nat.div_div_eq_div_mul X 2,Nat.mul_comm 2,← Nat.div_div_eq_div_mul]
 generalize X / w64 ^ m = q
 unfold w64
 omega
theorem wd_half_odd (X m : Nat) (h : wd X (m + 1) % 2 = 1) : wd X m / 2 + 9223372036854775808 = wd (X / 2) m:=by
 have e:=zhn X m
 unfold wd at *
 rw [e]; generalize dg w64 X m = a at *; generalize dg w64 X (m + 1) = b at *; omega
theorem ziw (X m : Nat) (h : wd X (m + 1) % 2 = 0) : wd X m / 2 = wd (X / 2) m:=by
 have e:=zhn X m
 unfold wd at *
 rw [e]; generalize dg w64 X m = a at *; generalize dg w64 X (m + 1) = b at *; omega
theorem wd_half_top (X : Nat) (h : X < top) : wd X 3 / 2 = wd (X / 2) 3 :=
 ziw X 3 (by rw [(num_wide X h).1]; rfl)
theorem wd_par (X : Nat) : wd X 0 % 2 = ((X % 2 : Nat) : Int):=by
 unfold wd dg w64; rw [Nat.pow_zero,Nat.div_one]; omega
def HalfTop (S D : Nat) : Prop:=(∀ j,j < 3 → wd (S / 2) j = wd D j) ∧ wd (S / 2) 3 + 9223372036854775808 = wd D 3 ∧ wd (S / 2) 3 < 9223372036854775808
theorem halfTop {S : Nat} (h : S < top) : HalfTop S ((S + top) / 2):=by
 have h1 : ∀ j,j < 4 → dg w64 (S + top) j = dg w64 S j:=by
  intro j hj
  have e:=zck (B:=w64) (S + top) 4 j hj
  have e0 : (S + top) % w64 ^ 4 = S:=by
   rw [show w64 ^ 4 = top from rfl,Nat.add_mod_right]; exact Nat.mod_eq_of_lt h
  rw [← e,e0]
 have h2 : dg w64 (S + top) 4 = 1:=by
  show (S + top) / top % w64 = 1
  rw [Nat.add_div_right _ zbk,Nat.div_eq_of_lt h]; rfl
 have h3 : dg w64 S 4 = 0:=by
  show S / top % w64 = 0
  rw [Nat.div_eq_of_lt h]; rfl
 have hl:=dg_lt zak S 3
 have e3:=zhn S 3
 have f3:=zhn (S + top) 3
 rw [h3] at e3
 rw [h2,h1 3 (by omega)] at f3
 have hw : w64 = 18446744073709551616:=rfl
 refine ⟨fun j hj => ?_,?_,?_⟩
 ·
  unfold wd; rw [zhn,zhn (S + top),h1 j (by omega),h1 (j + 1) (by omega)]
 ·
  unfold wd; rw [e3,f3]; omega
 ·
  unfold wd; rw [e3]; omega
section
variable {w0 : World} {Post : Value → World → Prop} {J : World → Prop}
def stepH (d f g u k : Nat) (t : Int) (ht : wd (u / 2) k = t) (r : OT Tryz.prog w0 Post J) : OT Tryz.prog w0 Post J :=
 .cases (wd u (k + 1) % 2 = 1)
  (fun h => .ins d (binK .quo 27 (.tmp (d - 1)) (.const (.int .u64 2)) (.int .u64 (wd u k)) (.int .u64 2)) (.int .u64 (wd u k / 2)) (fun _ _ => quo2_run rfl (wd_lo _ _) (wd_le _ _)) <|
   .ins f (binK .rem 27 (.tmp (f - 1)) (.const (.int .u64 2)) (.int .u64 (wd u (k + 1))) (.int .u64 2)) (.int .u64 1) (fun _ _ => rem2_run h (wd_lo _ _)) <|
   .ins g (binK .add 27 (.tmp (g - 1)) (.const (.int .u64 9223372036854775808)) (.int .u64 (wd u k / 2)) (.int .u64 9223372036854775808)) (.int .u64 t) (fun _ _ => ht ▸ addh_run (wd_half_odd u k h) (wd_lo _ _) (wd_le _ _)) r)
  (fun h => .ins d (binK .quo 27 (.tmp (d - 1)) (.const (.int .u64 2)) (.int .u64 (wd u k)) (.int .u64 2)) (.int .u64 t) (fun _ _ => ht ▸ quo2_run (ziw u k (by omega)) (wd_lo _ _) (wd_le _ _)) <|
   .ins f (binK .rem 27 (.tmp (f - 1)) (.const (.int .u64 2)) (.int .u64 (wd u (k + 1))) (.int .u64 2)) (.int .u64 0) (fun _ _ => rem2_run (by omega) (wd_lo _ _)) r)
def lastH (d u : Nat) (hu : u < top) (r : OT Tryz.prog w0 Post J) : OT Tryz.prog w0 Post J :=
 .ins d (binK .quo 27 (.tmp (d - 1)) (.const (.int .u64 2)) (.int .u64 (wd u 3)) (.int .u64 2)) (.int .u64 (wd (u / 2) 3)) (fun _ _ => quo2_run (wd_half_top u hu) (wd_lo _ _) (wd_le _ _)) r
def parH (d u : Nat) (b : Int) (h : wd u 0 % 2 = b) (r : OT Tryz.prog w0 Post J) : OT Tryz.prog w0 Post J :=
 .ins d (binK .rem 27 (.tmp (d - 1)) (.const (.int .u64 2)) (.int .u64 (wd u 0)) (.int .u64 2)) (.int .u64 b) (fun _ _ => rem2_run h (wd_lo _ _)) r
end
theorem ghalf_even (X M : Nat) (hVt : X < top) (h : X % 2 = 0) (w : World) :
  Calls Tryz.prog 88 #[.agg #[vI vU (wd X 0),vI vU (wd X 1),vI vU (wd X 2),vI vU (wd X 3)],.agg #[vI vU (wd M 0),vI vU (wd M 1),vI vU (wd M 2),vI vU (wd M 3)]] w fun e w' => e = .returned (.agg #[vI vU (wd (X / 2) 0),vI vU (wd (X / 2) 1),vI vU (wd (X / 2) 2),vI vU (wd (X / 2) 3)]) ∧ Below w.heap.size w w' :=
 way1 Tryz.func88 [.agg #[vI vU (wd X 0),vI vU (wd X 1),vI vU (wd X 2),vI vU (wd X 3)],.agg #[vI vU (wd M 0),vI vU (wd M 1),vI vU (wd M 2),vI vU (wd M 3)]] (parH 9 X 0 (by rw [wd_par,h]; rfl) <| .unroll 5 <| stepH 25 34 41 X 0 _ rfl <| stepH 25 34 41 X 1 _ rfl <| stepH 25 34 41 X 2 _ rfl <| lastH 25 X hVt <| .ret _ fun _ h => ⟨rfl,h⟩) (by kernel_rfl)
theorem ghalf_no (X M S : Nat) (hX : X < top) (hM : M < top) (h : X % 2 = 1) (hS : (X + M) % top = S) (hu : decide (top ≤ X + M) = false) (w : World) :
  Calls Tryz.prog 88 #[.agg #[vI vU (wd X 0),vI vU (wd X 1),vI vU (wd X 2),vI vU (wd X 3)],.agg #[vI vU (wd M 0),vI vU (wd M 1),vI vU (wd M 2),vI vU (wd M 3)]] w fun e w' => e = .returned (.agg #[vI vU (wd (S / 2) 0),vI vU (wd (S / 2) 1),vI vU (wd (S / 2) 2),vI vU (wd (S / 2) 3)]) ∧ Below w.heap.size w w' :=
 way1 Tryz.func88 [.agg #[vI vU (wd X 0),vI vU (wd X 1),vI vU (wd X 2),vI vU (wd X 3)],.agg #[vI vU (wd M 0),vI vU (wd M 1),vI vU (wd M 2),vI vU (wd M 3)]] (parH 9 X 1 (by rw [wd_par,h]; rfl) <| .call _ _ _ (fun W _ => zhh X M S false hS hu hX hM W) <| .unroll 5 <|
  stepH 25 34 41 S 0 _ rfl <| stepH 25 34 41 S 1 _ rfl <| stepH 25 34 41 S 2 _ rfl <| lastH 25 S (by rw [← hS]; exact Nat.mod_lt _ zbk) <| .ret _ fun _ h => ⟨rfl,h⟩) (by kernel_rfl)
theorem ghalf_over (X M S : Nat) (D : Nat) (hD : HalfTop S D) (hX : X < top) (hM : M < top) (h : X % 2 = 1) (hS : (X + M) % top = S) (hu : decide (top ≤ X + M) = true) (w : World) :
  Calls Tryz.prog 88 #[.agg #[vI vU (wd X 0),vI vU (wd X 1),vI vU (wd X 2),vI vU (wd X 3)],.agg #[vI vU (wd M 0),vI vU (wd M 1),vI vU (wd M 2),vI vU (wd M 3)]] w fun e w' => e = .returned (.agg #[vI vU (wd D 0),vI vU (wd D 1),vI vU (wd D 2),vI vU (wd D 3)]) ∧ Below w.heap.size w w' :=
 way1 Tryz.func88 [.agg #[vI vU (wd X 0),vI vU (wd X 1),vI vU (wd X 2),vI vU (wd X 3)],.agg #[vI vU (wd M 0),vI vU (wd M 1),vI vU (wd M 2),vI vU (wd M 3)]] (parH 9 X 1 (by rw [wd_par,h]; rfl) <| .call _ _ _ (fun W _ => zhh X M S true hS hu hX hM W) <| .unroll 5 <|
  stepH 25 34 41 S 0 (wd D 0) (hD.1 0 (by decide)) <| stepH 25 34 41 S 1 (wd D 1) (hD.1 1 (by decide)) <| stepH 25 34 41 S 2 (wd D 2) (hD.1 2 (by decide)) <| lastH 25 S (by rw [← hS]; exact Nat.mod_lt _ zbk) <|
  .ins 46 (binK .add 27 (.tmp 45) (.const (.int .u64 9223372036854775808)) (.int .u64 (wd (S / 2) 3)) (.int .u64 9223372036854775808)) (.int .u64 (wd D 3)) (fun _ _ => addh_run hD.2.1 (wd_lo _ _) (wd_le _ _)) <|
  .ret _ fun _ h => ⟨rfl,h⟩) (by kernel_rfl)
def hf (X M : Nat) : Nat:=if X % 2 = 0 then X / 2 else (X + M) / 2
theorem hf_lt {X M : Nat} (h : X < M) : hf X M < M:=by unfold hf; split <;> omega
theorem ghalf_calls (X M : Nat) (hX : X < M) (hM : M < top) (w : World) :
  Calls Tryz.prog 88 #[.agg #[vI vU (wd X 0),vI vU (wd X 1),vI vU (wd X 2),vI vU (wd X 3)],.agg #[vI vU (wd M 0),vI vU (wd M 1),vI vU (wd M 2),vI vU (wd M 3)]] w fun e w' => e = .returned (.agg #[vI vU (wd (hf X M) 0),vI vU (wd (hf X M) 1),vI vU (wd (hf X M) 2),vI vU (wd (hf X M) 3)]) ∧ Below w.heap.size w w':=by
 unfold hf
 by_cases h : X % 2 = 0
 ·
  rw [if_pos h]; exact ghalf_even X M (by omega) h w
 ·
  rw [if_neg h]
  by_cases h2 : top ≤ X + M
  ·
   have e : (X + M) % top = X + M - top:=by rw [Nat.mod_eq_sub_mod h2,Nat.mod_eq_of_lt (by omega)]
   have hd:=halfTop (S:=X + M - top) (by omega)
   rw [show X + M - top + top = X + M by omega] at hd
   exact ghalf_over X M _ _ hd (by omega) hM (by omega) e (by simpa using h2) w
  ·
   have e : (X + M) % top = X + M:=Nat.mod_eq_of_lt (by omega)
   exact ghalf_no X M _ (by omega) hM (by omega) e (by simpa using h2) w
theorem gcd_even (u v : Nat) (hu : u % 2 = 0) (hv : v % 2 = 1) : Nat.gcd (u / 2) v = Nat.gcd u v:=by
 have hc : Nat.Coprime 2 v:=by
  unfold Nat.Coprime
  rw [Nat.gcd_rec,hv]; rfl
 have e : u = 2 * (u / 2):=by omega
 conv => rhs; rw [e]
 exact (Nat.Coprime.gcd_mul_left_cancel (u / 2) hc).symm
theorem gcd_less (u v : Nat) (h : u ≤ v) : Nat.gcd (v - u) u = Nat.gcd u v:=by
 rw [Nat.gcd_comm u v]
 have e : v = (v - u) + u:=by omega
 conv => rhs; rw [e,Nat.gcd_add_self_left]
theorem cut_twice {M A B : Nat} (hM : M % 2 = 1) (h : 2 * A % M = 2 * B % M) : A % M = B % M:=by
 have hM0 : 0 < M:=by omega
 rw [Nat.mul_mod,← Nat.mul_mod_mod,Nat.mod_mul_mod] at h
 rw [Nat.mul_mod 2 B,← Nat.mul_mod_mod,Nat.mod_mul_mod] at h
 have ha:=Nat.mod_lt A hM0
 have hb:=Nat.mod_lt B hM0
 simp only [Nat.mod_mod] at h
 generalize A % M = a at *
 generalize B % M = b at *
 have e : ∀ c,c < M → 2 * c % M = if 2 * c < M then 2 * c else 2 * c - M:=by
  intro c hc
  split
  ·
   exact Nat.mod_eq_of_lt (by assumption)
  ·
   rw [Nat.mod_eq_sub_mod (by omega),Nat.mod_eq_of_lt (by omega)]
 rw [e a ha,e b hb] at h
 split at h <;> split at h <;> omega
theorem cut_add {M A B C : Nat} (hM0 : 0 < M) (h : (A + C) % M = (B + C) % M) : A % M = B % M:=by
 rw [Nat.add_mod,Nat.add_mod B] at h
 have ha:=Nat.mod_lt A hM0
 have hb:=Nat.mod_lt B hM0
 have hc:=Nat.mod_lt C hM0
 generalize A % M = a at *
 generalize B % M = b at *
 generalize C % M = c at *
 have e : ∀ d,d < M → (d + c) % M = if d + c < M then d + c else d + c - M:=by
  intro d hd
  split
  ·
   exact Nat.mod_eq_of_lt (by assumption)
  ·
   rw [Nat.mod_eq_sub_mod (by omega),Nat.mod_eq_of_lt (by omega)]
 rw [e a ha,e b hb] at h
 split at h <;> split at h <;> omega
structure Inv (a M r u v x y : Nat) : Prop where
 hx : x < M
 hy : y < M
 hu : u < top
 hv : v < top
 odd : v % 2 = 1
 ex : a * x % M = u % M
 ey : a * y % M = v % M
 g : Nat.gcd u v = Nat.gcd a M
 left : ∃ p q,u < 2 ^ p ∧ v < 2 ^ q ∧ r + 2 * (p + q) + u % 2 ≤ 1025
theorem inv_start {a M : Nat} (ha : a < M) (hM : M < top) (hM1 : 1 < M) (hodd : M % 2 = 1) : Inv a M 0 a M 1 0 :=
 ⟨hM1,by omega,by omega,hM,hodd,by rw [Nat.mul_one],by rw [Nat.mul_zero,Nat.zero_mod,Nat.mod_self],rfl,256,256,by show a < top; omega,hM,by omega⟩
theorem inv_even {a M r u v x y : Nat} (h : Inv a M r u v x y) (hodd : M % 2 = 1) (hu : u % 2 = 0) (h0 : u ≠ 0) : Inv a M (r + 1) (u / 2) v (hf x M) y:=by
 obtain ⟨hx,hy,hut,hvt,odd,ex,ey,g,p,q,hp,hq,hl⟩:=h
 refine ⟨hf_lt hx,hy,by omega,hvt,odd,?_,ey,by rw [gcd_even u v hu odd]; exact g,p - 1,q,?_,hq,?_⟩
 ·
  apply cut_twice hodd
  rw [show 2 * (u / 2) = u by omega,← ex]
  unfold hf
  split
  ·
   rw [Nat.mul_left_comm,show 2 * (x / 2) = x by omega]
  ·
   rw [Nat.mul_left_comm,show 2 * ((x + M) / 2) = x + M by omega,Nat.mul_add,Nat.add_mul_mod_self_right]
 ·
  cases p with
  | zero => simp at hp; omega
  | succ p => rw [Nat.pow_succ] at hp; simp only [Nat.add_sub_cancel]; omega
 ·
  cases p with
  | zero => simp at hp; omega
  | succ p => simp only [Nat.add_sub_cancel]; omega
theorem inv_more {a M r u v x y : Nat} (h : Inv a M r u v x y) (hu : u % 2 = 1) (hle : v ≤ u) : Inv a M (r + 1) (u - v) v ((x + M - y) % M) y:=by
 obtain ⟨hx,hy,hut,hvt,odd,ex,ey,g,p,q,hp,hq,hl⟩:=h
 have hM0 : 0 < M:=by omega
 refine ⟨Nat.mod_lt _ hM0,hy,by omega,hvt,odd,?_,ey,by rw [gcd_less v u hle,Nat.gcd_comm]; exact g,p,q,by omega,hq,by omega⟩
 apply cut_add (C:=v) hM0
 rw [Nat.sub_add_cancel hle,← ex,Nat.add_mod,← ey,← Nat.add_mod,Nat.add_mod,Nat.mul_mod,Nat.mod_mod,← Nat.mul_mod,← Nat.add_mod,← Nat.mul_add,show x + M - y + y = x + M by omega,Nat.mul_add,Nat.add_mul_mod_self_right]
theorem inv_less {a M r u v x y : Nat} (h : Inv a M r u v x y) (hu : u % 2 = 1) (hlt : u < v) : Inv a M (r + 1) (v - u) u ((y + M - x) % M) x:=by
 obtain ⟨hx,hy,hut,hvt,odd,ex,ey,g,p,q,hp,hq,hl⟩:=h
 have h2 : Inv a M r v u y x:=⟨hy,hx,hvt,hut,hu,ey,ex,by rw [Nat.gcd_comm]; exact g,q,p,hq,hp,by omega⟩
 exact inv_more h2 odd (by omega)
theorem neq4 (f g : Nat → Int) (w : World) : (binOp .neq 29 (.agg #[vI vU (f 0),vI vU (f 1),vI vU (f 2),vI vU (f 3)]) (.agg #[vI vU (g 0),vI vU (g 1),vI vU (g 2),vI vU (g 3)])).run Tryz.prog w = .ok (.bool (!((List.range 4).all fun i => f i == g i))) w:=by
 obtain ⟨i,hi⟩ : ∃ i,Tryz.prog.info? 27 = some i:=Option.isSome_iff_exists.1 (by kernel_rfl)
 have hc : Tryz.prog.cellsOf 27 = 1:=by kernel_rfl
 rw [run_neq_struct,run_equalIn_array (P:=Tryz.prog) w 9999 _ _ Tryz.underlying29 hi,hc]
 rw [run_items 9998 _ _ f g w _ (fun j hj => arr4 (fun j => .int .u64 (f j)) j (by simpa using hj)) (fun j hj => arr4 (fun j => .int .u64 (g j)) j (by simpa using hj))]
 rfl
theorem zjj {X : Nat} (hX : X < top) (w : World) : (binOp .neq 29 (.agg #[vI vU (wd X 0),vI vU (wd X 1),vI vU (wd X 2),vI vU (wd X 3)]) (.agg #[vI vU 0,vI vU 0,vI vU 0,vI vU 0])).run Tryz.prog w = .ok (.bool (!decide (X = 0))) w:=by
 have h:=neq4 (wd X) (wd 0) w
 rw [all_wd 4 X 0] at h
 have e : (X % w64 ^ 4 = 0 % w64 ^ 4) = (X = 0):=by rw [Nat.mod_eq_of_lt (show X < w64 ^ 4 from hX),Nat.zero_mod]
 rw [decide_eq_decide.2 (iff_of_eq e)] at h
 have e0 : ∀ i,wd 0 i = 0:=by intro i; unfold wd dg; simp
 simpa [e0] using h
theorem eql_one {X : Nat} (hX : X < top) (w : World) : (binOp .eql 29 (.agg #[vI vU (wd X 0),vI vU (wd X 1),vI vU (wd X 2),vI vU (wd X 3)]) (.agg #[vI vU 1,vI vU 0,vI vU 0,vI vU 0])).run Tryz.prog w = .ok (.bool (decide (X = 1))) w:=by
 have h:=zgd hX (show 1 < top by decide) w
 have o0 : wd 1 0 = 1:=by decide
 have o1 : wd 1 1 = 0:=by decide
 have o2 : wd 1 2 = 0:=by decide
 have o3 : wd 1 3 = 0:=by decide
 rw [o0,o1,o2,o3] at h
 exact h
section
variable {w0 : World} {Post : Value → World → Prop} {J : World → Prop}
def iInc (n : Nat) (h : n < 4294967296) (r : OT Tryz.prog w0 Post J) : OT Tryz.prog w0 Post J :=
 .ins 27 (binK .add 3 (.tmp 26) (.const (.int .i64 1)) (.int .i64 (n : Int)) (.int .i64 1)) (.int .i64 ((n + 1 : Nat) : Int)) (fun _ _ => inc_run h) r
end
theorem ginv_calls (X M : Nat) (hX : X < M) (hM1 : 1 < M) (hodd : M % 2 = 1) (hM : M < top) (w : World) :
  Calls Tryz.prog 45 #[.agg #[vI vU (wd X 0),vI vU (wd X 1),vI vU (wd X 2),vI vU (wd X 3)],.agg #[vI vU (wd M 0),vI vU (wd M 1),vI vU (wd M 2),vI vU (wd M 3)]] w fun e w' => ∃ y,y < M ∧ (Nat.gcd X M = 1 → X * y % M = 1) ∧ e = .returned (.tuple #[.agg #[vI vU (wd y 0),vI vU (wd y 1),vI vU (wd y 2),vI vU (wd y 3)],.bool (Nat.gcd X M == 1)]) ∧ Below w.heap.size w w':=by
 have hI0:=inv_start hX hM hM1 hodd
 have hr : ∀ {r u v x y},Inv X M r u v x y → r < 1100:=fun h => by obtain ⟨p,q,_,_,h⟩:=h.left; omega
 have ho : ∀ {u : Nat},¬ u % 2 = 0 → u % 2 = 1:=fun h => by omega
 have hd : ∀ {v : Nat},Nat.gcd X M = v → (decide (v = 1)) = (Nat.gcd X M == 1):=fun h => by rw [h]; rfl
 refine (way0 (Post:=fun v W => ∃ y,y < M ∧ (Nat.gcd X M = 1 → X * y % M = 1) ∧ v = .tuple #[.agg #[vI vU (wd y 0),vI vU (wd y 1),vI vU (wd y 2),vI vU (wd y 3)],.bool (Nat.gcd X M == 1)] ∧ Ext w W) Tryz.func45 [.agg #[vI vU (wd X 0),vI vU (wd X 1),vI vU (wd X 2),vI vU (wd X 3)],.agg #[vI vU (wd M 0),vI vU (wd M 1),vI vU (wd M 2),vI vU (wd M 3)]] (
  .loop (fun l => [(11,.v (.int .i64 (l 0 : Int))),(2,.p 0 0),(3,.p 1 0),(4,.p 2 0),(6,.p 3 0),(7,.p 4 0),(8,.p 5 0),(9,.p 6 0),(10,.p 7 0)])
   (fun l => [⟨29,cN X⟩,⟨29,cN M⟩,⟨29,cZ⟩,⟨29,cN (l 1)⟩,⟨29,cN (l 2)⟩,⟨29,cN (l 3)⟩,⟨29,cN (l 4)⟩,⟨29,cZ⟩])
   (fun l => 1100 - l 0) (fun l => Inv X M (l 0) (l 1) (l 2) (l 3) (l 4)) (lst [0,X,M,1,0]) hI0 fun l h =>
  .cases (l 1 = 0)
   (fun h0 => .ins 20 (binK .lss 3 (.tmp 19) (.const (.int .i64 1100)) (.int .i64 (l 0 : Int)) (.int .i64 1100)) (.bool true) (fun _ _ => lssi_run (by have:=hr h; omega)) <|
    .ins 24 (binK .neq 29 (.tmp 22) (.tmp 23) (.agg #[vI vU (wd (l 1) 0),vI vU (wd (l 1) 1),vI vU (wd (l 1) 2),vI vU (wd (l 1) 3)]) (.agg #[vI vU 0,vI vU 0,vI vU 0,vI vU 0])) (.bool false) (fun W _ => zbe (by simp [eqGuard,go_sem]) (by rw [zjj h.hu W,decide_eq_true h0]; rfl)) <|
    .ins 80 (binK .eql 29 (.tmp 78) (.tmp 79) (.agg #[vI vU (wd (l 2) 0),vI vU (wd (l 2) 1),vI vU (wd (l 2) 2),vI vU (wd (l 2) 3)]) (.agg #[vI vU 1,vI vU 0,vI vU 0,vI vU 0])) (.bool (Nat.gcd X M == 1)) (fun W _ => zbe (by simp [eqGuard,go_sem]) (by rw [eql_one h.hv W,hd (by rw [← h.g,h0,Nat.gcd_zero_left])])) <|
    .ret (.tuple #[.agg #[vI vU (wd (l 4) 0),vI vU (wd (l 4) 1),vI vU (wd (l 4) 2),vI vU (wd (l 4) 3)],.bool (Nat.gcd X M == 1)]) fun W hW => ⟨l 4,h.hy,fun hg => by rw [h.ey,show l 2 = 1 by rw [← hg,← h.g,h0,Nat.gcd_zero_left],Nat.mod_eq_of_lt hM1],rfl,hW⟩)
   (fun h0 => .ins 20 (binK .lss 3 (.tmp 19) (.const (.int .i64 1100)) (.int .i64 (l 0 : Int)) (.int .i64 1100)) (.bool true) (fun _ _ => lssi_run (by have:=hr h; omega)) <|
    .ins 24 (binK .neq 29 (.tmp 22) (.tmp 23) (.agg #[vI vU (wd (l 1) 0),vI vU (wd (l 1) 1),vI vU (wd (l 1) 2),vI vU (wd (l 1) 3)]) (.agg #[vI vU 0,vI vU 0,vI vU 0,vI vU 0])) (.bool true) (fun W _ => zbe (by simp [eqGuard,go_sem]) (by rw [zjj h.hu W,decide_eq_false h0]; rfl)) <|
    .cases (l 1 % 2 = 0)
     (fun hp => parH 30 (l 1) 0 (by rw [wd_par,hp]; rfl) <|
      .call _ _ _ (fun W _ => ghalf_calls (l 3) M h.hx hM W) <| .unroll 5 <| stepH 43 52 59 (l 1) 0 _ rfl <| stepH 43 52 59 (l 1) 1 _ rfl <| stepH 43 52 59 (l 1) 2 _ rfl <| lastH 43 (l 1) h.hu <|
      iInc (l 0) (by have:=hr h; omega) <| .next (lst [l 0 + 1,l 1 / 2,l 2,hf (l 3) M,l 4]) _ (And.intro (inv_even h hodd hp h0) (show 1100 - (l 0 + 1) < 1100 - l 0 by have:=hr h; omega)))
     (fun hp => parH 30 (l 1) 1 (by rw [wd_par,ho hp]; rfl) <|
      .cases (l 1 < l 2)
       (fun hl => .call _ _ _ (fun W _ => zfc (l 1) (l 2) true (decide_eq_true hl) h.hu h.hv W) <| .call _ _ _ (fun W _ => zfp (l 2) (l 1) (l 2 - l 1) (by rw [show l 2 + top - l 1 = (l 2 - l 1) + top by omega,Nat.add_mod_right,Nat.mod_eq_of_lt (by have:=h.hv; omega)]) h.hv h.hu W) <|
        .call _ _ _ (fun W _ => zik (l 4) (l 3) M h.hy h.hx hM W) <| iInc (l 0) (by have:=hr h; omega) <| .next (lst [l 0 + 1,l 2 - l 1,l 1,(l 4 + M - l 3) % M,l 3]) _ (And.intro (inv_less h (ho hp) hl) (show 1100 - (l 0 + 1) < 1100 - l 0 by have:=hr h; omega)))
       (fun hl => .call _ _ _ (fun W _ => zfc (l 1) (l 2) false (decide_eq_false hl) h.hu h.hv W) <| .call _ _ _ (fun W _ => zfp (l 1) (l 2) (l 1 - l 2) (by rw [show l 1 + top - l 2 = (l 1 - l 2) + top by omega,Nat.add_mod_right,Nat.mod_eq_of_lt (by have:=h.hu; omega)]) h.hu h.hv W) <|
        .call _ _ _ (fun W _ => zik (l 3) (l 4) M h.hx h.hy hM W) <| iInc (l 0) (by have:=hr h; omega) <| .next (lst [l 0 + 1,l 1 - l 2,l 2,(l 3 + M - l 4) % M,l 4]) _ (And.intro (inv_more h (ho hp) (Nat.le_of_not_lt hl)) (show 1100 - (l 0 + 1) < 1100 - l 0 by have:=hr h; omega))))))
  (by kernel_rfl)).mono fun e w' ⟨v,he,y,h1,h2,h3,h4⟩ => ⟨y,h1,h2,by rw [he,h3],h4⟩
theorem three_lt : 3 < Pt.pp:=by decide +kernel
theorem bb_lt : Pt.bb < Pt.pp:=by decide +kernel
theorem pp_one : 1 < Pt.pp:=by decide +kernel
theorem pp_odd : Pt.pp % 2 = 1:=by decide +kernel
theorem wd_nil (i : Nat) : wd 0 i = 0:=by unfold wd dg; simp
theorem zjq {X : Nat} (hX : X < top) (w : World) : (binOp .eql 29 (.agg #[vI vU (wd X 0),vI vU (wd X 1),vI vU (wd X 2),vI vU (wd X 3)]) (.agg #[vI vU 0,vI vU 0,vI vU 0,vI vU 0])).run Tryz.prog w = .ok (.bool (decide (X = 0))) w:=by
 have h:=zgd hX (show 0 < top by decide) w
 simp only [wd_nil] at h
 exact h
theorem zfs : ((0 : Fin Pt.pp)).val = 0:=Fin.val_zero _
theorem v_one : ((1 : Fin Pt.pp)).val = 1:=Pt.val_one pp_one
theorem v_three : ((3 : Fin Pt.pp)).val = 3:=by
 rw [← Pt.F_three]
 exact Nat.mod_eq_of_lt three_lt
theorem zbs (x : Fin Pt.pp) : x.val < top:=Nat.lt_trans x.isLt zci
section
variable {x y z : Fin Pt.pp}
theorem fmul_is {X Y : Nat} (hX : X < Pt.pp) (hY : Y < Pt.pp) (h : X * Y % Pt.pp = z.val) (w : World) : Calls Tryz.prog 85 #[nv X,nv Y] w fun e w' => e = .returned (nv z.val) ∧ Ext w w':=by
 have k:=veil fun W => gmul_calls X Y Pt.pp hX (Nat.lt_trans hY zci) zci W
 rw [h] at k
 clear h
 exact way1 Tryz.func85 [nv X,nv Y] (.call _ _ _ (fun W _ => zch W) <| .call _ _ _ (fun W _ => k.out W) <| .ret _ fun _ h => ⟨rfl,h⟩) (by kernel_rfl)
theorem fsub_is {X Y : Nat} (hX : X < Pt.pp) (hY : Y < Pt.pp) (h : (X + Pt.pp - Y) % Pt.pp = z.val) (w : World) : Calls Tryz.prog 86 #[nv X,nv Y] w fun e w' => e = .returned (nv z.val) ∧ Ext w w':=by
 have k:=veil fun W => zik X Y Pt.pp hX hY zci W
 rw [h] at k
 clear h
 exact way1 Tryz.func86 [nv X,nv Y] (.call _ _ _ (fun W _ => zch W) <| .call _ _ _ (fun W _ => k.out W) <| .ret _ fun _ h => ⟨rfl,h⟩) (by kernel_rfl)
theorem fmul (h : z = x * y) (w : World) : Calls Tryz.prog 85 #[nv x.val,nv y.val] w fun e w' => e = .returned (nv z.val) ∧ Ext w w':=fmul_is x.isLt y.isLt (by rw [h,Pt.v_mul]) w
theorem fthree (h : z = 3 * x) (w : World) : Calls Tryz.prog 85 #[nv 3,nv x.val] w fun e w' => e = .returned (nv z.val) ∧ Ext w w':=fmul_is three_lt x.isLt (by rw [h,← Pt.v_mul,v_three]) w
theorem fsub (h : z = x - y) (w : World) : Calls Tryz.prog 86 #[nv x.val,nv y.val] w fun e w' => e = .returned (nv z.val) ∧ Ext w w':=fsub_is x.isLt y.isLt (by rw [h,Pt.v_sub]) w
theorem fless (h : z = x - 1) (w : World) : Calls Tryz.prog 86 #[nv x.val,nv 1] w fun e w' => e = .returned (nv z.val) ∧ Ext w w':=fsub_is x.isLt pp_one (by rw [h,← Pt.v_sub,v_one]) w
theorem fneg (h : z = 0 - y) (w : World) : Calls Tryz.prog 86 #[nv 0,nv y.val] w fun e w' => e = .returned (nv z.val) ∧ Ext w w':=fsub_is pp_pos y.isLt (by rw [h,← Pt.v_sub,zfs]) w
theorem fadd (h : z = x + y) (w : World) : Calls Tryz.prog 68 #[nv x.val,nv y.val,nv Pt.pp] w fun e w' => e = .returned (nv z.val) ∧ Ext w w':=by
 have k:=zim x.val y.val Pt.pp x.isLt y.isLt zci w
 rw [Pt.v_add,← h] at k
 exact k
theorem fplus_b (h : z = x + Pt.F Pt.bb) (w : World) : Calls Tryz.prog 68 #[nv x.val,nv Pt.bb,nv Pt.pp] w fun e w' => e = .returned (nv z.val) ∧ Ext w w':=by
 have eb : Pt.bb = (Pt.F Pt.bb : Fin Pt.pp).val:=(Nat.mod_eq_of_lt bb_lt).symm
 have k:=fadd h w
 rw [← eb] at k
 exact k
theorem finv (hx : x ≠ 0) (h : z = Pt.E256.inv x) (w : World) : Calls Tryz.prog 45 #[nv x.val,nv Pt.pp] w fun e w' => e = .returned (.tuple #[nv z.val,.bool true]) ∧ Ext w w':=by
 refine (ginv_calls x.val Pt.pp x.isLt pp_one pp_odd zci w).mono ?_
 rintro e w' ⟨t,ht,hi,rfl,hb⟩
 have hg:=Pt.v_gcd hx
 rw [Pt.v_inv ht (hi hg),← h,hg]
 exact ⟨rfl,hb⟩
end
/-! ### Neg -/
theorem rneg_fe (X : Nat) {y z : Fin Pt.pp} (f : Bool) (h : z = 0 - y) (w : World) : Calls Tryz.prog 95 #[qv X y.val f] w fun e w' => e = .returned (qv X z.val f) ∧ Ext w w':=by
 have k:=veil h
 clear h
 exact way1 Tryz.func95 [qv X y.val f] (.call _ _ _ (fun W _ => fneg k.out W) <| .ret _ fun _ h => ⟨rfl,h⟩) (by kernel_rfl)
/-! ### On -/
def rightN (X : Nat) : Nat:=((X * X % Pt.pp * X % Pt.pp + Pt.pp - 3 * X % Pt.pp) % Pt.pp + Pt.bb) % Pt.pp
def onB (X Y : Nat) (f : Bool) : Bool:=if f then decide (X = 0) && decide (Y = 0) else decide (X < Pt.pp) && (decide (Y < Pt.pp) && decide (Y * Y % Pt.pp = rightN X))
theorem zhg (x : Fin Pt.pp) : rightN x.val = (x * x * x - 3 * x + Pt.F Pt.bb).val:=by
 unfold rightN
 have e3 : 3 * x.val % Pt.pp = (3 * x).val:=by rw [← Pt.v_mul,v_three]
 have eb : Pt.bb = (Pt.F Pt.bb : Fin Pt.pp).val:=(Nat.mod_eq_of_lt bb_lt).symm
 rw [e3,Pt.v_mul,Pt.v_mul,Pt.v_sub]
 conv => lhs; rw [eb]
 rw [Pt.v_add]
theorem rcmp_out {X : Nat} (h : ¬ X < Pt.pp) : decide (0 ≤ cmpN X Pt.pp) = true:=by
 unfold cmpN
 rw [if_neg h]
 split <;> decide
theorem rcmp_in {X : Nat} (h : X < Pt.pp) (w : World) : Calls Tryz.prog 33 #[nv X,nv Pt.pp] w fun e w' => e = .returned (.int .i64 (-1)) ∧ Ext w w':=by
 have k:=zep X Pt.pp (Nat.lt_trans h zci) zci w
 rw [show cmpN X Pt.pp = -1 by unfold cmpN; rw [if_pos h]] at k
 exact k
section
variable (X Y : Nat)
theorem ron_far (hX : X < top) (hY : Y < top) (w : World) : Calls Tryz.prog 44 #[qv X Y true] w fun e w' => e = .returned (.bool (decide (X = 0) && decide (Y = 0))) ∧ Ext w w':=by
 have kx:=veil fun W => zjq hX W
 have ky:=veil fun W => zjq hY W
 obtain ⟨bx,hbx⟩ : ∃ b,b = decide (X = 0):=⟨_,rfl⟩
 obtain ⟨by',hby⟩ : ∃ b,b = decide (Y = 0):=⟨_,rfl⟩
 rw [← hbx] at kx ⊢
 rw [← hby] at ky ⊢
 clear hbx hby hX hY
 cases bx
 ·
  exact way1 Tryz.func44 [qv X Y true] (.ins 10 (binK .eql 29 (.tmp 8) (.tmp 9) (nv X) (nv 0)) (.bool false) (fun W _ => zbe (gN _ _ _ _ _ W) (kx.out W)) <| .ret _ fun _ h => ⟨rfl,h⟩) (by kernel_rfl)
 ·
  exact way1 Tryz.func44 [qv X Y true] (.ins 10 (binK .eql 29 (.tmp 8) (.tmp 9) (nv X) (nv 0)) (.bool true) (fun W _ => zbe (gN _ _ _ _ _ W) (kx.out W)) <|
   .ins 15 (binK .eql 29 (.tmp 13) (.tmp 14) (nv Y) (nv 0)) (.bool by') (fun W _ => zbe (gN _ _ _ _ _ W) (ky.out W)) <| .ret _ fun _ h => ⟨rfl,h⟩) (by kernel_rfl)
theorem ron_out (hX : X < top) (hlt : ¬ X < Pt.pp) (w : World) : Calls Tryz.prog 44 #[qv X Y false] w fun e w' => e = .returned (.bool false) ∧ Ext w w':=by
 have k:=veil (And.intro hX hlt)
 clear hX hlt
 exact way1 Tryz.func44 [qv X Y false] (.call _ _ _ (fun W _ => zch W) <| .call _ _ _ (fun W _ => zep X Pt.pp k.out.1 zci W) <|
  .ins 21 (binK .geq 3 (.tmp 20) (.const (.int .i64 0)) (.int .i64 (cmpN X Pt.pp)) (.int .i64 0)) _ (fun W _ => zed (rcmp_out k.out.2) W) <| .ret _ fun _ h => ⟨rfl,h⟩) (by kernel_rfl)
theorem ron_high (hX : X < Pt.pp) (hY : Y < top) (hlt : ¬ Y < Pt.pp) (w : World) : Calls Tryz.prog 44 #[qv X Y false] w fun e w' => e = .returned (.bool false) ∧ Ext w w':=by
 have k:=veil (And.intro hX (And.intro hY hlt))
 clear hX hY hlt
 exact way1 Tryz.func44 [qv X Y false] (.call _ _ _ (fun W _ => zch W) <| .call _ _ _ (fun W _ => rcmp_in k.out.1 W) <| .call _ _ _ (fun W _ => zch W) <|
  .call _ _ _ (fun W _ => zep Y Pt.pp k.out.2.1 zci W) <|
  .ins 27 (binK .geq 3 (.tmp 26) (.const (.int .i64 0)) (.int .i64 (cmpN Y Pt.pp)) (.int .i64 0)) _ (fun W _ => zed (rcmp_out k.out.2.2) W) <| .ret _ fun _ h => ⟨rfl,h⟩) (by kernel_rfl)
end
theorem ron_near {x y xx x3 t l d r : Fin Pt.pp} (h1 : xx = x * x) (h2 : x3 = xx * x) (h3 : t = 3 * x) (h4 : l = y * y) (h5 : d = x3 - t) (h6 : r = d + Pt.F Pt.bb) (w : World) :
  Calls Tryz.prog 44 #[qv x.val y.val false] w fun e w' => e = .returned (.bool (decide (l.val = r.val))) ∧ Ext w w':=by
 have k1:=veil h1
 have k2:=veil h2
 have k3:=veil h3
 have k4:=veil h4
 have k5:=veil h5
 have k6:=veil h6
 clear h1 h2 h3 h4 h5 h6
 exact way1 Tryz.func44 [qv x.val y.val false] (.call _ _ _ (fun W _ => zch W) <| .call _ _ _ (fun W _ => rcmp_in x.isLt W) <| .call _ _ _ (fun W _ => zch W) <| .call _ _ _ (fun W _ => rcmp_in y.isLt W) <|
  .call _ _ _ (fun W _ => fmul k1.out W) <| .call _ _ _ (fun W _ => fmul k2.out W) <| .call _ _ _ (fun W _ => fthree k3.out W) <| .call _ _ _ (fun W _ => fmul k4.out W) <|
  .call _ _ _ (fun W _ => fsub k5.out W) <| .call _ _ _ (fun W _ => rb_calls W) <| .call _ _ _ (fun W _ => zch W) <| .call _ _ _ (fun W _ => fplus_b k6.out W) <|
  .ins 52 (binK .eql 29 (.tmp 45) (.tmp 51) (nv l.val) (nv r.val)) (.bool (decide (l.val = r.val))) (fun W _ => zbe (gN _ _ _ _ _ W) (zgd (zbs _) (zbs _) W)) <| .ret _ fun _ h => ⟨rfl,h⟩) (by kernel_rfl)
theorem ron_calls (X Y : Nat) (f : Bool) (hX : X < top) (hY : Y < top) (w : World) :
  Calls Tryz.prog 44 #[.agg #[vI vU (wd X 0),vI vU (wd X 1),vI vU (wd X 2),vI vU (wd X 3),vI vU (wd Y 0),vI vU (wd Y 1),vI vU (wd Y 2),vI vU (wd Y 3),.bool (f)]] w fun e w' => e = .returned (.bool (onB X Y f)) ∧ Below w.heap.size w w':=by
 unfold onB
 cases f with
 | true => exact ron_far X Y hX hY w
 | false =>
  by_cases hx : X < Pt.pp
  ·
   by_cases hy : Y < Pt.pp
   ·
    simp only [Bool.false_eq_true,if_false,hx,hy,decide_true,Bool.true_and]
    have k:=ron_near (x:=⟨X,hx⟩) (y:=⟨Y,hy⟩) rfl rfl rfl rfl rfl rfl w
    rw [← zhg,← Pt.v_mul] at k
    exact k
   ·
    simp only [Bool.false_eq_true,if_false,hx,hy,decide_true,decide_false,Bool.true_and,Bool.false_and]
    exact ron_high X Y hx hY hy w
  ·
   simp only [Bool.false_eq_true,if_false,hx,decide_false,Bool.false_and]
   exact ron_out X Y hX hx w
/-! ### Add -/
section
variable (X Y : Nat)
theorem radd_far1 (X2 Y2 : Nat) (f : Bool) (w : World) : Calls Tryz.prog 50 #[qv X Y true,qv X2 Y2 f] w fun e w' => e = .returned (qv X2 Y2 f) ∧ Ext w w':=by
 exact way1 Tryz.func50 [qv X Y true,qv X2 Y2 f] (.ret _ fun _ h => ⟨rfl,h⟩) (by kernel_rfl)
theorem radd_far2 (X2 Y2 : Nat) (w : World) : Calls Tryz.prog 50 #[qv X Y false,qv X2 Y2 true] w fun e w' => e = .returned (qv X Y false) ∧ Ext w w':=by
 exact way1 Tryz.func50 [qv X Y false,qv X2 Y2 true] (.ret _ fun _ h => ⟨rfl,h⟩) (by kernel_rfl)
end
theorem eql_no {X Y X' Y' : Nat} (hX : X < top) (hY : Y < top) (hX' : X' < top) (hY' : Y' < top) (h : ¬ (X = X' ∧ Y = Y')) (w : World) : (binOp .eql 44 (qv X Y false) (qv X' Y' false)).run Tryz.prog w = .ok (.bool false) w:=by
 have e:=eql_pt hX hY hX' hY' false false w
 rw [decide_eq_false fun ⟨h1,h2,_⟩ => h ⟨h1,h2⟩] at e
 exact e
section
variable {x1 y1 x2 y2 m u d t l a b X c e Y : Fin Pt.pp}
theorem radd_opp (h : m = 0 - y1) (w : World) : Calls Tryz.prog 50 #[qv x1.val m.val false,qv x1.val y1.val false] w fun e w' => e = .returned (qv 0 0 true) ∧ Ext w w':=by
 have k:=veil h
 clear h
 exact way1 Tryz.func50 [qv x1.val m.val false,qv x1.val y1.val false] (.call _ _ _ (fun W _ => rneg_fe x1.val false k.out W) <|
  .ins 20 (binK .eql 44 (.tmp 17) (.tmp 19) (qv x1.val m.val false) (qv x1.val m.val false)) (.bool true) (fun W _ => zbe (gT _ _ _ _ _ _ _ _ _ W) (eqT (zbs _) (zbs _) W)) <| .ret _ fun _ h => ⟨rfl,h⟩) (by kernel_rfl)
theorem radd_else (hm : m = 0 - y2) (hn : ¬ (x1.val = x2.val ∧ y1.val = m.val)) (hs : ¬ (x1.val = x2.val ∧ y1.val = y2.val)) (hu : u = y2 - y1) (hd : d = x2 - x1) (h0 : d ≠ 0) (ht : t = Pt.E256.inv d) (hl : l = u * t)
  (ha : a = l * l) (hb : b = a - x1) (hX : X = b - x2) (hc : c = x1 - X) (he : e = l * c) (hY : Y = e - y1) (w : World) :
  Calls Tryz.prog 50 #[qv x1.val y1.val false,qv x2.val y2.val false] w fun e w' => e = .returned (qv X.val Y.val false) ∧ Ext w w':=by
 have k1:=veil hm
 have k2:=veil hn
 have k3:=veil hs
 have k4:=veil hu
 have k5:=veil hd
 have k6:=veil (And.intro h0 ht)
 have k7:=veil hl
 have k8:=veil ha
 have k9:=veil hb
 have k10:=veil hX
 have k11:=veil hc
 have k12:=veil he
 have k13:=veil hY
 clear hm hn hs hu hd h0 ht hl ha hb hX hc he hY
 exact way1 Tryz.func50 [qv x1.val y1.val false,qv x2.val y2.val false] (.call _ _ _ (fun W _ => rneg_fe x2.val false k1.out W) <|
  .ins 20 (binK .eql 44 (.tmp 17) (.tmp 19) (qv x1.val y1.val false) (qv x2.val m.val false)) (.bool false) (fun W _ => zbe (gT _ _ _ _ _ _ _ _ _ W) (eql_no (zbs _) (zbs _) (zbs _) (zbs _) k2.out W)) <|
  .call _ _ _ (fun W _ => fsub k4.out W) <| .call _ _ _ (fun W _ => fsub k5.out W) <|
  .ins 34 (binK .eql 44 (.tmp 32) (.tmp 33) (qv x1.val y1.val false) (qv x2.val y2.val false)) (.bool false) (fun W _ => zbe (gT _ _ _ _ _ _ _ _ _ W) (eql_no (zbs _) (zbs _) (zbs _) (zbs _) k3.out W)) <|
  .call _ _ _ (fun W _ => zch W) <| .call _ _ _ (fun W _ => finv k6.out.1 k6.out.2 W) <| .call _ _ _ (fun W _ => fmul k7.out W) <| .call _ _ _ (fun W _ => fmul k8.out W) <| .call _ _ _ (fun W _ => fsub k9.out W) <|
  .call _ _ _ (fun W _ => fsub k10.out W) <| .call _ _ _ (fun W _ => fsub k11.out W) <| .call _ _ _ (fun W _ => fmul k12.out W) <| .call _ _ _ (fun W _ => fsub k13.out W) <| .ret _ fun _ h => ⟨rfl,h⟩) (by kernel_rfl)
theorem radd_same {z0 z1 xx g : Fin Pt.pp} (hm : m = 0 - y1) (hn : ¬ (x1.val = x1.val ∧ y1.val = m.val)) (h1 : z0 = y1 - y1) (h2 : z1 = x1 - x1) (h3 : xx = x1 * x1) (h4 : g = xx - 1) (hu : u = 3 * g) (hd : d = y1 + y1) (h0 : d ≠ 0) (ht : t = Pt.E256.inv d) (hl : l = u * t)
  (ha : a = l * l) (hb : b = a - x1) (hX : X = b - x1) (hc : c = x1 - X) (he : e = l * c) (hY : Y = e - y1) (w : World) :
  Calls Tryz.prog 50 #[qv x1.val y1.val false,qv x1.val y1.val false] w fun e w' => e = .returned (qv X.val Y.val false) ∧ Ext w w':=by
 have k1:=veil hm
 have k2:=veil hn
 have k3:=veil (And.intro h1 h2)
 have k4:=veil (And.intro h3 (And.intro h4 hu))
 have k5:=veil hd
 have k6:=veil (And.intro h0 ht)
 have k7:=veil hl
 have k8:=veil ha
 have k9:=veil hb
 have k10:=veil hX
 have k11:=veil hc
 have k12:=veil he
 have k13:=veil hY
 clear hm hn h1 h2 h3 h4 hu hd h0 ht hl ha hb hX hc he hY
 exact way1 Tryz.func50 [qv x1.val y1.val false,qv x1.val y1.val false] (.call _ _ _ (fun W _ => rneg_fe x1.val false k1.out W) <|
  .ins 20 (binK .eql 44 (.tmp 17) (.tmp 19) (qv x1.val y1.val false) (qv x1.val m.val false)) (.bool false) (fun W _ => zbe (gT _ _ _ _ _ _ _ _ _ W) (eql_no (zbs _) (zbs _) (zbs _) (zbs _) k2.out W)) <|
  .call _ _ _ (fun W _ => fsub k3.out.1 W) <| .call _ _ _ (fun W _ => fsub k3.out.2 W) <|
  .ins 34 (binK .eql 44 (.tmp 32) (.tmp 33) (qv x1.val y1.val false) (qv x1.val y1.val false)) (.bool true) (fun W _ => zbe (gT _ _ _ _ _ _ _ _ _ W) (eqT (zbs _) (zbs _) W)) <|
  .call _ _ _ (fun W _ => fmul k4.out.1 W) <| .call _ _ _ (fun W _ => fless k4.out.2.1 W) <| .call _ _ _ (fun W _ => fthree k4.out.2.2 W) <| .call _ _ _ (fun W _ => zch W) <| .call _ _ _ (fun W _ => fadd k5.out W) <|
  .call _ _ _ (fun W _ => zch W) <| .call _ _ _ (fun W _ => finv k6.out.1 k6.out.2 W) <| .call _ _ _ (fun W _ => fmul k7.out W) <| .call _ _ _ (fun W _ => fmul k8.out W) <| .call _ _ _ (fun W _ => fsub k9.out W) <|
  .call _ _ _ (fun W _ => fsub k10.out W) <| .call _ _ _ (fun W _ => fsub k11.out W) <| .call _ _ _ (fun W _ => fmul k12.out W) <| .call _ _ _ (fun W _ => fsub k13.out W) <| .ret _ fun _ h => ⟨rfl,h⟩) (by kernel_rfl)
end
theorem p_top (p : Pt.P Pt.pp) : Pt.pX p < top ∧ Pt.pY p < top:=⟨Nat.lt_trans (Pt.pX_lt p) zci,Nat.lt_trans (Pt.pY_lt p) zci⟩
theorem zgm (p q : Pt.Q) (w : World) :
  Calls Tryz.prog 50 #[.agg #[vI vU (wd (Pt.pX p.1) 0),vI vU (wd (Pt.pX p.1) 1),vI vU (wd (Pt.pX p.1) 2),vI vU (wd (Pt.pX p.1) 3),vI vU (wd (Pt.pY p.1) 0),vI vU (wd (Pt.pY p.1) 1),vI vU (wd (Pt.pY p.1) 2),vI vU (wd (Pt.pY p.1) 3),.bool (Pt.pFar p.1)],.agg #[vI vU (wd (Pt.pX q.1) 0),vI vU (wd (Pt.pX q.1) 1),vI vU (wd (Pt.pX q.1) 2),vI vU (wd (Pt.pX q.1) 3),vI vU (wd (Pt.pY q.1) 0),vI vU (wd (Pt.pY q.1) 1),vI vU (wd (Pt.pY q.1) 2),vI vU (wd (Pt.pY q.1) 3),.bool (Pt.pFar q.1)]] w fun e w' => e = .returned (.agg #[vI vU (wd (Pt.pX (Pt.grp.op p q).1) 0),vI vU (wd (Pt.pX (Pt.grp.op p q).1) 1),vI vU (wd (Pt.pX (Pt.grp.op p q).1) 2),vI vU (wd (Pt.pX (Pt.grp.op p q).1) 3),vI vU (wd (Pt.pY (Pt.grp.op p q).1) 0),vI vU (wd (Pt.pY (Pt.grp.op p q).1) 1),vI vU (wd (Pt.pY (Pt.grp.op p q).1) 2),vI vU (wd (Pt.pY (Pt.grp.op p q).1) 3),.bool (Pt.pFar (Pt.grp.op p q).1)]) ∧ Below w.heap.size w w':=by
 obtain ⟨p,hp⟩:=p
 obtain ⟨q,hq⟩:=q
 show Calls Tryz.prog 50 #[.agg #[vI vU (wd (Pt.pX p) 0),vI vU (wd (Pt.pX p) 1),vI vU (wd (Pt.pX p) 2),vI vU (wd (Pt.pX p) 3),vI vU (wd (Pt.pY p) 0),vI vU (wd (Pt.pY p) 1),vI vU (wd (Pt.pY p) 2),vI vU (wd (Pt.pY p) 3),.bool (Pt.pFar p)],.agg #[vI vU (wd (Pt.pX q) 0),vI vU (wd (Pt.pX q) 1),vI vU (wd (Pt.pX q) 2),vI vU (wd (Pt.pX q) 3),vI vU (wd (Pt.pY q) 0),vI vU (wd (Pt.pY q) 1),vI vU (wd (Pt.pY q) 2),vI vU (wd (Pt.pY q) 3),.bool (Pt.pFar q)]] w fun e w' => e = .returned (.agg #[vI vU (wd (Pt.pX (Pt.E256.add p q)) 0),vI vU (wd (Pt.pX (Pt.E256.add p q)) 1),vI vU (wd (Pt.pX (Pt.E256.add p q)) 2),vI vU (wd (Pt.pX (Pt.E256.add p q)) 3),vI vU (wd (Pt.pY (Pt.E256.add p q)) 0),vI vU (wd (Pt.pY (Pt.E256.add p q)) 1),vI vU (wd (Pt.pY (Pt.E256.add p q)) 2),vI vU (wd (Pt.pY (Pt.E256.add p q)) 3),.bool (Pt.pFar (Pt.E256.add p q))]) ∧ Below w.heap.size w w'
 rcases p with _ | ⟨x1,y1⟩
 ·
  rw [Pt.none_add]
  exact radd_far1 0 0 (Pt.pX q) (Pt.pY q) (Pt.pFar q) w
 ·
  rcases q with _ | ⟨x2,y2⟩
  ·
   rw [Pt.add_none]
   exact radd_far2 x1.val y1.val 0 0 w
  ·
   by_cases h : x1 = x2 ∧ y1 = 0 - y2
   ·
    rw [Pt.add_far h]
    obtain ⟨rfl,rfl⟩:=h
    obtain ⟨m,hm⟩ : ∃ m,m = 0 - y2:=⟨_,rfl⟩
    rw [← hm]
    exact radd_opp hm w
   ·
    rw [Pt.add_near h]
    by_cases hs : x1 = x2 ∧ y1 = y2
    ·
     obtain ⟨rfl,rfl⟩:=hs
     rw [Pt.lam_same]
     obtain ⟨u,hu⟩ : ∃ u,u = 3 * (x1 * x1 - 1):=⟨_,rfl⟩
     obtain ⟨d,hd⟩ : ∃ d,d = y1 + y1:=⟨_,rfl⟩
     obtain ⟨l,hl⟩ : ∃ l,l = u * Pt.E256.inv d:=⟨_,rfl⟩
     rw [← hu,← hd,← hl]
     obtain ⟨X,hX⟩ : ∃ X,X = l * l - x1 - x1:=⟨_,rfl⟩
     obtain ⟨Y,hY⟩ : ∃ Y,Y = l * (x1 - X) - y1:=⟨_,rfl⟩
     rw [show Pt.third x1 y1 x1 l = some (X,Y) by rw [hY,hX]; rfl]
     exact radd_same rfl (fun e => h ⟨rfl,Fin.ext e.2⟩) rfl rfl rfl rfl hu hd (hd ▸ Pt.down_same hp) rfl hl rfl rfl hX rfl rfl hY w
    ·
     rw [Pt.lam_else hs]
     obtain ⟨u,hu⟩ : ∃ u,u = y2 - y1:=⟨_,rfl⟩
     obtain ⟨d,hd⟩ : ∃ d,d = x2 - x1:=⟨_,rfl⟩
     obtain ⟨l,hl⟩ : ∃ l,l = u * Pt.E256.inv d:=⟨_,rfl⟩
     rw [← hu,← hd,← hl]
     obtain ⟨X,hX⟩ : ∃ X,X = l * l - x1 - x2:=⟨_,rfl⟩
     obtain ⟨Y,hY⟩ : ∃ Y,Y = l * (x1 - X) - y1:=⟨_,rfl⟩
     rw [show Pt.third x1 y1 x2 l = some (X,Y) by rw [hY,hX]; rfl]
     exact radd_else rfl (fun e => h ⟨Fin.ext e.1,Fin.ext e.2⟩) (fun e => hs ⟨Fin.ext e.1,Fin.ext e.2⟩) hu hd (hd ▸ Pt.down_else hp hq h hs) rfl hl rfl rfl hX rfl rfl hY w
theorem onB_iff (X Y : Nat) (f : Bool) : onB X Y f = true ↔ Pt.isOn X Y f:=by
 unfold onB Pt.isOn
 cases f with
 | true => simp
 | false =>
  simp only [Bool.false_eq_true,if_false,Bool.and_eq_true,decide_eq_true_eq]
  constructor
  ·
   rintro ⟨hx,hy,h⟩
   refine ⟨hx,hy,(Pt.on_iff _ _).2 (Fin.ext ?_)⟩
   have ex : X = (Pt.F X : Fin Pt.pp).val:=(Nat.mod_eq_of_lt hx).symm
   have ey : Y = (Pt.F Y : Fin Pt.pp).val:=(Nat.mod_eq_of_lt hy).symm
   rw [← Pt.v_mul,← zhg,← ex,← ey]
   exact h
  ·
   rintro ⟨hx,hy,h⟩
   refine ⟨hx,hy,?_⟩
   have ex : X = (Pt.F X : Fin Pt.pp).val:=(Nat.mod_eq_of_lt hx).symm
   have ey : Y = (Pt.F Y : Fin Pt.pp).val:=(Nat.mod_eq_of_lt hy).symm
   have h2:=congrArg Fin.val ((Pt.on_iff _ _).1 h)
   rw [← Pt.v_mul,← zhg,← ex,← ey] at h2
   exact h2
theorem onB_some {X Y : Nat} {f : Bool} (h : onB X Y f = true) : ∃ q : Pt.Q,X = Pt.pX q.1 ∧ Y = Pt.pY q.1 ∧ f = Pt.pFar q.1:=(Pt.isOn_iff X Y f).1 ((onB_iff X Y f).1 h)
theorem onB_of (q : Pt.Q) : onB (Pt.pX q.1) (Pt.pY q.1) (Pt.pFar q.1) = true:=(onB_iff _ _ _).2 ((Pt.isOn_iff _ _ _).2 ⟨q,rfl,rfl,rfl⟩)
def bit (X n : Nat) : Bool:=X / 2 ^ n % 2 == 1
theorem w64_two : w64 = 2 ^ 64:=by decide
theorem w16_two : w16 = 2 ^ 16:=by decide
theorem bit_dg (a n r m : Nat) (hr : r < m) : a / (2 ^ m) ^ n % 2 ^ m / 2 ^ r % 2 = a / 2 ^ (m * n + r) % 2:=by
 have h:=zck (B:=2) (a / (2 ^ m) ^ n) m r hr
 unfold dg at h
 rw [h,← Nat.pow_mul,Nat.div_div_eq_div_mul,← Nat.pow_add]
theorem bit_word (X n : Nat) : (bits BinOp.and IntKind.u64 (wd X (n / 64) / 2 ^ (n % 64)) 1 == 1) = bit X n:=by
 have e : wd X (n / 64) / 2 ^ (n % 64) = ((dg w64 X (n / 64) / 2 ^ (n % 64) : Nat) : Int):=by
  unfold wd
  rw [Int.natCast_ediv]
  simp
 have hlt : dg w64 X (n / 64) / 2 ^ (n % 64) < 18446744073709551616:=Nat.lt_of_le_of_lt (Nat.div_le_self _ _) (dg_lt zak X _)
 rw [e,show (1 : Int) = ((1 : Nat) : Int) from rfl,u64_and_nat _ _ hlt (by omega),Nat.and_one_is_mod]
 have h:=bit_dg X (n / 64) (n % 64) 64 (Nat.mod_lt _ (by omega))
 rw [Nat.div_add_mod] at h
 unfold bit dg
 rw [w64_two,h]
 rw [Bool.eq_iff_iff]
 simp only [beq_iff_eq]
 omega
def ph (X q k : Nat) : Int:=((dg w16 X q / 2 ^ k : Nat) : Int)
theorem ph_lo (X q k : Nat) : 0 ≤ ph X q k:=Int.natCast_nonneg _
theorem ph_lt (X q k : Nat) : ph X q k < 65536:=by
 have h : dg w16 X q / 2 ^ k < 65536:=Nat.lt_of_le_of_lt (Nat.div_le_self _ _) (dg_lt zgy X q)
 unfold ph; omega
theorem ph_zero (X q : Nat) : ph X q 0 = pt X q:=by simp [ph,pt]
theorem ph_succ (X q k : Nat) : ph X q (k + 1) = ph X q k / 2:=by
 unfold ph
 rw [Nat.pow_succ,← Nat.div_div_eq_div_mul,Int.natCast_ediv]
 rfl
theorem ph_bit (X n : Nat) : (ph X (n / 16) (n % 16) % 2 == 1) = bit X n:=by
 have h:=bit_dg X (n / 16) (n % 16) 16 (Nat.mod_lt _ (by omega))
 rw [Nat.div_add_mod] at h
 unfold bit ph dg
 rw [w16_two,← h]
 rw [Bool.eq_iff_iff]
 simp only [beq_iff_eq]
 omega
theorem bit_in (X n : Nat) (hn : n < 256) (w : World) :
  Calls Tryz.prog 105 #[.agg #[vI vU (wd X 0),vI vU (wd X 1),vI vU (wd X 2),vI vU (wd X 3)],.int .i64 (n : Int)] w fun e w' => e = .returned (.bool (bit X n)) ∧ Below w.heap.size w w':=by
 have hq : n / 64 < 4:=by omega
 have h0 : ¬ (n : Int) < 0:=by omega
 have h1 : ¬ (256 : Int) ≤ (n : Int):=by omega
 have hR : (w.alloc (.cells #[vI vU (wd X 0),vI vU (wd X 1),vI vU (wd X 2),vI vU (wd X 3)] 29)).rowIs w.heap.size 29 4 (fun j => .int .u64 (wd X j)):=zag (n:=4) (by simp) rfl (arr4 fun j => .int .u64 (wd X j))
 have c1:=hR.cell hq
 have l1:=wd_lo X (n / 64)
 have u1:=wd_le X (n / 64)
 clear hR
 go_enter Tryz.func105,Tryz.ntmps105
 go_wp2
 go_ret
 rw [← bit_word]
 exact ⟨rfl,(Below.refl _ _).alloc (Nat.le_refl _) _⟩
theorem zec {a b : Int} (h : a = b) : Ending.returned (.int .i64 a) = .returned (.int .i64 b):=by rw [h]
theorem zdv (k i : Nat) (hi : i < 256) (hk : k ≤ 56) : wrap64 ((k : Int) + wrap64 (bitLen i : Int)) = ((k + bitLen i : Nat) : Int):=by
 have:=bitLen_le8 i hi
 rw [IntWalk.wrap64_in (bitLen i : Int) (by omega),IntWalk.wrap64_in _ (by omega)]
 omega
theorem zdc (x b : Nat) (h : 2 ^ b ≤ x) : bitLen x = b + bitLen (x / 2 ^ b) :=
 bitLen_shift x b (by have:=Nat.div_pos h (Nat.two_pow_pos b); omega)
theorem len64_0 (x : Int) (hl : 0 ≤ x) (hu : x ≤ 255) (w : World) : Calls Tryz.prog 140 #[vI vU x] w fun e w' => e = .returned (.int .i64 (bitLen x.toNat)) ∧ w' = w:=by
 have h1 : x ≤ 4294967295:=by omega
 have h2 : x ≤ 65535:=by omega
 have h3 : x ≤ 255:=by omega
 have h0 : 0 ≤ x:=by omega
 clear hu hl
 go_enter Tryz.func140,Tryz.ntmps140
 go_wp2
 go_ret
 refine ⟨zec ?_,rfl⟩
 rw [len8tab_get]
 have h:=zdv 0 x.toNat (by omega) (by omega)
 simpa using h
theorem len64_8 (x : Int) (hl : 256 ≤ x) (hu : x ≤ 65535) (w : World) : Calls Tryz.prog 140 #[vI vU x] w fun e w' => e = .returned (.int .i64 (bitLen x.toNat)) ∧ w' = w:=by
 have h1 : x ≤ 4294967295:=by omega
 have h2 : x ≤ 65535:=by omega
 have h3 : (256 : Int) ≤ x:=by omega
 have h4 : x / 256 ≤ 255:=by omega
 have h0 : 0 ≤ x:=by omega
 clear hu hl
 go_enter Tryz.func140,Tryz.ntmps140
 go_wp2
 go_ret
 refine ⟨zec ?_,rfl⟩
 rw [len8tab_get]
 have e : (x / 256).toNat = x.toNat / 2 ^ 8:=by show _ = x.toNat / 256; omega
 rw [e,zdc x.toNat 8 (by show 256 ≤ x.toNat; omega)]
 exact zdv 8 _ (by rw [← e]; omega) (by omega)
theorem len64_16 (x : Int) (hl : 65536 ≤ x) (hu : x ≤ 16777215) (w : World) : Calls Tryz.prog 140 #[vI vU x] w fun e w' => e = .returned (.int .i64 (bitLen x.toNat)) ∧ w' = w:=by
 have h1 : x ≤ 4294967295:=by omega
 have h2 : (65536 : Int) ≤ x:=by omega
 have h3 : x / 65536 ≤ 255:=by omega
 have h0 : 0 ≤ x:=by omega
 clear hu hl
 go_enter Tryz.func140,Tryz.ntmps140
 go_wp2
 go_ret
 refine ⟨zec ?_,rfl⟩
 rw [len8tab_get]
 have e : (x / 65536).toNat = x.toNat / 2 ^ 16:=by show _ = x.toNat / 65536; omega
 rw [e,zdc x.toNat 16 (by show 65536 ≤ x.toNat; omega)]
 exact zdv 16 _ (by rw [← e]; omega) (by omega)
theorem len64_24 (x : Int) (hl : 16777216 ≤ x) (hu : x ≤ 4294967295) (w : World) : Calls Tryz.prog 140 #[vI vU x] w fun e w' => e = .returned (.int .i64 (bitLen x.toNat)) ∧ w' = w:=by
 have h1 : x ≤ 4294967295:=by omega
 have h2 : (65536 : Int) ≤ x:=by omega
 have h3 : (256 : Int) ≤ x / 65536:=by omega
 have h4 : x / 65536 / 256 ≤ 255:=by omega
 have h0 : 0 ≤ x:=by omega
 clear hu hl
 go_enter Tryz.func140,Tryz.ntmps140
 go_wp2
 go_ret
 refine ⟨zec ?_,rfl⟩
 rw [len8tab_get]
 have e : (x / 65536 / 256).toNat = x.toNat / 2 ^ 24:=by show _ = x.toNat / 16777216; omega
 rw [e,zdc x.toNat 24 (by show 16777216 ≤ x.toNat; omega)]
 exact zdv 24 _ (by rw [← e]; omega) (by omega)
theorem len64_32 (x : Int) (hl : 4294967296 ≤ x) (hu : x ≤ 1099511627775) (w : World) : Calls Tryz.prog 140 #[vI vU x] w fun e w' => e = .returned (.int .i64 (bitLen x.toNat)) ∧ w' = w:=by
 have h1 : (4294967296 : Int) ≤ x:=by omega
 have h2 : x / 4294967296 ≤ 65535:=by omega
 have h3 : x / 4294967296 ≤ 255:=by omega
 have h0 : 0 ≤ x:=by omega
 clear hu hl
 go_enter Tryz.func140,Tryz.ntmps140
 go_wp2
 go_ret
 refine ⟨zec ?_,rfl⟩
 rw [len8tab_get]
 have e : (x / 4294967296).toNat = x.toNat / 2 ^ 32:=by show _ = x.toNat / 4294967296; omega
 rw [e,zdc x.toNat 32 (by show 4294967296 ≤ x.toNat; omega)]
 exact zdv 32 _ (by rw [← e]; omega) (by omega)
theorem len64_40 (x : Int) (hl : 1099511627776 ≤ x) (hu : x ≤ 281474976710655) (w : World) : Calls Tryz.prog 140 #[vI vU x] w fun e w' => e = .returned (.int .i64 (bitLen x.toNat)) ∧ w' = w:=by
 have h1 : (4294967296 : Int) ≤ x:=by omega
 have h2 : x / 4294967296 ≤ 65535:=by omega
 have h3 : (256 : Int) ≤ x / 4294967296:=by omega
 have h4 : x / 4294967296 / 256 ≤ 255:=by omega
 have h0 : 0 ≤ x:=by omega
 clear hu hl
 go_enter Tryz.func140,Tryz.ntmps140
 go_wp2
 go_ret
 refine ⟨zec ?_,rfl⟩
 rw [len8tab_get]
 have e : (x / 4294967296 / 256).toNat = x.toNat / 2 ^ 40:=by show _ = x.toNat / 1099511627776; omega
 rw [e,zdc x.toNat 40 (by show 1099511627776 ≤ x.toNat; omega)]
 exact zdv 40 _ (by rw [← e]; omega) (by omega)
theorem len64_48 (x : Int) (hl : 281474976710656 ≤ x) (hu : x ≤ 72057594037927935) (w : World) : Calls Tryz.prog 140 #[vI vU x] w fun e w' => e = .returned (.int .i64 (bitLen x.toNat)) ∧ w' = w:=by
 have h1 : (4294967296 : Int) ≤ x:=by omega
 have h2 : (65536 : Int) ≤ x / 4294967296:=by omega
 have h3 : x / 4294967296 / 65536 ≤ 255:=by omega
 have h0 : 0 ≤ x:=by omega
 clear hu hl
 go_enter Tryz.func140,Tryz.ntmps140
 go_wp2
 go_ret
 refine ⟨zec ?_,rfl⟩
 rw [len8tab_get]
 have e : (x / 4294967296 / 65536).toNat = x.toNat / 2 ^ 48:=by show _ = x.toNat / 281474976710656; omega
 rw [e,zdc x.toNat 48 (by show 281474976710656 ≤ x.toNat; omega)]
 exact zdv 48 _ (by rw [← e]; omega) (by omega)
theorem len64_56 (x : Int) (hl : 72057594037927936 ≤ x) (hu : x ≤ 18446744073709551615) (w : World) : Calls Tryz.prog 140 #[vI vU x] w fun e w' => e = .returned (.int .i64 (bitLen x.toNat)) ∧ w' = w:=by
 have h1 : (4294967296 : Int) ≤ x:=by omega
 have h2 : (65536 : Int) ≤ x / 4294967296:=by omega
 have h3 : (256 : Int) ≤ x / 4294967296 / 65536:=by omega
 have h4 : x / 4294967296 / 65536 / 256 ≤ 255:=by omega
 have h0 : 0 ≤ x:=by omega
 clear hu hl
 go_enter Tryz.func140,Tryz.ntmps140
 go_wp2
 go_ret
 refine ⟨zec ?_,rfl⟩
 rw [len8tab_get]
 have e : (x / 4294967296 / 65536 / 256).toNat = x.toNat / 2 ^ 56:=by show _ = x.toNat / 72057594037927936; omega
 rw [e,zdc x.toNat 56 (by show 72057594037927936 ≤ x.toNat; omega)]
 exact zdv 56 _ (by rw [← e]; omega) (by omega)
theorem len64_calls (x : Int) (h0 : 0 ≤ x) (h1 : x ≤ 18446744073709551615) (w : World) : Calls Tryz.prog 140 #[vI vU x] w fun e w' => e = .returned (.int .i64 (bitLen x.toNat)) ∧ w' = w:=by
 by_cases a : x ≤ 4294967295
 ·
  by_cases b : x ≤ 65535
  ·
   by_cases c : x ≤ 255
   ·
    exact len64_0 x (by omega) (by omega) w
   ·
    exact len64_8 x (by omega) (by omega) w
  ·
   by_cases c : x ≤ 16777215
   ·
    exact len64_16 x (by omega) (by omega) w
   ·
    exact len64_24 x (by omega) (by omega) w
 ·
  by_cases b : x ≤ 281474976710655
  ·
   by_cases c : x ≤ 1099511627775
   ·
    exact len64_32 x (by omega) (by omega) w
   ·
    exact len64_40 x (by omega) (by omega) w
  ·
   by_cases c : x ≤ 72057594037927935
   ·
    exact len64_48 x (by omega) (by omega) w
   ·
    exact len64_56 x (by omega) (by omega) w
theorem high_zero {X m : Nat} (hX : X < top) (h : ∀ j,m ≤ j → j < 4 → dg w64 X j = 0) : X < w64 ^ m:=by
 have hp : 0 < w64 ^ m:=Nat.pow_pos zak
 have e : X % w64 ^ 4 = X % w64 ^ m % w64 ^ 4:=zjr zak 4 fun i hi => by
  by_cases hlt : i < m
  ·
   rw [zck X m i hlt]
  ·
   rw [h i (by omega) hi]
   unfold dg
   rw [Nat.div_eq_of_lt (Nat.lt_of_lt_of_le (Nat.mod_lt _ hp) (Nat.pow_le_pow_right zak (by omega)))]
   rfl
 rw [Nat.mod_eq_of_lt (show X < w64 ^ 4 from hX)] at e
 have h1:=Nat.mod_le (X % w64 ^ m) (w64 ^ 4)
 have h2:=Nat.mod_lt X hp
 omega
theorem len_word {X m : Nat} (hX : X < top) (h : ∀ j,m + 1 ≤ j → j < 4 → dg w64 X j = 0) (hne : dg w64 X m ≠ 0) : bitLen X = 64 * m + bitLen (dg w64 X m):=by
 have hlt:=high_zero hX h
 have hd : X / w64 ^ m = dg w64 X m:=by
  rw [dg,Nat.mod_eq_of_lt]
  rw [Nat.div_lt_iff_lt_mul (Nat.pow_pos zak),Nat.mul_comm,← Nat.pow_succ]
  exact hlt
 have e : 2 ^ (64 * m) = w64 ^ m:=by rw [w64_two,← Nat.pow_mul]
 rw [← hd] at hne ⊢
 have h1:=bitLen_shift X (64 * m) (by rw [e]; exact hne)
 rw [e] at h1
 exact h1
theorem wd_toNat (X i : Nat) : (wd X i).toNat = dg w64 X i:=by unfold wd; omega
theorem bitLen_le64 (X i : Nat) : bitLen (dg w64 X i) ≤ 64:=by
 unfold bitLen
 split
 ·
  omega
 ·
  rename_i h
  have:=(Nat.log2_lt h).2 (show dg w64 X i < 2 ^ 64 from dg_lt zak X i)
  omega
theorem len_calls (X : Nat) (hX : X < top) (w : World) :
  Calls Tryz.prog 103 #[.agg #[vI vU (wd X 0),vI vU (wd X 1),vI vU (wd X 2),vI vU (wd X 3)]] w fun e w' => e = .returned (.int .i64 (bitLen X)) ∧ Below w.heap.size w w':=by
 go_enter Tryz.func103,Tryz.ntmps103
 go_wp2
 go_loopw [3] (fun i wr => ∃ k : Nat,k ≤ 4 ∧ i = .int .i64 ((k : Int) - 1) ∧ (∀ j,k ≤ j → j < 4 → dg w64 X j = 0) ∧ wr.rowIs w.heap.size 29 4 (fun j => .int .u64 (wd X j)) ∧ Below w.heap.size w wr)
  (fun i _ => (intOf i + 1).toNat)
 case atStart => exact ⟨4,by omega,rfl,by intro j h1 h2; omega,zag (n:=4) (by simp) rfl (arr4 fun j => .int .u64 (wd X j)),(Below.refl _ _).alloc (by simp) _⟩
 case round =>
  obtain ⟨k,hk,hi,hall,hR,hbel⟩:=hrel
  have HALL:=veil hall
  clear hall
  cases k with
  | zero =>
   subst hi
   have h1:=high_zero hX HALL.out
   have hX0 : X = 0:=by simpa using h1
   have HX:=veil hX0
   clear hX0 h1
   go_wp2
   go_ret
   rw [show bitLen X = 0 by rw [HX.out]; rfl]
   exact ⟨rfl,hbel⟩
  | succ m =>
   obtain rfl : _ = Value.int .i64 (m : Int):=hi.trans (by congr 1; omega)
   have hm : m < 4:=by omega
   clear hi
   have c1:=hR.cell hm
   have l1:=wd_lo X m
   have u1:=wd_le X m
   by_cases h : dg w64 X m = 0
   ·
    have hz : (wd X m != 0) = false:=by unfold wd; rw [h]; rfl
    go_wp2
    go_roundw
    case rel => exact ⟨m,by omega,rfl,fun j h1 h2 => by
     by_cases e : j = m
     ·
      rw [e]; exact h
     ·
      exact HALL.out j (by omega) h2,hR,hbel⟩
    case measure => simp [intOf]
   ·
    have hz : (wd X m != 0) = true:=by rw [bne_iff_ne]; unfold wd; omega
    have hw:=len_word hX HALL.out h
    have hb:=bitLen_le64 X m
    have ht:=wd_toNat X m
    have HW:=veil hw
    have HT:=veil ht
    clear hw h ht
    go_wp2_with (go_at_call 140; refine (len64_calls _ l1 u1 _).mono ?_; rintro e w' ⟨rfl,rfl⟩)
    rw [HT.out]
    go_wp2
    go_ret
    rw [HW.out]
    exact ⟨zec (by rw [IntWalk.wrap64_in _ (by omega)]; omega),hbel⟩
theorem top_256 : top = 2 ^ 256:=by unfold top; rw [w64_two,← Nat.pow_mul]
theorem rbit_in (X n : Nat) (hn : n < 256) (w : World) :
  Calls Tryz.prog 93 #[.agg #[vI vU (wd X 0),vI vU (wd X 1),vI vU (wd X 2),vI vU (wd X 3)],.int .i64 (n : Int)] w fun e w' => e = .returned (.bool (bit X n)) ∧ Below w.heap.size w w':=by
 have hq : n / 16 < 16:=by omega
 have h0 : ¬ (n : Int) < 0:=by omega
 have h1 : ¬ (255 : Int) < (n : Int):=by omega
 have hB0 : Below w.heap.size w (w.alloc (.cells #[vI vU (wd X 0),vI vU (wd X 1),vI vU (wd X 2),vI vU (wd X 3)] 29)):=(Below.refl _ _).alloc (Nat.le_refl _) _
 go_enter Tryz.func93,Tryz.ntmps93
 go_wp2_with fail
 refine (zez X _).mono ?_
 rintro e w1 ⟨g1,cap1,rfl,hg1,hp1,hb1⟩
 have hB1:=hB0.trans (hb1.mono (by simp))
 have c1:=hp1.cell hq
 simp only [ptv] at c1
 clear hB0 hb1 hg1 hp1
 go_wp2
 go_loop [5,6] (fun p i => ∃ k : Nat,k ≤ n % 16 ∧ i = .int .i64 k ∧ p = .int .i64 (ph X (n / 16) k)) (fun _ i => n % 16 - (intOf i).toNat)
 case atStart => exact ⟨0,Nat.zero_le _,rfl,by rw [ph_zero]⟩
 case round =>
  obtain ⟨k,hk,rfl,rfl⟩:=hrel
  by_cases hlt : k < n % 16
  ·
   have l1:=ph_lo X (n / 16) k
   have u1 : ph X (n / 16) k ≤ 65535:=by have:=ph_lt X (n / 16) k; omega
   go_wp2
   go_round
   case rel => exact ⟨k + 1,by omega,by go_num,by rw [ph_succ]⟩
   case measure => simp [intOf]; omega
  ·
   have hk' : k = n % 16:=by omega
   have HK:=veil hk'
   clear hk'
   go_wp2
   have l1:=ph_lo X (n / 16) k
   go_ret
   rw [← ph_bit,← HK.out]
   exact ⟨rfl,hB1⟩
theorem bitLen_one {i v : Nat} (h1 : 2 ^ i ≤ v) (h2 : v < 2 ^ (i + 1)) : bitLen v = i + 1:=by
 rw [zdc v i h1]
 have : v / 2 ^ i = 1:=by
  have hp:=Nat.two_pow_pos i
  apply Nat.le_antisymm
  ·
   have:=(Nat.div_lt_iff_lt_mul hp (x:=v) (y:=2)).2 (by rw [Nat.pow_succ] at h2; omega)
   omega
  ·
   exact (Nat.le_div_iff_mul_le hp).2 (by omega)
 rw [this]
 rfl
theorem bitLen_succ (X i : Nat) : bitLen (X % 2 ^ (i + 1)) = if bit X i = true then i + 1 else bitLen (X % 2 ^ i):=by
 have h:=zbv 2 X i
 have hb : bit X i = (dg 2 X i == 1):=rfl
 have hd:=dg_lt (B:=2) (by omega) X i
 have hm:=Nat.mod_lt X (Nat.two_pow_pos i)
 rw [hb,h]
 by_cases e : dg 2 X i = 1
 ·
  rw [e]
  simp only [BEq.rfl,if_true,Nat.mul_one]
  exact bitLen_one (by omega) (by rw [Nat.pow_succ]; omega)
 ·
  have e0 : dg 2 X i = 0:=by omega
  rw [e0]
  simp
def lenK (X i : Nat) : Int:=(bitLen (X % 2 ^ i) : Nat)
theorem lenK_zero (X : Nat) : lenK X 0 = 0:=by simp [lenK,Nat.mod_one,bitLen]
theorem lenK_yes {X i : Nat} (h : bit X i = true) : lenK X (i + 1) = (i : Int) + 1:=by unfold lenK; rw [bitLen_succ,if_pos h]; omega
theorem lenK_no {X i : Nat} (h : bit X i = false) : lenK X (i + 1) = lenK X i:=by unfold lenK; rw [bitLen_succ,h]; rfl
theorem lenK_top {X : Nat} (hX : X < top) : lenK X 256 = (bitLen X : Nat):=by
 rw [top_256] at hX
 unfold lenK
 rw [Nat.mod_eq_of_lt hX]
theorem rlen_calls (X : Nat) (hX : X < top) (w : World) :
  Calls Tryz.prog 92 #[.agg #[vI vU (wd X 0),vI vU (wd X 1),vI vU (wd X 2),vI vU (wd X 3)]] w fun e w' => e = .returned (.int .i64 (bitLen X)) ∧ Below w.heap.size w w':=by
 go_enter Tryz.func92,Tryz.ntmps92
 go_wp2
 go_loopw [3,4] (fun n i wr => ∃ k : Nat,k ≤ 256 ∧ i = .int .i64 k ∧ n = .int .i64 (lenK X k) ∧ wr.rowIs w.heap.size 29 4 (fun j => .int .u64 (wd X j)) ∧ Below w.heap.size w wr)
  (fun _ i _ => 256 - (intOf i).toNat)
 case atStart => exact ⟨0,by omega,rfl,by rw [lenK_zero],zag (n:=4) (by simp) rfl (arr4 fun j => .int .u64 (wd X j)),(Below.refl _ _).alloc (by simp) _⟩
 case round =>
  obtain ⟨k,hk,rfl,rfl,hR,hbel⟩:=hrel
  by_cases hlt : k < 256
  ·
   obtain ⟨c0,c1,c2,c3⟩:=zaj hR
   have hle : (k : Int) ≤ 255:=by omega
   have HLT:=veil hlt
   clear hlt hk
   go_wp2_with fail
   refine (rbit_in X k HLT.out _).mono ?_
   rintro e w1 ⟨rfl,hb1⟩
   have hR1:=zae hR hb1 hR.lt
   have hB1:=hbel.trans (hb1.mono hbel.size)
   clear hR hbel hb1 c0 c1 c2 c3
   cases hb : bit X k with
   | true =>
    go_wp2
    go_roundw
    case rel => exact ⟨k + 1,HLT.out,by go_num,by rw [lenK_yes hb],hR1,hB1⟩
    case measure => simp [intOf]; omega
   | false =>
    go_wp2
    go_roundw
    case rel => exact ⟨k + 1,HLT.out,by go_num,by rw [lenK_no hb],hR1,hB1⟩
    case measure => simp [intOf]; omega
  ·
   obtain rfl : k = 256:=by omega
   go_wp2
   go_ret
   rw [← lenK_top hX]
   exact ⟨rfl,hbel⟩
theorem bl_le {X : Nat} (hX : X < top) : bitLen X ≤ 256:=by
 unfold bitLen
 split
 ·
  omega
 ·
  rename_i h
  have:=(Nat.log2_lt h).2 (show X < 2 ^ 256 by rw [← top_256]; exact hX)
  omega
theorem bl_div (X : Nat) : X / 2 ^ bitLen X = 0:=Nat.div_eq_of_lt (bitLen_spec X).1
theorem zfu (K m : Nat) (q : Pt.Q) : Pt.grp.mul (K / 2 ^ m) q = if bit K m = true then Pt.grp.op (Pt.grp.op (Pt.grp.mul (K / 2 ^ (m + 1)) q) (Pt.grp.mul (K / 2 ^ (m + 1)) q)) q else Pt.grp.op (Pt.grp.mul (K / 2 ^ (m + 1)) q) (Pt.grp.mul (K / 2 ^ (m + 1)) q):=by
 rw [Pt.mul_top]
 have hb : (bit K m = true) = (K / 2 ^ m % 2 = 1):=by unfold bit; simp
 simp only [hb]
def cQ (X Y : Nat) (f : Bool) : List SV:=cN X ++ (cN Y ++ [.v (.bool f)])
def tmT (n : Nat) : List (Nat × SV):=[(2,.p 0 0),(3,.p 1 0),(4,.p 2 0),(5,.p 3 0),(6,.v (.int .i64 ((n : Int) - 1)))]
def tmM (K : Nat) (q p : Pt.Q) : List Blk:=[⟨29,cN K⟩,⟨44,cQ (Pt.pX q.1) (Pt.pY q.1) (Pt.pFar q.1)⟩,⟨44,cQ 0 0 false⟩,⟨44,cQ (Pt.pX p.1) (Pt.pY p.1) (Pt.pFar p.1)⟩]
section
variable {w0 : World} {Post : Value → World → Prop} {J : World → Prop}
def tmNext (K n : Nat) (q p : Pt.Q) (h : n ≤ 256) (h0 : ¬ n = 0) (hp : Pt.grp.mul (K / 2 ^ (n - 1)) q = p) : OT Tryz.prog w0 Post J :=
 .ins 15 (binK .sub 3 (.tmp 14) (.const (.int .i64 1)) (.int .i64 ((n : Int) - 1)) (.int .i64 1)) (.int .i64 (((n - 1 : Nat) : Int) - 1)) (fun _ _ => zji (by omega) (by omega) (by omega)) <|
 .nextG (tmT (n - 1)) (tmM K q p) (∃ l,(l ≤ 256 ∧ l < n) ∧ tmT l = tmT (n - 1) ∧ tmM K q (Pt.grp.mul (K / 2 ^ l) q) = tmM K q p) ⟨n - 1,⟨by omega,by omega⟩,rfl,by rw [hp]⟩
end
theorem rtimes_calls (K : Nat) (hKt : K < top) (q : Pt.Q) (w : World) :
  Calls Tryz.prog 46 #[.agg #[vI vU (wd K 0),vI vU (wd K 1),vI vU (wd K 2),vI vU (wd K 3)],.agg #[vI vU (wd (Pt.pX q.1) 0),vI vU (wd (Pt.pX q.1) 1),vI vU (wd (Pt.pX q.1) 2),vI vU (wd (Pt.pX q.1) 3),vI vU (wd (Pt.pY q.1) 0),vI vU (wd (Pt.pY q.1) 1),vI vU (wd (Pt.pY q.1) 2),vI vU (wd (Pt.pY q.1) 3),.bool (Pt.pFar q.1)]] w fun e w' => e = .returned (.agg #[vI vU (wd (Pt.pX (Pt.grp.mul K q).1) 0),vI vU (wd (Pt.pX (Pt.grp.mul K q).1) 1),vI vU (wd (Pt.pX (Pt.grp.mul K q).1) 2),vI vU (wd (Pt.pX (Pt.grp.mul K q).1) 3),vI vU (wd (Pt.pY (Pt.grp.mul K q).1) 0),vI vU (wd (Pt.pY (Pt.grp.mul K q).1) 1),vI vU (wd (Pt.pY (Pt.grp.mul K q).1) 2),vI vU (wd (Pt.pY (Pt.grp.mul K q).1) 3),.bool (Pt.pFar (Pt.grp.mul K q).1)]) ∧ Below w.heap.size w w':=by
 refine way1 Tryz.func46 [.agg #[vI vU (wd K 0),vI vU (wd K 1),vI vU (wd K 2),vI vU (wd K 3)],.agg #[vI vU (wd (Pt.pX q.1) 0),vI vU (wd (Pt.pX q.1) 1),vI vU (wd (Pt.pX q.1) 2),vI vU (wd (Pt.pX q.1) 3),vI vU (wd (Pt.pY q.1) 0),vI vU (wd (Pt.pY q.1) 1),vI vU (wd (Pt.pY q.1) 2),vI vU (wd (Pt.pY q.1) 3),.bool (Pt.pFar q.1)]] (.call _ _ _ (fun W _ => rlen_calls K hKt W) <|
  .ins 11 (binK .sub 3 (.tmp 10) (.const (.int .i64 1)) (.int .i64 (bitLen K : Int)) (.int .i64 1)) (.int .i64 ((bitLen K : Int) - 1)) (fun _ _ => by have:=bl_le hKt; exact zji rfl (by omega) (by omega)) <|
  .loopG tmT (fun n => tmM K q (Pt.grp.mul (K / 2 ^ n) q)) (fun n => n) (fun n => n ≤ 256) (bitLen K) (bl_le hKt) (tmT (bitLen K)) (tmM K q ⟨none,trivial⟩) ⟨rfl,by rw [bl_div]; rfl⟩ fun n h =>
  .cases (n = 0)
   (fun h0 => .ins 13 (binK .geq 3 (.tmp 12) (.const (.int .i64 0)) (.int .i64 ((n : Int) - 1)) (.int .i64 0)) (.bool false) (fun W _ => zed (decide_eq_false (by omega)) W) <|
    .ret (.agg #[vI vU (wd (Pt.pX (Pt.grp.mul (K / 2 ^ n) q).1) 0),vI vU (wd (Pt.pX (Pt.grp.mul (K / 2 ^ n) q).1) 1),vI vU (wd (Pt.pX (Pt.grp.mul (K / 2 ^ n) q).1) 2),vI vU (wd (Pt.pX (Pt.grp.mul (K / 2 ^ n) q).1) 3),vI vU (wd (Pt.pY (Pt.grp.mul (K / 2 ^ n) q).1) 0),vI vU (wd (Pt.pY (Pt.grp.mul (K / 2 ^ n) q).1) 1),vI vU (wd (Pt.pY (Pt.grp.mul (K / 2 ^ n) q).1) 2),vI vU (wd (Pt.pY (Pt.grp.mul (K / 2 ^ n) q).1) 3),.bool (Pt.pFar (Pt.grp.mul (K / 2 ^ n) q).1)]) fun _ hW => ⟨by rw [h0,Nat.pow_zero,Nat.div_one],hW⟩)
   (fun h0 => .ins 13 (binK .geq 3 (.tmp 12) (.const (.int .i64 0)) (.int .i64 ((n : Int) - 1)) (.int .i64 0)) (.bool true) (fun W _ => zed (decide_eq_true (by omega)) W) <|
    .call _ _ _ (fun W _ => zgm (Pt.grp.mul (K / 2 ^ n) q) (Pt.grp.mul (K / 2 ^ n) q) W) <|
    .cases (bit K (n - 1) = true)
     (fun hb => .call _ #[.agg #[vI vU (wd K 0),vI vU (wd K 1),vI vU (wd K 2),vI vU (wd K 3)],.int .i64 ((n : Int) - 1)] (.bool true) (fun W _ => by have k:=rbit_in K (n - 1) (by omega) W; rw [hb,show ((n - 1 : Nat) : Int) = (n : Int) - 1 by omega] at k; exact k) <|
      .call _ _ _ (fun W _ => zgm (Pt.grp.op (Pt.grp.mul (K / 2 ^ n) q) (Pt.grp.mul (K / 2 ^ n) q)) q W) <| tmNext K n q _ h h0 (by rw [zfu,if_pos hb,show n - 1 + 1 = n by omega]))
     (fun hb => .call _ #[.agg #[vI vU (wd K 0),vI vU (wd K 1),vI vU (wd K 2),vI vU (wd K 3)],.int .i64 ((n : Int) - 1)] (.bool false) (fun W _ => by have k:=rbit_in K (n - 1) (by omega) W; rw [Bool.eq_false_iff.2 hb,show ((n - 1 : Nat) : Int) = (n : Int) - 1 by omega] at k; exact k) <|
      tmNext K n q _ h h0 (by rw [zfu,if_neg hb,show n - 1 + 1 = n by omega])))) (by kernel_rfl)
theorem rbase_calls (w : World) : Calls Tryz.prog 49 #[] w fun e w' => e = .returned (.agg #[vI vU (wd (Pt.gx) 0),vI vU (wd (Pt.gx) 1),vI vU (wd (Pt.gx) 2),vI vU (wd (Pt.gx) 3),vI vU (wd (Pt.gy) 0),vI vU (wd (Pt.gy) 1),vI vU (wd (Pt.gy) 2),vI vU (wd (Pt.gy) 3),.bool (false)]) ∧ Below w.heap.size w w' :=
 way1 Tryz.func49 [] (.ret _ fun _ h => ⟨rfl,h⟩) (by kernel_rfl)
theorem gin_small (X M : Nat) (hX : X < M) (hM : M < top) (w : World) :
  Calls Tryz.prog 51 #[.agg #[vI vU (wd X 0),vI vU (wd X 1),vI vU (wd X 2),vI vU (wd X 3)],.agg #[vI vU (wd M 0),vI vU (wd M 1),vI vU (wd M 2),vI vU (wd M 3)]] w fun e w' => e = .returned (.agg #[vI vU (wd X 0),vI vU (wd X 1),vI vU (wd X 2),vI vU (wd X 3)]) ∧ Below w.heap.size w w':=by
 have k:=veil fun W => zfc X M true (decide_eq_true hX) (Nat.lt_trans hX hM) hM W
 clear hX hM
 exact way1 Tryz.func51 [.agg #[vI vU (wd X 0),vI vU (wd X 1),vI vU (wd X 2),vI vU (wd X 3)],.agg #[vI vU (wd M 0),vI vU (wd M 1),vI vU (wd M 2),vI vU (wd M 3)]] (.call _ _ _ (fun W _ => k.out W) <| .ret _ fun _ h => ⟨rfl,h⟩) (by kernel_rfl)
def top2 : Nat:=w64 ^ 8
theorem acc_startw (X Y M n : Nat) (h : Y < w64 ^ n) : acc X Y M (64 * n) = 0:=by
 have e : (2 : Nat) ^ 64 = w64:=rfl
 unfold acc; rw [Nat.pow_mul,e,Nat.div_eq_of_lt h]; simp
def cW (n : Nat) : List SV:=cN n ++ [.v (.int .u64 (wd n 4)),.v (.int .u64 (wd n 5)),.v (.int .u64 (wd n 6)),.v (.int .u64 (wd n 7))]
theorem gcut_calls (Z M : Nat) (hZ : Z < top2) (hM1 : 1 < M) (hM : M < top) (w : World) :
  Calls Tryz.prog 96 #[.agg #[vI vU (wd Z 0),vI vU (wd Z 1),vI vU (wd Z 2),vI vU (wd Z 3),vI vU (wd Z 4),vI vU (wd Z 5),vI vU (wd Z 6),vI vU (wd Z 7)],.agg #[vI vU (wd M 0),vI vU (wd M 1),vI vU (wd M 2),vI vU (wd M 3)]] w fun e w' => e = .returned (.agg #[vI vU (wd (Z % M) 0),vI vU (wd (Z % M) 1),vI vU (wd (Z % M) 2),vI vU (wd (Z % M) 3)]) ∧ Below w.heap.size w w' :=
 let T0 (k : Int) : List (Nat × SV):=[(2,.p 0 0),(3,.p 1 0),(4,.p 2 0),(5,.p 3 0),(6,.p 4 0),(7,.v (.int .i64 k))]
 let M0 (V : Nat) : List Blk:=[⟨142,cW Z⟩,⟨29,cN M⟩,⟨29,cZ⟩,⟨29,cN V⟩,⟨29,cN 1⟩]
 way1 Tryz.func96 [.agg #[vI vU (wd Z 0),vI vU (wd Z 1),vI vU (wd Z 2),vI vU (wd Z 3),vI vU (wd Z 4),vI vU (wd Z 5),vI vU (wd Z 6),vI vU (wd Z 7)],.agg #[vI vU (wd M 0),vI vU (wd M 1),vI vU (wd M 2),vI vU (wd M 3)]] (.call _ _ _ (fun W _ => gin_small 1 M hM1 hM W) <| .unroll 9 <| gword 2 8 9 (T0 7) M0 1 Z M 7 hM1 hM 0 (acc_startw 1 Z M 8 hZ).symm fun V h => gword 2 8 9 (T0 6) M0 1 Z M 6 hM1 hM V h fun V h => gword 2 8 9 (T0 5) M0 1 Z M 5 hM1 hM V h fun V h => gword 2 8 9 (T0 4) M0 1 Z M 4 hM1 hM V h fun V h => gword 2 8 9 (T0 3) M0 1 Z M 3 hM1 hM V h fun V h => gword 2 8 9 (T0 2) M0 1 Z M 2 hM1 hM V h fun V h => gword 2 8 9 (T0 1) M0 1 Z M 1 hM1 hM V h fun V h => gword 2 8 9 (T0 0) M0 1 Z M 0 hM1 hM V h fun V h =>
  .ret (.agg #[vI vU (wd V 0),vI vU (wd V 1),vI vU (wd V 2),vI vU (wd V 3)]) fun _ hW => ⟨by rw [h,Nat.mul_zero,acc_end,Nat.one_mul],hW⟩) (by kernel_rfl)
theorem top_le_top2 : top ≤ top2:=by
 show w64 ^ 4 ≤ w64 ^ 8
 exact Nat.pow_le_pow_right zak (by omega)
theorem gcut_num (X M P : Nat) (hP : X % M = P) (hX : X < top) (hM1 : 1 < M) (hM : M < top) (w : World) :
  Calls Tryz.prog 96 #[.agg #[vI vU (wd X 0),vI vU (wd X 1),vI vU (wd X 2),vI vU (wd X 3),vI vU 0,vI vU 0,vI vU 0,vI vU 0],.agg #[vI vU (wd M 0),vI vU (wd M 1),vI vU (wd M 2),vI vU (wd M 3)]] w fun e w' => e = .returned (.agg #[vI vU (wd P 0),vI vU (wd P 1),vI vU (wd P 2),vI vU (wd P 3)]) ∧ Below w.heap.size w w':=by
 subst hP
 obtain ⟨e4,e5,e6,e7⟩:=num_wide X hX
 have h:=gcut_calls X M (Nat.lt_of_lt_of_le hX top_le_top2) hM1 hM w
 rw [e4,e5,e6,e7] at h
 exact h
theorem gin_big (X M P : Nat) (hP : X % M = P) (hX : X < top) (hXM : decide (X < M) = false) (hM1 : 1 < M) (hM : M < top) (w : World) :
  Calls Tryz.prog 51 #[.agg #[vI vU (wd X 0),vI vU (wd X 1),vI vU (wd X 2),vI vU (wd X 3)],.agg #[vI vU (wd M 0),vI vU (wd M 1),vI vU (wd M 2),vI vU (wd M 3)]] w fun e w' => e = .returned (.agg #[vI vU (wd P 0),vI vU (wd P 1),vI vU (wd P 2),vI vU (wd P 3)]) ∧ Below w.heap.size w w':=by
 have k:=veil (And.intro (fun W => zfc X M false hXM hX hM W) (fun W => gcut_num X M P hP hX hM1 hM W))
 clear hP hX hXM hM1 hM
 exact way1 Tryz.func51 [.agg #[vI vU (wd X 0),vI vU (wd X 1),vI vU (wd X 2),vI vU (wd X 3)],.agg #[vI vU (wd M 0),vI vU (wd M 1),vI vU (wd M 2),vI vU (wd M 3)]] (.call _ _ _ (fun W _ => k.out.1 W) <| .call _ _ _ (fun W _ => k.out.2 W) <| .ret _ fun _ h => ⟨rfl,h⟩) (by kernel_rfl)
theorem gin_calls (X M : Nat) (hX : X < top) (hM1 : 1 < M) (hM : M < top) (w : World) :
  Calls Tryz.prog 51 #[.agg #[vI vU (wd X 0),vI vU (wd X 1),vI vU (wd X 2),vI vU (wd X 3)],.agg #[vI vU (wd M 0),vI vU (wd M 1),vI vU (wd M 2),vI vU (wd M 3)]] w fun e w' => e = .returned (.agg #[vI vU (wd (X % M) 0),vI vU (wd (X % M) 1),vI vU (wd (X % M) 2),vI vU (wd (X % M) 3)]) ∧ Below w.heap.size w w':=by
 by_cases h : X < M
 ·
  rw [Nat.mod_eq_of_lt h]; exact gin_small X M h hM w
 ·
  exact gin_big X M _ rfl hX (by simpa using h) hM1 hM w
end Go.Proofs.YtihophdbkjhopaaGreatDoor
namespace Go.Proofs.YtihophdbkjhopaaGreatDoor.Pt
theorem nn_big : 3 < nn:=by decide +kernel
theorem nn_root : ∃ g : Fin nn,Root g:=by
 obtain ⟨ps,hp,h⟩:=(tab_pr tab [2] two_only tab_ok (0xffffffff00000000ffffffffffffffffbce6faada7179e84f3b9cac2fc632551,7,[2,2,2,2,3,71,131,373,3407,17449,38189,187019741,622491383,1002328039319,2624747550333869278416773953]) (by decide +kernel)).2
 exact ⟨_,(row_root (n:=nn) hp h).2⟩
abbrev Ne:=Fin nn
theorem nn_one : 1 < nn:=by have:=nn_big; omega
section
variable {n : Nat} [NeZero n]
theorem uniq_inv {x y z : Fin n} (h1 : x * y = 1) (h2 : x * z = 1) : y = z:=by
 have e : y = y * (x * z):=by rw [h2,zgr]
 rw [e,← zes,zfn y x,h1,zfm]
theorem F_vlt {a : Nat} (h : a < n) : (F a : Fin n).val = a:=Nat.mod_eq_of_lt h
theorem F_mul_one (hn : 1 < n) {a t : Nat} (h : a * t % n = 1) : (F a : Fin n) * F t = 1:=by
 rw [← F_mul]
 apply Fin.ext
 rw [val_one hn]
 exact h
def gi (x : Fin n) : Fin n:=pf x (n - 2)
theorem gi_mul (hr : ∃ g : Fin n,Root g) (hn : 1 < n) {x : Fin n} (h : x ≠ 0) : x * gi x = 1:=by
 obtain ⟨g,hg⟩:=hr
 exact zhf hg hn h
theorem gi_of (hr : ∃ g : Fin n,Root g) (hn : 1 < n) {x t : Fin n} (h : x * t = 1) : t = gi x:=by
 have hx : x ≠ 0:=by
  rintro rfl
  have e : (0 : Fin n) * t = 0:=by grobner
  rw [e] at h
  have h2:=congrArg Fin.val h
  rw [Fin.val_zero,val_one hn] at h2
  exact absurd h2 (by decide)
 exact uniq_inv h (gi_mul hr hn hx)
end
section
variable (n : Nat) [NeZero n]
def iG (a : Nat) : Nat:=(gi (F a : Fin n)).val
theorem iG_lt (a : Nat) : iG n a < n:=(gi (F a : Fin n)).isLt
theorem iG_of (hr : ∃ g : Fin n,Root g) (hn : 1 < n) {a t : Nat} (ht : t < n) (h : a * t % n = 1) : t = iG n a:=by
 have e2:=congrArg Fin.val (gi_of hr hn (F_mul_one hn h))
 rw [F_vlt ht] at e2
 exact e2
omit [NeZero n] in
theorem gcd_of (hp : ∀ d,d ∣ n → d = 1 ∨ d = n) {a : Nat} (h0 : a ≠ 0) (h : a < n) : Nat.gcd a n = 1:=by
 rcases hp _ (Nat.gcd_dvd_right a n) with h1 | h1
 ·
  exact h1
 ·
  exfalso
  have h2:=Nat.gcd_dvd_left a n
  rw [h1] at h2
  have h3:=Nat.le_of_dvd (Nat.pos_of_ne_zero h0) h2
  omega
end
theorem gcd_nn {a : Nat} (h0 : a ≠ 0) (h : a < nn) : Nat.gcd a nn = 1:=gcd_of nn nn_pr.2 h0 h
/-! ### multiples -/
/-! ### signatures -/
def rOf (k : Nat) : Nat:=pX (grp.mul k base).1 % nn
def sOf (d e k : Nat) : Nat:=iG nn k * ((e % nn + rOf k * d % nn) % nn) % nn
def inR (x : Nat) : Bool:=decide (x ≠ 0) && decide (x < nn)
theorem inR_iff (x : Nat) : inR x = true ↔ x ≠ 0 ∧ x < nn:=by simp [inR]
def sumOf (q : Q) (e r s : Nat) : Q:=grp.op (grp.mul (e % nn * iG nn s % nn) base) (grp.mul (r * iG nn s % nn) q)
def verB (q : Q) (e r s : Nat) : Bool:=!pFar q.1 && inR r && inR s && !pFar (sumOf q e r s).1 && decide (pX (sumOf q e r s).1 % nn = r)
end Go.Proofs.YtihophdbkjhopaaGreatDoor.Pt
namespace Go.Proofs.YtihophdbkjhopaaGreatDoor
open Go.RowKit
open Go.Value renaming int → vI
open Go.IntKind renaming u64 → vU
open Go.Act renaming put → aP
open List renaming setIfInBounds_toArray → lA, set_cons_zero → lZ, set_cons_succ → lS
/-! ### points -/
def pv (q : Pt.Q) : Value:=qv (Pt.pX q.1) (Pt.pY q.1) (Pt.pFar q.1)
theorem base_x : Pt.pX Pt.base.1 = Pt.gx ∧ Pt.pY Pt.base.1 = Pt.gy ∧ Pt.pFar Pt.base.1 = false:=by decide +kernel
theorem rbase_is (w : World) : Calls Tryz.prog 49 #[] w fun e w' => e = .returned (qv Pt.gx Pt.gy false) ∧ Ext w w':=rbase_calls w
theorem rmulq_is {K : Nat} (hK : K < top) {p q : Pt.Q} (hq : q = Pt.grp.mul K p) (w : World) : Calls Tryz.prog 46 #[nv K,qv (Pt.pX p.1) (Pt.pY p.1) (Pt.pFar p.1)] w fun e w' => e = .returned (qv (Pt.pX q.1) (Pt.pY q.1) (Pt.pFar q.1)) ∧ Ext w w':=by
 subst hq; exact rtimes_calls K hK p w
theorem rmulb_is {K : Nat} (hK : K < top) {q : Pt.Q} (hq : q = Pt.grp.mul K Pt.base) (w : World) : Calls Tryz.prog 46 #[nv K,qv Pt.gx Pt.gy false] w fun e w' => e = .returned (qv (Pt.pX q.1) (Pt.pY q.1) (Pt.pFar q.1)) ∧ Ext w w':=by
 have h:=rmulq_is hK hq w
 rwa [base_x.1,base_x.2.1,base_x.2.2] at h
theorem rmulp_is {K X Y : Nat} {f : Bool} (hK : K < top) {p q : Pt.Q} (hp : X = Pt.pX p.1 ∧ Y = Pt.pY p.1 ∧ f = Pt.pFar p.1) (hq : q = Pt.grp.mul K p) (w : World) : Calls Tryz.prog 46 #[nv K,qv X Y f] w fun e w' => e = .returned (qv (Pt.pX q.1) (Pt.pY q.1) (Pt.pFar q.1)) ∧ Ext w w':=by
 obtain ⟨rfl,rfl,rfl⟩:=hp
 exact rmulq_is hK hq w
theorem radd_at {a b c : Pt.Q} {x z : Nat} {f : Bool} (hc : c = Pt.grp.op a b) (hx : x = Pt.pX c.1) (hz : z = Pt.pY c.1) (hf : Pt.pFar c.1 = f) (w : World) : Calls Tryz.prog 50 #[qv (Pt.pX a.1) (Pt.pY a.1) (Pt.pFar a.1),qv (Pt.pX b.1) (Pt.pY b.1) (Pt.pFar b.1)] w fun e w' => e = .returned (qv x z f) ∧ Ext w w':=by
 subst hx hz hf hc; exact zgm a b w
theorem ron_is {X Y : Nat} {f r : Bool} (h : onB X Y f = r) (hX : X < top) (hY : Y < top) (w : World) : Calls Tryz.prog 44 #[qv X Y f] w fun e w' => e = .returned (.bool r) ∧ Ext w w':=by
 subst h; exact ron_calls X Y f hX hY w
theorem rmay_is {X : Nat} {r : Bool} (h : mayB X = r) (hX : X < top) (w : World) : Calls Tryz.prog 13 #[nv X] w fun e w' => e = .returned (.bool r) ∧ Ext w w':=by
 subst h; exact may_calls X hX w
/-! ### numbers modulo n -/
theorem nn_1 : 1 < Pt.nn:=Pt.nn_one
theorem nn_pos : 0 < Pt.nn:=Nat.lt_trans Nat.zero_lt_one nn_1
theorem mod_nn {M X : Nat} (h : M = X % Pt.nn) : M < Pt.nn:=by rw [h]; exact Nat.mod_lt _ nn_pos
theorem mod_top {M X : Nat} (h : M = X % Pt.nn) : M < top:=Nat.lt_trans (mod_nn h) zdp
theorem mul_top {M X Y : Nat} (h : M = X * Y % Pt.nn) : M < top:=mod_top h
theorem inv_nn {t S : Nat} (h : t = Pt.iG Pt.nn S) : t < Pt.nn:=by rw [h]; exact Pt.iG_lt Pt.nn S
theorem zhk {t S : Nat} (h : t = Pt.iG Pt.nn S) : t < top:=Nat.lt_trans (inv_nn h) zdp
theorem may_lt {X : Nat} (h : mayB X = true) : X < Pt.nn:=((Pt.inR_iff X).1 h).2
theorem may_ne {X : Nat} (h : mayB X = true) : X ≠ 0:=((Pt.inR_iff X).1 h).1
theorem rinn_is {X M : Nat} (hM : M = X % Pt.nn) (hX : X < top) (w : World) : Calls Tryz.prog 51 #[nv X,nv Pt.nn] w fun e w' => e = .returned (nv M) ∧ Ext w w':=by
 subst hM; exact gin_calls X Pt.nn hX nn_1 zdp w
theorem rmuln_is {X Y Z : Nat} (hZ : Z = X * Y % Pt.nn) (hX : X < Pt.nn) (hY : Y < top) (w : World) : Calls Tryz.prog 94 #[nv X,nv Y,nv Pt.nn] w fun e w' => e = .returned (nv Z) ∧ Ext w w':=by
 subst hZ; exact gmul_calls X Y Pt.nn hX hY zdp w
theorem rinvn_is {X t : Nat} (h0 : X ≠ 0) (hX : X < Pt.nn) (ht : t = Pt.iG Pt.nn X) (w : World) : Calls Tryz.prog 45 #[nv X,nv Pt.nn] w fun e w' => e = .returned (.tuple #[nv t,.bool true]) ∧ Ext w w':=by
 refine (ginv_calls X Pt.nn hX nn_1 (by decide +kernel) zdp w).mono ?_
 rintro e w' ⟨y,hy,hi,rfl,hb⟩
 have hg:=Pt.gcd_nn h0 hX
 have e1 : y = t:=by rw [ht]; exact Pt.iG_of Pt.nn Pt.nn_root Pt.nn_one hy (hi hg)
 rw [hg,e1]
 exact ⟨rfl,hb⟩
theorem rofd_is {y : Nat → Nat} {X : Nat} (hy : ∀ j,y j < 256) (hX : X = num32 y) {g : Nat} (w : World) (hb : w.heap[g]? = some (.cells (dgc y) 23 (0,0))) : Calls Tryz.prog 75 #[.slice (some ⟨g,0,none⟩) 32 32] w fun e w' => e = .returned (nv X) ∧ Ext w w':=by
 subst hX
 exact rof_some g 0 32 32 y hy (by decide) w (Array.getElem?_eq_some_iff.1 hb).1 (fun j hj => by rw [Nat.zero_add,cell_of_row w g j _ _ _ hb]; exact zca _ hj)
end Go.Proofs.YtihophdbkjhopaaGreatDoor
