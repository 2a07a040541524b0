/-
  Of Is FAdd FShr FSub.
-/
import Derived.Deep.CutRange
import Derived.Test.YtbfkecfcolcclaaGreatDoorZA8
import Derived.Test.YtbfkecfcolcclaaGreatDoorZA7
import Derived.Test.YtbfkecfcolcclaaGreatDoorZA2
import Derived.Test.YtbfkecfcolcclaaGreatDoorZA1
set_option maxRecDepth 1000000
set_option maxHeartbeats 20000000
namespace Go.Proofs.YtbfkecfcolcclaaGreatDoor
open Go.RowKit
open Go.Value renaming int → vI
open Go.IntKind renaming u64 → vU
open Go.Act renaming put → aP
open List renaming setIfInBounds_toArray → lA, set_cons_zero → lZ, set_cons_succ → lS
theorem kadd (X Y Z : Nat) (u : Bool) (h : (X + Y) % top = Z) (h2 : decide (top ≤ X + Y) = u) (hX : X < top) (hY : Y < top) (w : World) :
  Calls Tryz.prog 183 #[.agg #[vI vU (wd X 0),vI vU (wd X 1),vI vU (wd X 2),vI vU (wd X 3)],.agg #[vI vU (wd Y 0),vI vU (wd Y 1),vI vU (wd Y 2),vI vU (wd Y 3)]] w fun e w' => e = .returned (.tuple #[.agg #[vI vU (wd Z 0),vI vU (wd Z 1),vI vU (wd Z 2),vI vU (wd Z 3)],.bool u]) ∧ Below w.heap.size w w':=by
 subst h; subst h2; exact add_calls X Y hX hY w
theorem ksub (X Y Z : Nat) (u : Bool) (h : (X + top - Y) % top = Z) (h2 : decide (X < Y) = u) (hX : X < top) (hY : Y < top) (w : World) :
  Calls Tryz.prog 149 #[.agg #[vI vU (wd X 0),vI vU (wd X 1),vI vU (wd X 2),vI vU (wd X 3)],.agg #[vI vU (wd Y 0),vI vU (wd Y 1),vI vU (wd Y 2),vI vU (wd Y 3)]] w fun e w' => e = .returned (.tuple #[.agg #[vI vU (wd Z 0),vI vU (wd Z 1),vI vU (wd Z 2),vI vU (wd Z 3)],.bool u]) ∧ Below w.heap.size w w':=by
 subst h; subst h2; exact sub_calls X Y hX hY w
theorem kcmp (X Y : Nat) (c : Int) (h : cmpN X Y = c) (hX : X < top) (hY : Y < top) (w : World) :
  Calls Tryz.prog 143 #[.agg #[vI vU (wd X 0),vI vU (wd X 1),vI vU (wd X 2),vI vU (wd X 3)],.agg #[vI vU (wd Y 0),vI vU (wd Y 1),vI vU (wd Y 2),vI vU (wd Y 3)]] w fun e w' => e = .returned (.int .i64 c) ∧ Below w.heap.size w w':=by
 subst h; exact cmp_calls X Y hX hY w
theorem kbit (X n : Nat) (b : Bool) (h : bit X n = b) (hn : n < 256) (w : World) :
  Calls Tryz.prog 146 #[.agg #[vI vU (wd X 0),vI vU (wd X 1),vI vU (wd X 2),vI vU (wd X 3)],.int .i64 (n : Int)] w fun e w' => e = .returned (.bool b) ∧ Below w.heap.size w w':=by
 subst h; exact bit_in X n hn w
theorem kbit0 (X : Nat) (b : Bool) (h : bit X 0 = b) (w : World) :
  Calls Tryz.prog 146 #[.agg #[vI vU (wd X 0),vI vU (wd X 1),vI vU (wd X 2),vI vU (wd X 3)],.int .i64 0] w fun e w' => e = .returned (.bool b) ∧ Below w.heap.size w w' :=
 kbit X 0 b h (by decide) w
theorem kmul (X Y Z : Nat) (h : X * Y = Z) (hX : X < top) (hY : Y < top) (w : World) :
  Calls Tryz.prog 155 #[.agg #[vI vU (wd X 0),vI vU (wd X 1),vI vU (wd X 2),vI vU (wd X 3)],.agg #[vI vU (wd Y 0),vI vU (wd Y 1),vI vU (wd Y 2),vI vU (wd Y 3)]] w fun e w' => e = .returned (.agg #[vI vU (wd Z 0),vI vU (wd Z 1),vI vU (wd Z 2),vI vU (wd Z 3),vI vU (wd Z 4),vI vU (wd Z 5),vI vU (wd Z 6),vI vU (wd Z 7)]) ∧ Below w.heap.size w w':=by
 subst h; exact mul_calls X Y hX hY w
theorem cmp_ge (X Y : Nat) : (0 ≤ cmpN X Y) = ¬ X < Y:=by
 unfold cmpN; split
 ·
  simp; omega
 ·
  split <;> simp <;> omega
theorem fsum_num {X Y M : Nat} (hX : X < M) (hY : Y < M) (hM : M ≤ top) : (X + Y) % M = if top ≤ X + Y ∨ ¬ (X + Y) % top < M then ((X + Y) % top + top - M) % top else (X + Y) % top:=by
 by_cases h : top ≤ X + Y
 ·
  rw [if_pos (Or.inl h)]
  have e : (X + Y) % top = X + Y - top:=by rw [Nat.mod_eq_sub_mod h,Nat.mod_eq_of_lt (by omega)]
  rw [e,Nat.mod_eq_sub_mod (by omega),Nat.mod_eq_of_lt (by omega),Nat.mod_eq_of_lt (by omega)]; omega
 ·
  rw [Nat.mod_eq_of_lt (by omega : X + Y < top)]
  by_cases h2 : X + Y < M
  ·
   rw [if_neg (by omega),Nat.mod_eq_of_lt h2]
  ·
   rw [if_pos (Or.inr h2),Nat.mod_eq_sub_mod (by omega),Nat.mod_eq_of_lt (by omega),show X + Y + top - M = (X + Y - M) + top by omega,Nat.add_mod_right,Nat.mod_eq_of_lt (by omega)]
theorem fadd_over (b X Y M : Nat) (N : Int) (Q : Nat) (S : Nat) (hX0 : X < top) (hY0 : Y < top) (hM : M < top) (hS : (X + Y) % top = S) (hu : decide (top ≤ X + Y) = true) (D : Nat) (hD : (S + top - M) % top = D) (w : World) (hF : Fb w b M N Q) :
  Calls Tryz.prog 182 #[.pointer (some ⟨b,0,none⟩),.agg #[vI vU (wd X 0),vI vU (wd X 1),vI vU (wd X 2),vI vU (wd X 3)],.agg #[vI vU (wd Y 0),vI vU (wd Y 1),vI vU (wd Y 2),vI vU (wd Y 3)]] w fun e w' => e = .returned (.agg #[vI vU (wd D 0),vI vU (wd D 1),vI vU (wd D 2),vI vU (wd D 3)]) ∧ Below w.heap.size w w' :=
 way1 Tryz.func182 [(.pointer (some ⟨b,0,none⟩)),.agg #[vI vU (wd X 0),vI vU (wd X 1),vI vU (wd X 2),vI vU (wd X 3)],.agg #[vI vU (wd Y 0),vI vU (wd Y 1),vI vU (wd Y 2),vI vU (wd Y 3)]] (.call _ _ _ (fun W _ => kadd X Y S true hS hu hX0 hY0 W) <| .ins 30 (Instr.loadAt 58 (.pointer (some ⟨b,0,none⟩))) (.agg #[vI vU (wd M 0),vI vU (wd M 1),vI vU (wd M 2),vI vU (wd M 3)]) (fun W hW => zbs (hF.call hW)) <| .call _ _ _ (fun W _ => ksub S M D _ hD rfl (by rw [← hS]; exact Nat.mod_lt _ zbd) hM W) <| .ret _ fun _ h => ⟨rfl,h⟩) (by kernel_rfl)
theorem fadd_less (b X Y M : Nat) (N : Int) (Q : Nat) (S : Nat) (hX0 : X < top) (hY0 : Y < top) (hM : M < top) (hS : (X + Y) % top = S) (hu : decide (top ≤ X + Y) = false) (hl : S < M) (w : World) (hF : Fb w b M N Q) :
  Calls Tryz.prog 182 #[.pointer (some ⟨b,0,none⟩),.agg #[vI vU (wd X 0),vI vU (wd X 1),vI vU (wd X 2),vI vU (wd X 3)],.agg #[vI vU (wd Y 0),vI vU (wd Y 1),vI vU (wd Y 2),vI vU (wd Y 3)]] w fun e w' => e = .returned (.agg #[vI vU (wd S 0),vI vU (wd S 1),vI vU (wd S 2),vI vU (wd S 3)]) ∧ Below w.heap.size w w' :=
 way1 Tryz.func182 [(.pointer (some ⟨b,0,none⟩)),.agg #[vI vU (wd X 0),vI vU (wd X 1),vI vU (wd X 2),vI vU (wd X 3)],.agg #[vI vU (wd Y 0),vI vU (wd Y 1),vI vU (wd Y 2),vI vU (wd Y 3)]] (.call _ _ _ (fun W _ => kadd X Y S false hS hu hX0 hY0 W) <| .ins 21 (Instr.loadAt 58 (.pointer (some ⟨b,0,none⟩))) (.agg #[vI vU (wd M 0),vI vU (wd M 1),vI vU (wd M 2),vI vU (wd M 3)]) (fun W hW => zbs (hF.call hW)) <| .call _ _ _ (fun W _ => kcmp S M (-1) (by unfold cmpN; rw [if_pos hl]) (by rw [← hS]; exact Nat.mod_lt _ zbd) hM W) <| .ret _ fun _ h => ⟨rfl,h⟩) (by kernel_rfl)
theorem fadd_more (b X Y M : Nat) (N : Int) (Q : Nat) (S : Nat) (hX0 : X < top) (hY0 : Y < top) (hM : M < top) (hS : (X + Y) % top = S) (hu : decide (top ≤ X + Y) = false) (hl : ¬ S < M) (D : Nat) (hD : (S + top - M) % top = D) (w : World) (hF : Fb w b M N Q) :
  Calls Tryz.prog 182 #[.pointer (some ⟨b,0,none⟩),.agg #[vI vU (wd X 0),vI vU (wd X 1),vI vU (wd X 2),vI vU (wd X 3)],.agg #[vI vU (wd Y 0),vI vU (wd Y 1),vI vU (wd Y 2),vI vU (wd Y 3)]] w fun e w' => e = .returned (.agg #[vI vU (wd D 0),vI vU (wd D 1),vI vU (wd D 2),vI vU (wd D 3)]) ∧ Below w.heap.size w w' :=
 way1 Tryz.func182 [(.pointer (some ⟨b,0,none⟩)),.agg #[vI vU (wd X 0),vI vU (wd X 1),vI vU (wd X 2),vI vU (wd X 3)],.agg #[vI vU (wd Y 0),vI vU (wd Y 1),vI vU (wd Y 2),vI vU (wd Y 3)]] (.call _ _ _ (fun W _ => kadd X Y S false hS hu hX0 hY0 W) <| .ins 21 (Instr.loadAt 58 (.pointer (some ⟨b,0,none⟩))) (.agg #[vI vU (wd M 0),vI vU (wd M 1),vI vU (wd M 2),vI vU (wd M 3)]) (fun W hW => zbs (hF.call hW)) <| .call _ _ _ (fun W _ => kcmp S M _ rfl (by rw [← hS]; exact Nat.mod_lt _ zbd) hM W) <|
  .ins 23 (binK .geq 3 (.tmp 22) (.const (.int .i64 0)) (.int .i64 (cmpN S M)) (.int .i64 0)) (.bool true) (fun W _ => geq_run (by rw [decide_eq_true]; rw [cmp_ge]; exact hl) W) <|
  .ins 30 (Instr.loadAt 58 (.pointer (some ⟨b,0,none⟩))) (.agg #[vI vU (wd M 0),vI vU (wd M 1),vI vU (wd M 2),vI vU (wd M 3)]) (fun W hW => zbs (hF.call hW)) <| .call _ _ _ (fun W _ => ksub S M D _ hD rfl (by rw [← hS]; exact Nat.mod_lt _ zbd) hM W) <| .ret _ fun _ h => ⟨rfl,h⟩) (by kernel_rfl)
theorem fadd_calls (b X Y M : Nat) (N : Int) (Q Z : Nat) (hX : X < M) (hY : Y < M) (hM : M < top) (hZ : (X + Y) % M = Z) (w : World) (hF : Fb w b M N Q) :
  Calls Tryz.prog 182 #[.pointer (some ⟨b,0,none⟩),.agg #[vI vU (wd X 0),vI vU (wd X 1),vI vU (wd X 2),vI vU (wd X 3)],.agg #[vI vU (wd Y 0),vI vU (wd Y 1),vI vU (wd Y 2),vI vU (wd Y 3)]] w fun e w' => e = .returned (.agg #[vI vU (wd Z 0),vI vU (wd Z 1),vI vU (wd Z 2),vI vU (wd Z 3)]) ∧ Below w.heap.size w w':=by
 have e:=fsum_num hX hY (by omega)
 rw [hZ] at e
 by_cases h : top ≤ X + Y
 ·
  rw [if_pos (Or.inl h)] at e
  exact fadd_over b X Y M N Q _ (by omega) (by omega) hM rfl (by simpa using h) Z e.symm w hF
 ·
  by_cases h2 : (X + Y) % top < M
  ·
   rw [if_neg (by rintro (a | a) <;> contradiction)] at e
   rw [e]
   exact fadd_less b X Y M N Q _ (by omega) (by omega) hM rfl (by simpa using h) h2 w hF
  ·
   rw [if_pos (Or.inr h2)] at e
   exact fadd_more b X Y M N Q _ (by omega) (by omega) hM rfl (by simpa using h) h2 Z e.symm w hF
theorem index_num (M j : Nat) (hj : j < 4) (w : World) : (Instr.index 58 (.agg #[vI vU (wd M 0),vI vU (wd M 1),vI vU (wd M 2),vI vU (wd M 3)]) (.int .i64 (j : Int))).run Tryz.prog w = .ok (.int .u64 (wd M j)) w:=by
 match j,hj with
 | 0,_ => rfl
 | 1,_ => rfl
 | 2,_ => rfl
 | 3,_ => rfl
structure Col (tm mj c x : Int) where
 H : Int
 L : Int
 L1 : Int
 c1 : Int
 L2 : Int
 c2 : Int
 mul : ∀ W : World,Calls Tryz.prog 205 #[vI vU tm,vI vU mj] W fun e w' => e = .returned (.tuple #[vI vU H,vI vU L]) ∧ w' = W
 a1 : ∀ W : World,(callFunc 204 #[vI vU L,vI vU c,vI vU 0]).run Tryz.prog W = .ok (.value (.tuple #[vI vU L1,vI vU c1])) W
 a2 : ∀ W : World,(callFunc 204 #[vI vU x,vI vU L1,vI vU 0]).run Tryz.prog W = .ok (.value (.tuple #[vI vU L2,vI vU c2])) W
 bH : 0 ≤ H
 bL1 : 0 ≤ L1
 bL2 : 0 ≤ L2
 bL2' : L2 ≤ 18446744073709551615
 bc1 : 0 ≤ c1
 bc2 : 0 ≤ c2
 b4 : H + c1 ≤ 18446744073709551615
 b5 : H + c1 + c2 ≤ 18446744073709551615
 sum : L2 + 18446744073709551616 * (H + c1 + c2) = tm * mj + c + x
theorem col_is (tm mj c x : Int) (ht : 0 ≤ tm) (ht2 : tm ≤ 18446744073709551615) (hm : 0 ≤ mj) (hm2 : mj ≤ 18446744073709551615) (hc : 0 ≤ c) (hc2 : c ≤ 18446744073709551615) (hx : 0 ≤ x) (hx2 : x ≤ 18446744073709551615) :
  Nonempty (Col tm mj c x):=by
 obtain ⟨p0,p1⟩:=ma_bound ht ht2 hm hm2
 have hM:=fun W => mul64 tm mj ht ht2 hm hm2 W
 obtain ⟨P,hP⟩ : ∃ P,P = tm * mj:=⟨_,rfl⟩
 rw [← hP] at p0 p1 hM
 refine ⟨⟨P / 18446744073709551616,P % 18446744073709551616,(P % 18446744073709551616 + c + 0) % 18446744073709551616,(P % 18446744073709551616 + c + 0) / 18446744073709551616,
  (x + (P % 18446744073709551616 + c + 0) % 18446744073709551616 + 0) % 18446744073709551616,(x + (P % 18446744073709551616 + c + 0) % 18446744073709551616 + 0) / 18446744073709551616,
  hM,fun W => add64 _ _ _ (by omega) hc (by omega) (by omega) W,fun W => add64 _ _ _ hx (by omega) (by omega) (by omega) W,?_,?_,?_,?_,?_,?_,?_,?_,?_⟩⟩
 all_goals try rw [← hP]
 all_goals omega
theorem dg_nat {a : Int} (h : 0 ≤ a) (M j : Nat) : ((a.toNat * dg w64 M j : Nat) : Int) = a * wd M j:=by
 unfold wd; rw [Int.natCast_mul,Int.toNat_of_nonneg h]
def ShrO (X M k Z T : Nat) (o : Int) : Prop:=Z < top8 ∧ Z % w64 ^ k = 0 ∧ T < w64 ^ k ∧ Z + o.toNat * w64 ^ (k + 4) = X + T * M
def ShrI (M k Z j Z1 : Nat) (tm c : Int) : Prop:=Z1 < top8 ∧ Z1 + c.toNat * w64 ^ (k + j) = Z + tm.toNat * (M % w64 ^ j) * w64 ^ k
theorem shrI_start {M k Z : Nat} {tm : Int} (h : Z < top8) : ShrI M k Z 0 Z tm 0:=by
 refine ⟨h,?_⟩
 rw [Nat.pow_zero,Nat.mod_one]; simp
theorem shrI_step {M k Z j Z1 t : Nat} {tm c : Int} (ht : t = k + j) (ht8 : t < 8) (htm : 0 ≤ tm) (hc : 0 ≤ c) (h : ShrI M k Z j Z1 tm c) (C : Col tm (wd M j) c (wd Z1 t)) :
  ∃ Z',(∀ m,wd Z' m = if m = t then C.L2 else wd Z1 m) ∧ ShrI M k Z (j + 1) Z' tm (C.H + C.c1 + C.c2):=by
 obtain ⟨Z',h1,h2,h3⟩:=setwd Z1 t C.L2 ht8 h.1 C.bL2 C.bL2'
 refine ⟨Z',h2,h1,?_⟩
 subst ht
 refine col_step (c:=c.toNat) (x:=C.L2.toNat) (m:=dg w64 M j) rfl h.2 ?_ h3
 have e:=C.sum
 have e1:=dg_nat htm M j
 rw [← e1] at e
 have:=C.bL2; have:=C.bH; have:=C.bc1; have:=C.bc2
 have e2 : wd Z1 (k + j) = ((dg w64 Z1 (k + j) : Nat) : Int):=rfl
 generalize C.L2 = a1 at *
 generalize C.H = a2 at *
 generalize C.c1 = a3 at *
 generalize C.c2 = a4 at *
 rw [e2] at e
 show a1.toNat + 18446744073709551616 * (a2 + a3 + a4).toNat = tm.toNat * dg w64 M j + c.toNat + dg w64 Z1 (k + j)
 generalize tm.toNat * dg w64 M j = a5 at *
 generalize dg w64 Z1 (k + j) = a6 at *
 omega
theorem shrO_start {X M : Nat} (h : X < top8) : ShrO X M 0 X 0 0:=⟨h,by rw [Nat.pow_zero,Nat.mod_one],by rw [Nat.pow_zero]; omega,by simp⟩
theorem shrO_step {X M k Z T Z1 t : Nat} {tm c o x o' : Int} (ht : t = k + 4) (hk : k < 4) (hM : M < top) (htm : 0 ≤ tm) (htm2 : tm ≤ 18446744073709551615) (hc : 0 ≤ c) (ho : 0 ≤ o) (hx : 0 ≤ x) (hx2 : x ≤ 18446744073709551615) (ho' : 0 ≤ o')
  (h : ShrO X M k Z T o) (hI : ShrI M k Z 4 Z1 tm c) (h0 : (wd Z k + tm * wd M 0) % 18446744073709551616 = 0) (hs : x + 18446744073709551616 * o' = wd Z1 t + c + o) :
  ∃ Z2 T',(∀ m,wd Z2 m = if m = t then x else wd Z1 m) ∧ ShrO X M (k + 1) Z2 T' o':=by
 obtain ⟨Z2,h1,h2,h3⟩:=setwd Z1 t x (by omega) hI.1 hx hx2
 subst ht
 have r:=row_done (B:=w64) (M:=M) (X:=X) (Z:=Z) (Z1:=Z1) (Z2:=Z2) (T:=T) (t:=tm.toNat) (c:=c.toNat) (o:=o.toNat) (o':=o'.toNat) (x:=x.toNat) (k:=k) h.2.1 h.2.2.1 (by rw [zdi]; omega) hM h.2.2.2 ?_ hI.2 ?_ h3
 ·
  exact ⟨Z2,T + w64 ^ k * tm.toNat,h2,h1,r.1,r.2.1,r.2.2⟩
 ·
  have e1:=dg_nat htm M 0
  rw [← e1] at h0
  unfold wd at h0
  rw [zdi]
  rw [zdi] at h0
  omega
 ·
  unfold wd at hs
  rw [zdi]
  rw [zdi] at hs
  omega
theorem shr_times {Z k M : Nat} {N : Int} (h : (18446744073709551616 : Int) ∣ wd M 0 * N - 1) :
  ∃ tm : Int,IntKind.u64.wrap (IntKind.u64.wrap (-(wd Z k)) * N) = tm ∧ 0 ≤ tm ∧ tm ≤ 18446744073709551615 ∧ (wd Z k + tm * wd M 0) % 18446744073709551616 = 0:=by
 refine ⟨_,rfl,?_,?_,?_⟩
 ·
  rw [IntKind.wrap_u64]; omega
 ·
  rw [IntKind.wrap_u64]; omega
 ·
  rw [IntKind.wrap_u64,IntKind.wrap_u64]; exact times_zero h
theorem shr_end {X M Z T : Nat} {N : Int} {Q : Nat} {o : Int} (hK : Fok M N Q) (hX : X < top8) (ho : 0 ≤ o) (ho1 : o ≤ 1) (h : ShrO X M 4 Z T o) :
  ∃ R,R < top ∧ (∀ j,wd Z (4 + j) = wd R j) ∧ (o = 1 ∨ ¬ R < M → ∃ D,(R + top - M) % top = D ∧ D < top ∧ D * top % M = X % M ∧ (X < M * top → D < M)) ∧
   (o = 0 → R < M → R * top % M = X % M):=by
 obtain ⟨h1,h2,h3,h4⟩:=h
 have hM0 : 0 < M:=by have:=hK.m2; omega
 have hMt:=hK.mt
 have hs:=shr_sum (M:=M) (T:=T) (o:=o.toNat) hX h3 hM0 h2 h4
 have e8 : top8 = top * top:=zdj
 have hR : Z / top < top:=by
  rw [Nat.div_lt_iff_lt_mul zbd,← e8]; exact h1
 refine ⟨Z / top,hR,fun j => ?_,fun hor => ?_,fun h0 hlt => ?_⟩
 ·
  unfold wd dg; rw [Nat.pow_add,← Nat.div_div_eq_div_mul]; rfl
 ·
  obtain ⟨s1,s2,s3⟩:=hs
  obtain ⟨R,hRR⟩ : ∃ R,R = Z / top:=⟨_,rfl⟩
  rw [← hRR] at hor hR s1 s2 s3 ⊢
  have ho2 : o = 0 ∨ o = 1:=by omega
  have hD : (R + top - M) % top = R + o.toNat * top - M:=by
   rcases ho2 with rfl | rfl
   ·
    have : ¬ R < M:=by rcases hor with h | h <;> omega
    rw [show R + top - M = (R - M) + top by omega,Nat.add_mod_right,Nat.mod_eq_of_lt (by omega)]; simp
   ·
    simp only [Int.toNat_one,Nat.one_mul] at s2 ⊢
    exact Nat.mod_eq_of_lt (by omega)
  have hge : M ≤ R + o.toNat * top:=by
   rcases ho2 with rfl | rfl
   ·
    have : ¬ R < M:=by rcases hor with h | h <;> omega
    omega
   ·
    simp only [Int.toNat_one,Nat.one_mul]; omega
  refine ⟨_,rfl,?_,?_,fun h => ?_⟩
  ·
   exact Nat.mod_lt _ zbd
  ·
   rw [hD,Nat.sub_mul,s1]
   have : M * top ≤ X + T * M:=by rw [← s1]; exact Nat.mul_le_mul_right _ hge
   have e1 : X + T * M = (X + T * M - M * top) + M * top:=by omega
   have e2 : (X + T * M - M * top) % M = (X + T * M) % M:=by
    conv => rhs; rw [e1,Nat.add_mul_mod_self_left]
   rw [e2,Nat.add_mul_mod_self_right]
  ·
   rw [hD]
   have:=s3 h; omega
 ·
  subst h0
  obtain ⟨s1,s2,s3⟩:=hs
  simp only [Int.toNat_zero,Nat.zero_mul,Nat.add_zero] at s1
  rw [s1,Nat.add_mul_mod_self_right]
theorem fsub_hi (b X Y M : Nat) (N : Int) (Q : Nat) (S : Nat) (hX0 : X < top) (hY0 : Y < top) (hS : (X + top - Y) % top = S) (hu : decide (X < Y) = false) (w : World) (_hF : Fb w b M N Q) :
  Calls Tryz.prog 150 #[.pointer (some ⟨b,0,none⟩),.agg #[vI vU (wd X 0),vI vU (wd X 1),vI vU (wd X 2),vI vU (wd X 3)],.agg #[vI vU (wd Y 0),vI vU (wd Y 1),vI vU (wd Y 2),vI vU (wd Y 3)]] w fun e w' => e = .returned (.agg #[vI vU (wd S 0),vI vU (wd S 1),vI vU (wd S 2),vI vU (wd S 3)]) ∧ Below w.heap.size w w' :=
 way1 Tryz.func150 [(.pointer (some ⟨b,0,none⟩)),.agg #[vI vU (wd X 0),vI vU (wd X 1),vI vU (wd X 2),vI vU (wd X 3)],.agg #[vI vU (wd Y 0),vI vU (wd Y 1),vI vU (wd Y 2),vI vU (wd Y 3)]] (.call _ _ _ (fun W _ => ksub X Y S false hS hu hX0 hY0 W) <| .ret _ fun _ h => ⟨rfl,h⟩) (by kernel_rfl)
theorem fsub_lo (b X Y M : Nat) (N : Int) (Q : Nat) (S : Nat) (hX0 : X < top) (hY0 : Y < top) (hM : M < top) (hS : (X + top - Y) % top = S) (hu : decide (X < Y) = true) (D : Nat) (hD : (S + M) % top = D) (w : World) (hF : Fb w b M N Q) :
  Calls Tryz.prog 150 #[.pointer (some ⟨b,0,none⟩),.agg #[vI vU (wd X 0),vI vU (wd X 1),vI vU (wd X 2),vI vU (wd X 3)],.agg #[vI vU (wd Y 0),vI vU (wd Y 1),vI vU (wd Y 2),vI vU (wd Y 3)]] w fun e w' => e = .returned (.agg #[vI vU (wd D 0),vI vU (wd D 1),vI vU (wd D 2),vI vU (wd D 3)]) ∧ Below w.heap.size w w' :=
 way1 Tryz.func150 [(.pointer (some ⟨b,0,none⟩)),.agg #[vI vU (wd X 0),vI vU (wd X 1),vI vU (wd X 2),vI vU (wd X 3)],.agg #[vI vU (wd Y 0),vI vU (wd Y 1),vI vU (wd Y 2),vI vU (wd Y 3)]] (.call _ _ _ (fun W _ => ksub X Y S true hS hu hX0 hY0 W) <| .ins 21 (Instr.loadAt 58 (.pointer (some ⟨b,0,none⟩))) (.agg #[vI vU (wd M 0),vI vU (wd M 1),vI vU (wd M 2),vI vU (wd M 3)]) (fun W hW => zbs (hF.call hW)) <| .call _ _ _ (fun W _ => kadd S M D _ hD rfl (by rw [← hS]; exact Nat.mod_lt _ zbd) hM W) <| .ret _ fun _ h => ⟨rfl,h⟩) (by kernel_rfl)
theorem fsub_calls (b X Y M : Nat) (N : Int) (Q Z : Nat) (hX : X < M) (hY : Y < M) (hM : M < top) (hZ : (X + M - Y) % M = Z) (w : World) (hF : Fb w b M N Q) :
  Calls Tryz.prog 150 #[.pointer (some ⟨b,0,none⟩),.agg #[vI vU (wd X 0),vI vU (wd X 1),vI vU (wd X 2),vI vU (wd X 3)],.agg #[vI vU (wd Y 0),vI vU (wd Y 1),vI vU (wd Y 2),vI vU (wd Y 3)]] w fun e w' => e = .returned (.agg #[vI vU (wd Z 0),vI vU (wd Z 1),vI vU (wd Z 2),vI vU (wd Z 3)]) ∧ Below w.heap.size w w':=by
 subst hZ
 by_cases h : X < Y
 ·
  exact fsub_lo b X Y M N Q _ (by omega) (by omega) hM rfl (by simpa using h) _ (by rw [Nat.mod_eq_of_lt (a:=X + top - Y) (by omega),show X + top - Y + M = (X + M - Y) + top by omega,Nat.add_mod_right,Nat.mod_eq_of_lt (by omega),Nat.mod_eq_of_lt (by omega)]) w hF
 ·
  exact fsub_hi b X Y M N Q _ (by omega) (by omega) (by rw [show X + top - Y = (X - Y) + top by omega,Nat.add_mod_right,show X + M - Y = (X - Y) + M by omega,Nat.add_mod_right,Nat.mod_eq_of_lt (by omega),Nat.mod_eq_of_lt (by omega)]) (by simpa using h) w hF
end Go.Proofs.YtbfkecfcolcclaaGreatDoor
