/-
  Of Is FAdd FNew FShr FSub FHalf FInv.
-/
import Derived.Deep.CutRange
import Derived.Test.YtihophdbkjhopaaDoorZL9
import Derived.Test.YtihophdbkjhopaaDoorZL8
import Derived.Test.YtihophdbkjhopaaDoorZL4
import Derived.Test.YtihophdbkjhopaaDoorZL1
import Derived.Test.YtihophdbkjhopaaDoorZL11
set_option maxRecDepth 1000000
set_option maxHeartbeats 20000000
namespace Go.Proofs.YtihophdbkjhopaaDoor
open Go.RowKit
open Go.Value renaming int → vI
open Go.IntKind renaming u64 → vU
open Go.Act renaming put → aP
open List renaming setIfInBounds_toArray → lA, set_cons_zero → lZ, set_cons_succ → lS
theorem kadd (X Y Z : Nat) (u : Bool) (h : (X + Y) % top = Z) (h2 : decide (top ≤ X + Y) = u) (hX : X < top) (hY : Y < top) (w : World) :
  Calls Tryd.prog 65 #[.agg #[vI vU (wd X 0),vI vU (wd X 1),vI vU (wd X 2),vI vU (wd X 3)],.agg #[vI vU (wd Y 0),vI vU (wd Y 1),vI vU (wd Y 2),vI vU (wd Y 3)]] w fun e w' => e = .returned (.tuple #[.agg #[vI vU (wd Z 0),vI vU (wd Z 1),vI vU (wd Z 2),vI vU (wd Z 3)],.bool u]) ∧ Below w.heap.size w w':=by
 subst h; subst h2; exact add_calls X Y hX hY w
theorem ksub (X Y Z : Nat) (u : Bool) (h : (X + top - Y) % top = Z) (h2 : decide (X < Y) = u) (hX : X < top) (hY : Y < top) (w : World) :
  Calls Tryd.prog 42 #[.agg #[vI vU (wd X 0),vI vU (wd X 1),vI vU (wd X 2),vI vU (wd X 3)],.agg #[vI vU (wd Y 0),vI vU (wd Y 1),vI vU (wd Y 2),vI vU (wd Y 3)]] w fun e w' => e = .returned (.tuple #[.agg #[vI vU (wd Z 0),vI vU (wd Z 1),vI vU (wd Z 2),vI vU (wd Z 3)],.bool u]) ∧ Below w.heap.size w w':=by
 subst h; subst h2; exact sub_calls X Y hX hY w
theorem kcmp (X Y : Nat) (c : Int) (h : cmpN X Y = c) (hX : X < top) (hY : Y < top) (w : World) :
  Calls Tryd.prog 36 #[.agg #[vI vU (wd X 0),vI vU (wd X 1),vI vU (wd X 2),vI vU (wd X 3)],.agg #[vI vU (wd Y 0),vI vU (wd Y 1),vI vU (wd Y 2),vI vU (wd Y 3)]] w fun e w' => e = .returned (.int .i64 c) ∧ Below w.heap.size w w':=by
 subst h; exact cmp_calls X Y hX hY w
theorem kbit (X n : Nat) (b : Bool) (h : bit X n = b) (hn : n < 256) (w : World) :
  Calls Tryd.prog 39 #[.agg #[vI vU (wd X 0),vI vU (wd X 1),vI vU (wd X 2),vI vU (wd X 3)],.int .i64 (n : Int)] w fun e w' => e = .returned (.bool b) ∧ Below w.heap.size w w':=by
 subst h; exact bit_in X n hn w
theorem kbit0 (X : Nat) (b : Bool) (h : bit X 0 = b) (w : World) :
  Calls Tryd.prog 39 #[.agg #[vI vU (wd X 0),vI vU (wd X 1),vI vU (wd X 2),vI vU (wd X 3)],.int .i64 0] w fun e w' => e = .returned (.bool b) ∧ Below w.heap.size w w' :=
 kbit X 0 b h (by decide) w
theorem kmul (X Y Z : Nat) (h : X * Y = Z) (hX : X < top) (hY : Y < top) (w : World) :
  Calls Tryd.prog 48 #[.agg #[vI vU (wd X 0),vI vU (wd X 1),vI vU (wd X 2),vI vU (wd X 3)],.agg #[vI vU (wd Y 0),vI vU (wd Y 1),vI vU (wd Y 2),vI vU (wd Y 3)]] w fun e w' => e = .returned (.agg #[vI vU (wd Z 0),vI vU (wd Z 1),vI vU (wd Z 2),vI vU (wd Z 3),vI vU (wd Z 4),vI vU (wd Z 5),vI vU (wd Z 6),vI vU (wd Z 7)]) ∧ Below w.heap.size w w':=by
 subst h; exact mul_calls X Y hX hY w
theorem cmp_ge (X Y : Nat) : (0 ≤ cmpN X Y) = ¬ X < Y:=by
 unfold cmpN; split
 ·
  simp; omega
 ·
  split <;> simp <;> omega
theorem fsum_num {X Y M : Nat} (hX : X < M) (hY : Y < M) (hM : M ≤ top) : (X + Y) % M = if top ≤ X + Y ∨ ¬ (X + Y) % top < M then ((X + Y) % top + top - M) % top else (X + Y) % top:=by
 by_cases h : top ≤ X + Y
 ·
  rw [if_pos (Or.inl h)]
  have e : (X + Y) % top = X + Y - top:=by rw [Nat.mod_eq_sub_mod h,Nat.mod_eq_of_lt (by omega)]
  rw [e,Nat.mod_eq_sub_mod (by omega),Nat.mod_eq_of_lt (by omega),Nat.mod_eq_of_lt (by omega)]; omega
 ·
  rw [Nat.mod_eq_of_lt (by omega : X + Y < top)]
  by_cases h2 : X + Y < M
  ·
   rw [if_neg (by omega),Nat.mod_eq_of_lt h2]
  ·
   rw [if_pos (Or.inr h2),Nat.mod_eq_sub_mod (by omega),Nat.mod_eq_of_lt (by omega),show X + Y + top - M = (X + Y - M) + top by omega,Nat.add_mod_right,Nat.mod_eq_of_lt (by omega)]
theorem fadd_over (b X Y M : Nat) (N : Int) (Q : Nat) (S : Nat) (hX0 : X < top) (hY0 : Y < top) (hM : M < top) (hS : (X + Y) % top = S) (hu : decide (top ≤ X + Y) = true) (D : Nat) (hD : (S + top - M) % top = D) (w : World) (hF : Fb w b M N Q) :
  Calls Tryd.prog 64 #[.pointer (some ⟨b,0,none⟩),.agg #[vI vU (wd X 0),vI vU (wd X 1),vI vU (wd X 2),vI vU (wd X 3)],.agg #[vI vU (wd Y 0),vI vU (wd Y 1),vI vU (wd Y 2),vI vU (wd Y 3)]] w fun e w' => e = .returned (.agg #[vI vU (wd D 0),vI vU (wd D 1),vI vU (wd D 2),vI vU (wd D 3)]) ∧ Below w.heap.size w w' :=
 way1 Tryd.func64 [(.pointer (some ⟨b,0,none⟩)),.agg #[vI vU (wd X 0),vI vU (wd X 1),vI vU (wd X 2),vI vU (wd X 3)],.agg #[vI vU (wd Y 0),vI vU (wd Y 1),vI vU (wd Y 2),vI vU (wd Y 3)]] (.call _ _ _ (fun W _ => kadd X Y S true hS hu hX0 hY0 W) <| .ins 30 (Instr.loadAt 25 (.pointer (some ⟨b,0,none⟩))) (.agg #[vI vU (wd M 0),vI vU (wd M 1),vI vU (wd M 2),vI vU (wd M 3)]) (fun W hW => zct (hF.call hW)) <| .call _ _ _ (fun W _ => ksub S M D _ hD rfl (by rw [← hS]; exact Nat.mod_lt _ zce) hM W) <| .ret _ fun _ h => ⟨rfl,h⟩) (by kernel_rfl)
theorem fadd_less (b X Y M : Nat) (N : Int) (Q : Nat) (S : Nat) (hX0 : X < top) (hY0 : Y < top) (hM : M < top) (hS : (X + Y) % top = S) (hu : decide (top ≤ X + Y) = false) (hl : S < M) (w : World) (hF : Fb w b M N Q) :
  Calls Tryd.prog 64 #[.pointer (some ⟨b,0,none⟩),.agg #[vI vU (wd X 0),vI vU (wd X 1),vI vU (wd X 2),vI vU (wd X 3)],.agg #[vI vU (wd Y 0),vI vU (wd Y 1),vI vU (wd Y 2),vI vU (wd Y 3)]] w fun e w' => e = .returned (.agg #[vI vU (wd S 0),vI vU (wd S 1),vI vU (wd S 2),vI vU (wd S 3)]) ∧ Below w.heap.size w w' :=
 way1 Tryd.func64 [(.pointer (some ⟨b,0,none⟩)),.agg #[vI vU (wd X 0),vI vU (wd X 1),vI vU (wd X 2),vI vU (wd X 3)],.agg #[vI vU (wd Y 0),vI vU (wd Y 1),vI vU (wd Y 2),vI vU (wd Y 3)]] (.call _ _ _ (fun W _ => kadd X Y S false hS hu hX0 hY0 W) <| .ins 21 (Instr.loadAt 25 (.pointer (some ⟨b,0,none⟩))) (.agg #[vI vU (wd M 0),vI vU (wd M 1),vI vU (wd M 2),vI vU (wd M 3)]) (fun W hW => zct (hF.call hW)) <| .call _ _ _ (fun W _ => kcmp S M (-1) (by unfold cmpN; rw [if_pos hl]) (by rw [← hS]; exact Nat.mod_lt _ zce) hM W) <| .ret _ fun _ h => ⟨rfl,h⟩) (by kernel_rfl)
theorem fadd_more (b X Y M : Nat) (N : Int) (Q : Nat) (S : Nat) (hX0 : X < top) (hY0 : Y < top) (hM : M < top) (hS : (X + Y) % top = S) (hu : decide (top ≤ X + Y) = false) (hl : ¬ S < M) (D : Nat) (hD : (S + top - M) % top = D) (w : World) (hF : Fb w b M N Q) :
  Calls Tryd.prog 64 #[.pointer (some ⟨b,0,none⟩),.agg #[vI vU (wd X 0),vI vU (wd X 1),vI vU (wd X 2),vI vU (wd X 3)],.agg #[vI vU (wd Y 0),vI vU (wd Y 1),vI vU (wd Y 2),vI vU (wd Y 3)]] w fun e w' => e = .returned (.agg #[vI vU (wd D 0),vI vU (wd D 1),vI vU (wd D 2),vI vU (wd D 3)]) ∧ Below w.heap.size w w' :=
 way1 Tryd.func64 [(.pointer (some ⟨b,0,none⟩)),.agg #[vI vU (wd X 0),vI vU (wd X 1),vI vU (wd X 2),vI vU (wd X 3)],.agg #[vI vU (wd Y 0),vI vU (wd Y 1),vI vU (wd Y 2),vI vU (wd Y 3)]] (.call _ _ _ (fun W _ => kadd X Y S false hS hu hX0 hY0 W) <| .ins 21 (Instr.loadAt 25 (.pointer (some ⟨b,0,none⟩))) (.agg #[vI vU (wd M 0),vI vU (wd M 1),vI vU (wd M 2),vI vU (wd M 3)]) (fun W hW => zct (hF.call hW)) <| .call _ _ _ (fun W _ => kcmp S M _ rfl (by rw [← hS]; exact Nat.mod_lt _ zce) hM W) <|
  .ins 23 (binK .geq 3 (.tmp 22) (.const (.int .i64 0)) (.int .i64 (cmpN S M)) (.int .i64 0)) (.bool true) (fun W _ => zgf (by rw [decide_eq_true]; rw [cmp_ge]; exact hl) W) <|
  .ins 30 (Instr.loadAt 25 (.pointer (some ⟨b,0,none⟩))) (.agg #[vI vU (wd M 0),vI vU (wd M 1),vI vU (wd M 2),vI vU (wd M 3)]) (fun W hW => zct (hF.call hW)) <| .call _ _ _ (fun W _ => ksub S M D _ hD rfl (by rw [← hS]; exact Nat.mod_lt _ zce) hM W) <| .ret _ fun _ h => ⟨rfl,h⟩) (by kernel_rfl)
theorem fadd_calls (b X Y M : Nat) (N : Int) (Q Z : Nat) (hX : X < M) (hY : Y < M) (hM : M < top) (hZ : (X + Y) % M = Z) (w : World) (hF : Fb w b M N Q) :
  Calls Tryd.prog 64 #[.pointer (some ⟨b,0,none⟩),.agg #[vI vU (wd X 0),vI vU (wd X 1),vI vU (wd X 2),vI vU (wd X 3)],.agg #[vI vU (wd Y 0),vI vU (wd Y 1),vI vU (wd Y 2),vI vU (wd Y 3)]] w fun e w' => e = .returned (.agg #[vI vU (wd Z 0),vI vU (wd Z 1),vI vU (wd Z 2),vI vU (wd Z 3)]) ∧ Below w.heap.size w w':=by
 have e:=fsum_num hX hY (by omega)
 rw [hZ] at e
 by_cases h : top ≤ X + Y
 ·
  rw [if_pos (Or.inl h)] at e
  exact fadd_over b X Y M N Q _ (by omega) (by omega) hM rfl (by simpa using h) Z e.symm w hF
 ·
  by_cases h2 : (X + Y) % top < M
  ·
   rw [if_neg (by rintro (a | a) <;> contradiction)] at e
   rw [e]
   exact fadd_less b X Y M N Q _ (by omega) (by omega) hM rfl (by simpa using h) h2 w hF
  ·
   rw [if_pos (Or.inr h2)] at e
   exact fadd_more b X Y M N Q _ (by omega) (by omega) hM rfl (by simpa using h) h2 Z e.symm w hF
theorem wd_odd (X : Nat) : wd X 0 % 2 = ((X % 2 : Nat) : Int):=by
 unfold wd dg w64; rw [Nat.pow_zero,Nat.div_one]; omega
theorem bit_zero (X : Nat) : bit X 0 = decide (X % 2 = 1):=by
 unfold bit; rw [Nat.pow_zero,Nat.div_one]
 first | rfl | (cases h : decide (X % 2 = 1) <;> simp_all)
theorem kcmp3 (X : Nat) (c : Int) (h : cmpN X 3 = c) (hX : X < top) (w : World) :
  Calls Tryd.prog 36 #[.agg #[vI vU (wd X 0),vI vU (wd X 1),vI vU (wd X 2),vI vU (wd X 3)],.agg #[vI vU 3,vI vU 0,vI vU 0,vI vU 0]] w fun e w' => e = .returned (.int .i64 c) ∧ Below w.heap.size w w':=by
 have h:=kcmp X 3 c h hX (by decide) w
 have o0 : wd 3 0 = 3:=by decide
 have o1 : wd 3 1 = 0:=by decide
 have o2 : wd 3 2 = 0:=by decide
 have o3 : wd 3 3 = 0:=by decide
 rw [o0,o1,o2,o3] at h
 exact h
def sqk (M k : Nat) : Nat:=2 ^ k % M
theorem sqk_lt {M k : Nat} (h : 0 < M) : sqk M k < M:=Nat.mod_lt _ h
theorem sqk_step (M k : Nat) : (sqk M k + sqk M k) % M = sqk M (k + 1):=by
 unfold sqk; rw [← Nat.add_mod,Nat.pow_succ,Nat.mul_two]
theorem sqk_zero {M : Nat} (h : 1 < M) : sqk M 0 = 1:=by unfold sqk; rw [Nat.pow_zero]; exact Nat.mod_eq_of_lt h
theorem pow_of (a c n : Nat) (h : n = a * c) : 2 ^ n = (2 ^ a) ^ c:=by rw [h,Nat.pow_mul]
theorem sqk_end (M n : Nat) (h : n = 64 * 8) : sqk M n = top8 % M:=by
 have e:=pow_of 64 8 n h
 rw [← w64_two] at e
 unfold sqk top8; rw [e]
section
variable {w : World} {b M Q : Nat} {N : Int}
theorem Fb.froz (h : Fb w b M N Q) (i : Nat) : w.frozen? ⟨b,i,none⟩ = false:=World.rowIs.frozen h i
theorem Fb.putsq (h : Fb w b M N Q) (K : Nat) : Fb ((((w.setCell ⟨b,5,none⟩ (.int .u64 (wd K 0))).setCell ⟨b,6,none⟩ (.int .u64 (wd K 1))).setCell ⟨b,7,none⟩ (.int .u64 (wd K 2))).setCell ⟨b,8,none⟩ (.int .u64 (wd K 3))) b M N K :=
 World.rowIs.congr ((((World.rowIs.set h 5 (.int .u64 (wd K 0))).set 6 (.int .u64 (wd K 1))).set 7 (.int .u64 (wd K 2))).set 8 (.int .u64 (wd K 3))) fun i hi => by
  have : i = 0 ∨ i = 1 ∨ i = 2 ∨ i = 3 ∨ i = 4 ∨ i = 5 ∨ i = 6 ∨ i = 7 ∨ i = 8:=by omega
  rcases this with rfl | rfl | rfl | rfl | rfl | rfl | rfl | rfl | rfl <;> rfl
end
theorem new_good (M : Nat) (h : M % 2 = 1) (hl : 2 < M) (hM : M < top) (w : World) :
  Calls Tryd.prog 38 #[.agg #[vI vU (wd M 0),vI vU (wd M 1),vI vU (wd M 2),vI vU (wd M 3)]] w fun e w' => (∃ (b : Nat) (N : Int) (Q : Nat),Fok M N Q ∧ Fb w' b M N Q ∧ w.heap.size ≤ b ∧ e = .returned (.tuple #[.pointer (some ⟨b,0,none⟩),.nilIface])) ∧ Below w.heap.size w w':=by
 have K1:=veil (fun W => kbit0 M true (by rw [bit_zero,h]; rfl) W)
 obtain ⟨c,hc⟩ : ∃ c,c = cmpN M 3:=⟨_,rfl⟩
 have hcn : 0 ≤ c:=by rw [hc,cmp_ge]; omega
 have K2:=veil (fun W => kcmp3 M c hc.symm hM W)
 have K3:=veil (fun W => inverse_calls (wd M 0) (wd_lo _ _) (wd_le _ _) (by rw [wd_odd,h]; rfl) W)
 have HM:=veil (And.intro h (And.intro hl hM))
 clear h hl hM hc
 have hA : (w.alloc (.cells #[vI vU (wd M 0),vI vU (wd M 1),vI vU (wd M 2),vI vU (wd M 3)] 25)).rowIs w.heap.size 25 4 (fun j => .int .u64 (wd M j)):=zad (n:=4) (by simp) rfl (arr4 fun j => .int .u64 (wd M j))
 have hbel : Below w.heap.size w (w.alloc (.cells #[vI vU (wd M 0),vI vU (wd M 1),vI vU (wd M 2),vI vU (wd M 3)] 25)):=(Below.refl _ _).alloc (by simp) _
 go_enter Tryd.func38,Tryd.ntmps38
 obtain ⟨a0,a1,a2,a3⟩:=zaf hA
 go_wp2_with fail
 refine (K1.out _).mono ?_
 rintro e w1 ⟨rfl,hb1⟩
 replace hA:=zaa (by exact hA) hb1 (by exact hA.lt)
 replace hbel:=Below.trans (by first | exact hbel | exact hbel.drew) (hb1.mono (by exact hbel.size))
 clear a0 a1 a2 a3 hb1
 obtain ⟨a0,a1,a2,a3⟩:=zaf hA
 go_wp2_with fail
 refine (K2.out _).mono ?_
 rintro e w2 ⟨rfl,hb2⟩
 replace hA:=zaa (by exact hA) hb2 (by exact hA.lt)
 replace hbel:=Below.trans (by first | exact hbel | exact hbel.drew) (hb2.mono (by exact hbel.size))
 clear a0 a1 a2 a3 hb2
 obtain ⟨a0,a1,a2,a3⟩:=zaf hA
 go_wp2_with fail
 go_region_with (go_at_call 63; refine (K3.out _).mono ?_; rintro e w3 ⟨n,hn0,hn1,hn2,rfl,rfl⟩)
 all_goals go_wp2_with fail
 all_goals
  clear a0 a1 a2 a3
  have hFr : Fb (w2.alloc (.cells #[vI vU (wd M 0),vI vU (wd M 1),vI vU (wd M 2),vI vU (wd M 3),vI vU n,vI vU 1,vI vU 0,vI vU 0,vI vU 0] 91)).drew w2.heap.size M n 1 :=
   zad (n:=9) rfl rfl (fun i hi => by match i,hi with | 0,_ => rfl | 1,_ => rfl | 2,_ => rfl | 3,_ => rfl | 4,_ => rfl | 5,_ => rfl | 6,_ => rfl | 7,_ => rfl | 8,_ => rfl)
  have hgw : w.heap.size ≤ w2.heap.size:=hbel.size
  replace hbel:=(hbel.alloc hgw (.cells #[vI vU (wd M 0),vI vU (wd M 1),vI vU (wd M 2),vI vU (wd M 3),vI vU n,vI vU 1,vI vU 0,vI vU 0,vI vU 0] 91)).drew
  clear hA
  have HN:=veil hn2
  clear hn2
  generalize w2.heap.size = g at *
  generalize (w2.alloc (.cells #[vI vU (wd M 0),vI vU (wd M 1),vI vU (wd M 2),vI vU (wd M 3),vI vU n,vI vU 1,vI vU 0,vI vU 0,vI vU 0] 91)).drew = w4 at *
  go_loopw [22] (fun i wr => ∃ k : Nat,k ≤ 512 ∧ i = .int .i64 (k : Int) ∧ Fb wr g M n (sqk M k) ∧ Below w.heap.size w wr)
   (fun i _ => 512 - (intOf i).toNat)
  case atStart => exact ⟨0,by omega,rfl,by rw [sqk_zero (by have:=HM.out.2.1; omega)]; exact hFr,hbel⟩
  case round =>
   clear hFr hbel
   obtain ⟨k,hk,rfl,hFr,hbel⟩:=hrel
   by_cases hlt : k < 512
   ·
    have hki : (k : Int) ≤ 511:=by omega
    have hq:=sqk_lt (M:=M) (k:=k) (by have:=HM.out.2.1; omega)
    have K:=veil (fun W (h : Fb W g M n (sqk M k)) => fadd_calls g _ _ M n _ _ hq hq HM.out.2.2 (sqk_step M k) W h)
    clear hq
    obtain ⟨q',hq'⟩ : ∃ q',q' = sqk M (k + 1):=⟨_,rfl⟩
    rw [← hq'] at K
    have HQ:=veil hq'
    clear hq' hlt
    generalize sqk M k = q at *
    obtain ⟨s0,s1,s2,s3⟩:=hFr.sq
    have f5:=hFr.froz 5
    have f6:=hFr.froz 6
    have f7:=hFr.froz 7
    have f8:=hFr.froz 8
    go_wp2_with fail
    go_region_with (go_at_call 64; refine (K.out _ (by exact hFr)).mono ?_; rintro e w5 ⟨rfl,hb5⟩; replace hFr:=Fb.below (by exact hFr) hb5 (by exact hFr.lt); replace hbel:=Below.trans (by first | exact hbel | exact hbel.drew) (hb5.mono (by exact hbel.size)); obtain ⟨s0,s1,s2,s3⟩:=hFr.sq; have f5:=hFr.froz 5; have f6:=hFr.froz 6; have f7:=hFr.froz 7; have f8:=hFr.froz 8)
    all_goals
     go_wp2
     go_roundw
     case rel => exact ⟨k + 1,by omega,by go_num,by rw [← HQ.out]; exact hFr.putsq q',zab (zab (zab (zab hbel hgw _) hgw _) hgw _) hgw _⟩
     case measure => simp [intOf]; omega
   ·
    obtain rfl : k = 512:=by omega
    go_wp2
    go_ret2
    exact ⟨⟨g,n,_,⟨HM.out.2.1,HM.out.1,HM.out.2.2,hn0,hn1,HN.out,sqk_end M 512 (by decide)⟩,hFr,hgw,rfl⟩,hbel⟩
theorem index_num (M j : Nat) (hj : j < 4) (w : World) : (Instr.index 25 (.agg #[vI vU (wd M 0),vI vU (wd M 1),vI vU (wd M 2),vI vU (wd M 3)]) (.int .i64 (j : Int))).run Tryd.prog w = .ok (.int .u64 (wd M j)) w:=by
 match j,hj with
 | 0,_ => rfl
 | 1,_ => rfl
 | 2,_ => rfl
 | 3,_ => rfl
structure Col (tm mj c x : Int) where
 H : Int
 L : Int
 L1 : Int
 c1 : Int
 L2 : Int
 c2 : Int
 mul : ∀ W : World,Calls Tryd.prog 84 #[vI vU tm,vI vU mj] W fun e w' => e = .returned (.tuple #[vI vU H,vI vU L]) ∧ w' = W
 a1 : ∀ W : World,(callFunc 82 #[vI vU L,vI vU c,vI vU 0]).run Tryd.prog W = .ok (.value (.tuple #[vI vU L1,vI vU c1])) W
 a2 : ∀ W : World,(callFunc 82 #[vI vU x,vI vU L1,vI vU 0]).run Tryd.prog W = .ok (.value (.tuple #[vI vU L2,vI vU c2])) W
 bH : 0 ≤ H
 bL1 : 0 ≤ L1
 bL2 : 0 ≤ L2
 bL2' : L2 ≤ 18446744073709551615
 bc1 : 0 ≤ c1
 bc2 : 0 ≤ c2
 b4 : H + c1 ≤ 18446744073709551615
 b5 : H + c1 + c2 ≤ 18446744073709551615
 sum : L2 + 18446744073709551616 * (H + c1 + c2) = tm * mj + c + x
theorem col_is (tm mj c x : Int) (ht : 0 ≤ tm) (ht2 : tm ≤ 18446744073709551615) (hm : 0 ≤ mj) (hm2 : mj ≤ 18446744073709551615) (hc : 0 ≤ c) (hc2 : c ≤ 18446744073709551615) (hx : 0 ≤ x) (hx2 : x ≤ 18446744073709551615) :
  Nonempty (Col tm mj c x):=by
 obtain ⟨p0,p1⟩:=ma_bound ht ht2 hm hm2
 have hM:=fun W => mul64 tm mj ht ht2 hm hm2 W
 obtain ⟨P,hP⟩ : ∃ P,P = tm * mj:=⟨_,rfl⟩
 rw [← hP] at p0 p1 hM
 refine ⟨⟨P / 18446744073709551616,P % 18446744073709551616,(P % 18446744073709551616 + c + 0) % 18446744073709551616,(P % 18446744073709551616 + c + 0) / 18446744073709551616,
  (x + (P % 18446744073709551616 + c + 0) % 18446744073709551616 + 0) % 18446744073709551616,(x + (P % 18446744073709551616 + c + 0) % 18446744073709551616 + 0) / 18446744073709551616,
  hM,fun W => add64 _ _ _ (by omega) hc (by omega) (by omega) W,fun W => add64 _ _ _ hx (by omega) (by omega) (by omega) W,?_,?_,?_,?_,?_,?_,?_,?_,?_⟩⟩
 all_goals try rw [← hP]
 all_goals omega
theorem dg_nat {a : Int} (h : 0 ≤ a) (M j : Nat) : ((a.toNat * dg w64 M j : Nat) : Int) = a * wd M j:=by
 unfold wd; rw [Int.natCast_mul,Int.toNat_of_nonneg h]
def ShrO (X M k Z T : Nat) (o : Int) : Prop:=Z < top8 ∧ Z % w64 ^ k = 0 ∧ T < w64 ^ k ∧ Z + o.toNat * w64 ^ (k + 4) = X + T * M
def ShrI (M k Z j Z1 : Nat) (tm c : Int) : Prop:=Z1 < top8 ∧ Z1 + c.toNat * w64 ^ (k + j) = Z + tm.toNat * (M % w64 ^ j) * w64 ^ k
theorem shrI_start {M k Z : Nat} {tm : Int} (h : Z < top8) : ShrI M k Z 0 Z tm 0:=by
 refine ⟨h,?_⟩
 rw [Nat.pow_zero,Nat.mod_one]; simp
theorem shrI_step {M k Z j Z1 t : Nat} {tm c : Int} (ht : t = k + j) (ht8 : t < 8) (htm : 0 ≤ tm) (hc : 0 ≤ c) (h : ShrI M k Z j Z1 tm c) (C : Col tm (wd M j) c (wd Z1 t)) :
  ∃ Z',(∀ m,wd Z' m = if m = t then C.L2 else wd Z1 m) ∧ ShrI M k Z (j + 1) Z' tm (C.H + C.c1 + C.c2):=by
 obtain ⟨Z',h1,h2,h3⟩:=setwd Z1 t C.L2 ht8 h.1 C.bL2 C.bL2'
 refine ⟨Z',h2,h1,?_⟩
 subst ht
 refine col_step (c:=c.toNat) (x:=C.L2.toNat) (m:=dg w64 M j) rfl h.2 ?_ h3
 have e:=C.sum
 have e1:=dg_nat htm M j
 rw [← e1] at e
 have:=C.bL2; have:=C.bH; have:=C.bc1; have:=C.bc2
 have e2 : wd Z1 (k + j) = ((dg w64 Z1 (k + j) : Nat) : Int):=rfl
 generalize C.L2 = a1 at *
 generalize C.H = a2 at *
 generalize C.c1 = a3 at *
 generalize C.c2 = a4 at *
 rw [e2] at e
 show a1.toNat + 18446744073709551616 * (a2 + a3 + a4).toNat = tm.toNat * dg w64 M j + c.toNat + dg w64 Z1 (k + j)
 generalize tm.toNat * dg w64 M j = a5 at *
 generalize dg w64 Z1 (k + j) = a6 at *
 omega
theorem shrO_start {X M : Nat} (h : X < top8) : ShrO X M 0 X 0 0:=⟨h,by rw [Nat.pow_zero,Nat.mod_one],by rw [Nat.pow_zero]; omega,by simp⟩
theorem shrO_step {X M k Z T Z1 t : Nat} {tm c o x o' : Int} (ht : t = k + 4) (hk : k < 4) (hM : M < top) (htm : 0 ≤ tm) (htm2 : tm ≤ 18446744073709551615) (hc : 0 ≤ c) (ho : 0 ≤ o) (hx : 0 ≤ x) (hx2 : x ≤ 18446744073709551615) (ho' : 0 ≤ o')
  (h : ShrO X M k Z T o) (hI : ShrI M k Z 4 Z1 tm c) (h0 : (wd Z k + tm * wd M 0) % 18446744073709551616 = 0) (hs : x + 18446744073709551616 * o' = wd Z1 t + c + o) :
  ∃ Z2 T',(∀ m,wd Z2 m = if m = t then x else wd Z1 m) ∧ ShrO X M (k + 1) Z2 T' o':=by
 obtain ⟨Z2,h1,h2,h3⟩:=setwd Z1 t x (by omega) hI.1 hx hx2
 subst ht
 have r:=row_done (B:=w64) (M:=M) (X:=X) (Z:=Z) (Z1:=Z1) (Z2:=Z2) (T:=T) (t:=tm.toNat) (c:=c.toNat) (o:=o.toNat) (o':=o'.toNat) (x:=x.toNat) (k:=k) h.2.1 h.2.2.1 (by rw [zfs]; omega) hM h.2.2.2 ?_ hI.2 ?_ h3
 ·
  exact ⟨Z2,T + w64 ^ k * tm.toNat,h2,h1,r.1,r.2.1,r.2.2⟩
 ·
  have e1:=dg_nat htm M 0
  rw [← e1] at h0
  unfold wd at h0
  rw [zfs]
  rw [zfs] at h0
  omega
 ·
  unfold wd at hs
  rw [zfs]
  rw [zfs] at hs
  omega
theorem shr_times {Z k M : Nat} {N : Int} (h : (18446744073709551616 : Int) ∣ wd M 0 * N - 1) :
  ∃ tm : Int,IntKind.u64.wrap (IntKind.u64.wrap (-(wd Z k)) * N) = tm ∧ 0 ≤ tm ∧ tm ≤ 18446744073709551615 ∧ (wd Z k + tm * wd M 0) % 18446744073709551616 = 0:=by
 refine ⟨_,rfl,?_,?_,?_⟩
 ·
  rw [IntKind.wrap_u64]; omega
 ·
  rw [IntKind.wrap_u64]; omega
 ·
  rw [IntKind.wrap_u64,IntKind.wrap_u64]; exact times_zero h
theorem shr_end {X M Z T : Nat} {N : Int} {Q : Nat} {o : Int} (hK : Fok M N Q) (hX : X < top8) (ho : 0 ≤ o) (ho1 : o ≤ 1) (h : ShrO X M 4 Z T o) :
  ∃ R,R < top ∧ (∀ j,wd Z (4 + j) = wd R j) ∧ (o = 1 ∨ ¬ R < M → ∃ D,(R + top - M) % top = D ∧ D < top ∧ D * top % M = X % M ∧ (X < M * top → D < M)) ∧
   (o = 0 → R < M → R * top % M = X % M):=by
 obtain ⟨h1,h2,h3,h4⟩:=h
 have hM0 : 0 < M:=by have:=hK.m2; omega
 have hMt:=hK.mt
 have hs:=shr_sum (M:=M) (T:=T) (o:=o.toNat) hX h3 hM0 h2 h4
 have e8 : top8 = top * top:=zft
 have hR : Z / top < top:=by
  rw [Nat.div_lt_iff_lt_mul zce,← e8]; exact h1
 refine ⟨Z / top,hR,fun j => ?_,fun hor => ?_,fun h0 hlt => ?_⟩
 ·
  unfold wd dg; rw [Nat.pow_add,← Nat.div_div_eq_div_mul]; rfl
 ·
  obtain ⟨s1,s2,s3⟩:=hs
  obtain ⟨R,hRR⟩ : ∃ R,R = Z / top:=⟨_,rfl⟩
  rw [← hRR] at hor hR s1 s2 s3 ⊢
  have ho2 : o = 0 ∨ o = 1:=by omega
  have hD : (R + top - M) % top = R + o.toNat * top - M:=by
   rcases ho2 with rfl | rfl
   ·
    have : ¬ R < M:=by rcases hor with h | h <;> omega
    rw [show R + top - M = (R - M) + top by omega,Nat.add_mod_right,Nat.mod_eq_of_lt (by omega)]; simp
   ·
    simp only [Int.toNat_one,Nat.one_mul] at s2 ⊢
    exact Nat.mod_eq_of_lt (by omega)
  have hge : M ≤ R + o.toNat * top:=by
   rcases ho2 with rfl | rfl
   ·
    have : ¬ R < M:=by rcases hor with h | h <;> omega
    omega
   ·
    simp only [Int.toNat_one,Nat.one_mul]; omega
  refine ⟨_,rfl,?_,?_,fun h => ?_⟩
  ·
   exact Nat.mod_lt _ zce
  ·
   rw [hD,Nat.sub_mul,s1]
   have : M * top ≤ X + T * M:=by rw [← s1]; exact Nat.mul_le_mul_right _ hge
   have e1 : X + T * M = (X + T * M - M * top) + M * top:=by omega
   have e2 : (X + T * M - M * top) % M = (X + T * M) % M:=by
    conv => rhs; rw [e1,Nat.add_mul_mod_self_left]
   rw [e2,Nat.add_mul_mod_self_right]
  ·
   rw [hD]
   have:=s3 h; omega
 ·
  subst h0
  obtain ⟨s1,s2,s3⟩:=hs
  simp only [Int.toNat_zero,Nat.zero_mul,Nat.add_zero] at s1
  rw [s1,Nat.add_mul_mod_self_right]
theorem fsub_hi (b X Y M : Nat) (N : Int) (Q : Nat) (S : Nat) (hX0 : X < top) (hY0 : Y < top) (hS : (X + top - Y) % top = S) (hu : decide (X < Y) = false) (w : World) (_hF : Fb w b M N Q) :
  Calls Tryd.prog 43 #[.pointer (some ⟨b,0,none⟩),.agg #[vI vU (wd X 0),vI vU (wd X 1),vI vU (wd X 2),vI vU (wd X 3)],.agg #[vI vU (wd Y 0),vI vU (wd Y 1),vI vU (wd Y 2),vI vU (wd Y 3)]] w fun e w' => e = .returned (.agg #[vI vU (wd S 0),vI vU (wd S 1),vI vU (wd S 2),vI vU (wd S 3)]) ∧ Below w.heap.size w w' :=
 way1 Tryd.func43 [(.pointer (some ⟨b,0,none⟩)),.agg #[vI vU (wd X 0),vI vU (wd X 1),vI vU (wd X 2),vI vU (wd X 3)],.agg #[vI vU (wd Y 0),vI vU (wd Y 1),vI vU (wd Y 2),vI vU (wd Y 3)]] (.call _ _ _ (fun W _ => ksub X Y S false hS hu hX0 hY0 W) <| .ret _ fun _ h => ⟨rfl,h⟩) (by kernel_rfl)
theorem fsub_lo (b X Y M : Nat) (N : Int) (Q : Nat) (S : Nat) (hX0 : X < top) (hY0 : Y < top) (hM : M < top) (hS : (X + top - Y) % top = S) (hu : decide (X < Y) = true) (D : Nat) (hD : (S + M) % top = D) (w : World) (hF : Fb w b M N Q) :
  Calls Tryd.prog 43 #[.pointer (some ⟨b,0,none⟩),.agg #[vI vU (wd X 0),vI vU (wd X 1),vI vU (wd X 2),vI vU (wd X 3)],.agg #[vI vU (wd Y 0),vI vU (wd Y 1),vI vU (wd Y 2),vI vU (wd Y 3)]] w fun e w' => e = .returned (.agg #[vI vU (wd D 0),vI vU (wd D 1),vI vU (wd D 2),vI vU (wd D 3)]) ∧ Below w.heap.size w w' :=
 way1 Tryd.func43 [(.pointer (some ⟨b,0,none⟩)),.agg #[vI vU (wd X 0),vI vU (wd X 1),vI vU (wd X 2),vI vU (wd X 3)],.agg #[vI vU (wd Y 0),vI vU (wd Y 1),vI vU (wd Y 2),vI vU (wd Y 3)]] (.call _ _ _ (fun W _ => ksub X Y S true hS hu hX0 hY0 W) <| .ins 21 (Instr.loadAt 25 (.pointer (some ⟨b,0,none⟩))) (.agg #[vI vU (wd M 0),vI vU (wd M 1),vI vU (wd M 2),vI vU (wd M 3)]) (fun W hW => zct (hF.call hW)) <| .call _ _ _ (fun W _ => kadd S M D _ hD rfl (by rw [← hS]; exact Nat.mod_lt _ zce) hM W) <| .ret _ fun _ h => ⟨rfl,h⟩) (by kernel_rfl)
theorem zfm (b X Y M : Nat) (N : Int) (Q Z : Nat) (hX : X < M) (hY : Y < M) (hM : M < top) (hZ : (X + M - Y) % M = Z) (w : World) (hF : Fb w b M N Q) :
  Calls Tryd.prog 43 #[.pointer (some ⟨b,0,none⟩),.agg #[vI vU (wd X 0),vI vU (wd X 1),vI vU (wd X 2),vI vU (wd X 3)],.agg #[vI vU (wd Y 0),vI vU (wd Y 1),vI vU (wd Y 2),vI vU (wd Y 3)]] w fun e w' => e = .returned (.agg #[vI vU (wd Z 0),vI vU (wd Z 1),vI vU (wd Z 2),vI vU (wd Z 3)]) ∧ Below w.heap.size w w':=by
 subst hZ
 by_cases h : X < Y
 ·
  exact fsub_lo b X Y M N Q _ (by omega) (by omega) hM rfl (by simpa using h) _ (by rw [Nat.mod_eq_of_lt (a:=X + top - Y) (by omega),show X + top - Y + M = (X + M - Y) + top by omega,Nat.add_mod_right,Nat.mod_eq_of_lt (by omega),Nat.mod_eq_of_lt (by omega)]) w hF
 ·
  exact fsub_hi b X Y M N Q _ (by omega) (by omega) (by rw [show X + top - Y = (X - Y) + top by omega,Nat.add_mod_right,show X + M - Y = (X - Y) + M by omega,Nat.add_mod_right,Nat.mod_eq_of_lt (by omega),Nat.mod_eq_of_lt (by omega)]) (by simpa using h) w hF
theorem kadd_one (X Z : Nat) (u : Bool) (h : (X + 1) % top = Z) (h2 : decide (top ≤ X + 1) = u) (hX : X < top) (w : World) :
  Calls Tryd.prog 65 #[.agg #[vI vU (wd X 0),vI vU (wd X 1),vI vU (wd X 2),vI vU (wd X 3)],.agg #[vI vU 1,vI vU 0,vI vU 0,vI vU 0]] w fun e w' => e = .returned (.tuple #[.agg #[vI vU (wd Z 0),vI vU (wd Z 1),vI vU (wd Z 2),vI vU (wd Z 3)],.bool u]) ∧ Below w.heap.size w w':=by
 have h:=kadd X 1 Z u h h2 hX (by decide) w
 have o0 : wd 1 0 = 1:=by decide
 have o1 : wd 1 1 = 0:=by decide
 have o2 : wd 1 2 = 0:=by decide
 have o3 : wd 1 3 = 0:=by decide
 rw [o0,o1,o2,o3] at h
 exact h
theorem bit_par (X : Nat) : bit X 0 = decide (X % 2 = 1):=by
 unfold bit; rw [Nat.pow_zero,Nat.div_one]
 cases h : decide (X % 2 = 1) <;> simp_all
theorem fhalf_even (b X M : Nat) (N : Int) (Q Z : Nat) (hX : X < M) (hM : M < top) (_hodd : M % 2 = 1) (hp : X % 2 = 0) (hZ : X / 2 = Z) (w : World) (_hF : Fb w b M N Q) :
  Calls Tryd.prog 41 #[.pointer (some ⟨b,0,none⟩),.agg #[vI vU (wd X 0),vI vU (wd X 1),vI vU (wd X 2),vI vU (wd X 3)]] w fun e w' => e = .returned (.agg #[vI vU (wd Z 0),vI vU (wd Z 1),vI vU (wd Z 2),vI vU (wd Z 3)]) ∧ Below w.heap.size w w' :=
 way1 Tryd.func41 [(.pointer (some ⟨b,0,none⟩)),.agg #[vI vU (wd X 0),vI vU (wd X 1),vI vU (wd X 2),vI vU (wd X 3)]] (.call _ _ _ (fun W _ => khalf X Z hZ (Nat.lt_trans hX hM) W) <| .call _ _ _ (fun W _ => kbit0 X false (by rw [bit_par,hp]; rfl) W) <| .ret _ fun _ h => ⟨rfl,h⟩) (by kernel_rfl)
theorem fhalf_odd (b X M : Nat) (N : Int) (Q Z : Nat) (hX : X < M) (hM : M < top) (hodd : M % 2 = 1) (hp : X % 2 = 1) (hZ : (X + M) / 2 = Z) (w : World) (hF : Fb w b M N Q) :
  Calls Tryd.prog 41 #[.pointer (some ⟨b,0,none⟩),.agg #[vI vU (wd X 0),vI vU (wd X 1),vI vU (wd X 2),vI vU (wd X 3)]] w fun e w' => e = .returned (.agg #[vI vU (wd Z 0),vI vU (wd Z 1),vI vU (wd Z 2),vI vU (wd Z 3)]) ∧ Below w.heap.size w w' :=
 have h1 : X / 2 + M / 2 < top:=by omega
 have h2 : X / 2 + M / 2 + 1 = Z:=by omega
 way1 Tryd.func41 [(.pointer (some ⟨b,0,none⟩)),.agg #[vI vU (wd X 0),vI vU (wd X 1),vI vU (wd X 2),vI vU (wd X 3)]] (.call _ _ _ (fun W _ => khalf X (X / 2) rfl (Nat.lt_trans hX hM) W) <| .call _ _ _ (fun W _ => kbit0 X true (by rw [bit_par,hp]; rfl) W) <| .ins 17 (Instr.loadAt 25 (.pointer (some ⟨b,0,none⟩))) (.agg #[vI vU (wd M 0),vI vU (wd M 1),vI vU (wd M 2),vI vU (wd M 3)]) (fun W hW => zct (hF.call hW)) <| .call _ _ _ (fun W _ => khalf M (M / 2) rfl hM W) <|
  .call _ _ _ (fun W _ => kadd (X / 2) (M / 2) (X / 2 + M / 2) _ (Nat.mod_eq_of_lt h1) rfl (by omega) (by omega) W) <| .call _ _ _ (fun W _ => kadd_one (X / 2 + M / 2) Z _ (by rw [h2]; exact Nat.mod_eq_of_lt (by omega)) rfl h1 W) <| .ret _ fun _ h => ⟨rfl,h⟩) (by kernel_rfl)
theorem fhalf_calls (b X M : Nat) (N : Int) (Q Z : Nat) (hX : X < M) (hM : M < top) (hodd : M % 2 = 1) (hZ : hf X M = Z) (w : World) (hF : Fb w b M N Q) :
  Calls Tryd.prog 41 #[.pointer (some ⟨b,0,none⟩),.agg #[vI vU (wd X 0),vI vU (wd X 1),vI vU (wd X 2),vI vU (wd X 3)]] w fun e w' => e = .returned (.agg #[vI vU (wd Z 0),vI vU (wd Z 1),vI vU (wd Z 2),vI vU (wd Z 3)]) ∧ Below w.heap.size w w':=by
 unfold hf at hZ
 by_cases h : X % 2 = 0
 ·
  rw [if_pos h] at hZ; exact fhalf_even b X M N Q Z hX hM hodd h hZ w hF
 ·
  rw [if_neg h] at hZ; exact fhalf_odd b X M N Q Z hX hM hodd (by omega) hZ w hF
structure FI (a M u v x y : Nat) : Prop where
 hx : x < M
 hy : y < M
 hu : u < top
 hv : v < top
 odd : v % 2 = 1
 ex : a * x % M = u % M
 ey : a * y % M = v % M
 g : Nat.gcd u v = Nat.gcd a M
theorem fi_start {a M : Nat} (ha : a < top) (hM : M < top) (hM1 : 1 < M) (hodd : M % 2 = 1) : FI a M a M 1 0 :=
 ⟨hM1,by omega,ha,hM,hodd,by rw [Nat.mul_one],by rw [Nat.mul_zero,Nat.zero_mod,Nat.mod_self],rfl⟩
theorem fi_even {a M u v x y : Nat} (h : FI a M u v x y) (hodd : M % 2 = 1) (hu : u % 2 = 0) : FI a M (u / 2) v (hf x M) y:=by
 obtain ⟨hx,hy,hut,hvt,odd,ex,ey,g⟩:=h
 refine ⟨hf_lt hx,hy,by omega,hvt,odd,?_,ey,by rw [gcd_even u v hu odd]; exact g⟩
 apply cut_twice hodd
 rw [show 2 * (u / 2) = u by omega,← ex]
 unfold hf
 split
 ·
  rw [Nat.mul_left_comm,show 2 * (x / 2) = x by omega]
 ·
  rw [Nat.mul_left_comm,show 2 * ((x + M) / 2) = x + M by omega,Nat.mul_add,Nat.add_mul_mod_self_right]
theorem fi_swap {a M u v x y : Nat} (h : FI a M u v x y) (hu : u % 2 = 1) : FI a M v u y x :=
 ⟨h.hy,h.hx,h.hv,h.hu,hu,h.ey,h.ex,by rw [Nat.gcd_comm]; exact h.g⟩
theorem fi_more {a M u v x y : Nat} (h : FI a M u v x y) (hle : v ≤ u) : FI a M (u - v) v ((x + M - y) % M) y:=by
 obtain ⟨hx,hy,hut,hvt,odd,ex,ey,g⟩:=h
 have hM0 : 0 < M:=by omega
 refine ⟨Nat.mod_lt _ hM0,hy,by omega,hvt,odd,?_,ey,by rw [gcd_less v u hle,Nat.gcd_comm]; exact g⟩
 apply cut_add (C:=v) hM0
 rw [Nat.sub_add_cancel hle,← ex,Nat.add_mod,← ey,← Nat.add_mod,Nat.add_mod,Nat.mul_mod,Nat.mod_mod,← Nat.mul_mod,← Nat.add_mod,← Nat.mul_add,show x + M - y + y = x + M by omega,Nat.mul_add,Nat.add_mul_mod_self_right]
theorem neq_one {X : Nat} (hX : X < top) (w : World) : (binOp .neq 25 (.agg #[vI vU (wd X 0),vI vU (wd X 1),vI vU (wd X 2),vI vU (wd X 3)]) (.agg #[vI vU 1,vI vU 0,vI vU 0,vI vU 0])).run Tryd.prog w = .ok (.bool (!decide (X = 1))) w:=by
 have h:=neq4 (wd X) (wd 1) w
 rw [all_wd 4 X 1] at h
 have e : (X % w64 ^ 4 = 1 % w64 ^ 4) = (X = 1):=by rw [Nat.mod_eq_of_lt (show X < w64 ^ 4 from hX),Nat.mod_eq_of_lt (show 1 < w64 ^ 4 by decide)]
 rw [decide_eq_decide.2 (iff_of_eq e)] at h
 have o0 : wd 1 0 = 1:=by decide
 have o1 : wd 1 1 = 0:=by decide
 have o2 : wd 1 2 = 0:=by decide
 have o3 : wd 1 3 = 0:=by decide
 rw [o0,o1,o2,o3] at h
 exact h
def invRet (X M y : Nat) : Value:=if Nat.gcd X M = 1 then .tuple #[.agg #[vI vU (wd y 0),vI vU (wd y 1),vI vU (wd y 2),vI vU (wd y 3)],.nilIface] else .tuple #[.agg #[vI vU 0,vI vU 0,vI vU 0,vI vU 0],.iface 44 (.int .i64 4)]
theorem zfk {X M y : Nat} (h : Nat.gcd X M = 1) : invRet X M y = .tuple #[.agg #[vI vU (wd y 0),vI vU (wd y 1),vI vU (wd y 2),vI vU (wd y 3)],.nilIface]:=if_pos h
theorem invRet_no {X M y : Nat} (h : ¬ Nat.gcd X M = 1) : invRet X M y = .tuple #[.agg #[vI vU 0,vI vU 0,vI vU 0,vI vU 0],.iface 44 (.int .i64 4)]:=if_neg h
theorem zfn (b X M : Nat) (N : Int) (Q : Nat) (hX : X < top) (hK : Fok M N Q) (w : World) (hF : Fb w b M N Q) :
  Calls Tryd.prog 19 #[.pointer (some ⟨b,0,none⟩),.agg #[vI vU (wd X 0),vI vU (wd X 1),vI vU (wd X 2),vI vU (wd X 3)]] w fun e w' => (∃ y,y < M ∧ (Nat.gcd X M = 1 → X * y % M = 1) ∧
   e = .returned (invRet X M y)) ∧ Below w.heap.size w w':=by
 have hM1 : 1 < M:=by have:=hK.m2; omega
 have hI0:=fi_start hX hK.mt hM1 hK.odd
 have hN : ∀ {u : Nat},¬ u % 2 = 0 → u % 2 = 1:=fun h => by omega
 have hg : ∀ {u v x y : Nat},FI X M u v x y → u = 0 → Nat.gcd X M = v:=fun h h0 => by rw [← h.g,h0,Nat.gcd_zero_left]
 have hc : ∀ {u v : Nat},¬ u < v → ¬ cmpN u v < 0:=fun {u v} h => by
  have e : 0 ≤ cmpN u v:=by rw [cmp_ge]; exact h
  omega
 have hv0 : ∀ {u v x y : Nat},FI X M u v x y → 0 < v:=fun h => by have:=h.odd; omega
 refine (way0 (Post:=fun v W => (∃ y,y < M ∧ (Nat.gcd X M = 1 → X * y % M = 1) ∧ v = invRet X M y) ∧ Ext w W) Tryd.func19 [.pointer (some ⟨b,0,none⟩),.agg #[vI vU (wd X 0),vI vU (wd X 1),vI vU (wd X 2),vI vU (wd X 3)]] (
  .ins 15 (Instr.loadAt 25 (.pointer (some ⟨b,0,none⟩))) (.agg #[vI vU (wd M 0),vI vU (wd M 1),vI vU (wd M 2),vI vU (wd M 3)]) (fun W hW => run_loadAt_mid W b 0 25 _ _ (hF.call hW).range Tryd.underlying25 rfl (by kernel_rfl)) <|
  .loop (fun l => [(0,.v (.pointer (some ⟨b,0,none⟩))),(3,.p 0 0),(4,.p 1 0),(6,.p 2 0),(7,.p 3 0),(8,.p 4 0),(9,.p 5 0)])
   (fun l => [⟨25,cN X⟩,⟨25,cZ⟩,⟨25,cN (l 0)⟩,⟨25,cN (l 2)⟩,⟨25,cN (l 1)⟩,⟨25,cN (l 3)⟩]) (fun l => l 0 + l 1) (fun l => FI X M (l 0) (l 1) (l 2) (l 3)) (lst [X,M,1,0]) hI0 fun l h =>
  .cases (l 0 = 0)
   (fun h0 => .ins 19 (binK .neq 25 (.tmp 17) (.tmp 18) (.agg #[vI vU (wd (l 0) 0),vI vU (wd (l 0) 1),vI vU (wd (l 0) 2),vI vU (wd (l 0) 3)]) (.agg #[vI vU 0,vI vU 0,vI vU 0,vI vU 0])) (.bool false) (fun W _ => zcj (by simp [eqGuard,go_sem]) (by rw [neq_zero h.hu W,decide_eq_true h0]; rfl)) <|
    .cases (l 1 = 1)
     (fun h1 => .ins 48 (binK .neq 25 (.tmp 46) (.tmp 47) (.agg #[vI vU (wd (l 1) 0),vI vU (wd (l 1) 1),vI vU (wd (l 1) 2),vI vU (wd (l 1) 3)]) (.agg #[vI vU 1,vI vU 0,vI vU 0,vI vU 0])) (.bool false) (fun W _ => zcj (by simp [eqGuard,go_sem]) (by rw [neq_one h.hv W,decide_eq_true h1]; rfl)) <|
      .ret (.tuple #[.agg #[vI vU (wd (l 3) 0),vI vU (wd (l 3) 1),vI vU (wd (l 3) 2),vI vU (wd (l 3) 3)],.nilIface]) fun W hW => ⟨⟨l 3,h.hy,fun _ => by rw [h.ey,h1,Nat.mod_eq_of_lt hM1],(zfk (by rw [hg h h0,h1])).symm⟩,hW⟩)
     (fun h1 => .ins 48 (binK .neq 25 (.tmp 46) (.tmp 47) (.agg #[vI vU (wd (l 1) 0),vI vU (wd (l 1) 1),vI vU (wd (l 1) 2),vI vU (wd (l 1) 3)]) (.agg #[vI vU 1,vI vU 0,vI vU 0,vI vU 0])) (.bool true) (fun W _ => zcj (by simp [eqGuard,go_sem]) (by rw [neq_one h.hv W,decide_eq_false h1]; rfl)) <|
      .ret (.tuple #[.agg #[vI vU 0,vI vU 0,vI vU 0,vI vU 0],.iface 44 (.int .i64 4)]) fun W hW => ⟨⟨l 3,h.hy,fun e => absurd ((hg h h0).symm.trans e) h1,(invRet_no fun e => h1 ((hg h h0).symm.trans e)).symm⟩,hW⟩))
   (fun h0 => .ins 19 (binK .neq 25 (.tmp 17) (.tmp 18) (.agg #[vI vU (wd (l 0) 0),vI vU (wd (l 0) 1),vI vU (wd (l 0) 2),vI vU (wd (l 0) 3)]) (.agg #[vI vU 0,vI vU 0,vI vU 0,vI vU 0])) (.bool true) (fun W _ => zcj (by simp [eqGuard,go_sem]) (by rw [neq_zero h.hu W,decide_eq_false h0]; rfl)) <|
    .cases (l 0 % 2 = 0)
     (fun hp => .call _ _ _ (fun W _ => kbit0 (l 0) false (by rw [bit_par,hp]; rfl) W) <| .call _ _ _ (fun W _ => khalf (l 0) (l 0 / 2) rfl h.hu W) <| .call _ _ _ (fun W hW => fhalf_calls b (l 2) M N Q _ h.hx hK.mt hK.odd rfl W (hF.call hW)) <|
      .next (lst [l 0 / 2,l 1,hf (l 2) M,l 3]) _ (And.intro (fi_even h hK.odd hp) (show l 0 / 2 + l 1 < l 0 + l 1 by omega)))
     (fun hp => .call _ _ _ (fun W _ => kbit0 (l 0) true (by rw [bit_par,hN hp]; rfl) W) <|
      .cases (l 0 < l 1)
       (fun hl => .call _ _ _ (fun W _ => kcmp (l 0) (l 1) (-1) (by unfold cmpN; rw [if_pos hl]) h.hu h.hv W) <|
        .call _ _ _ (fun W _ => ksub (l 1) (l 0) (l 1 - l 0) _ (by rw [show l 1 + top - l 0 = (l 1 - l 0) + top by omega,Nat.add_mod_right,Nat.mod_eq_of_lt (by have:=h.hv; omega)]) rfl h.hv h.hu W) <|
        .call _ _ _ (fun W hW => zfm b (l 3) (l 2) M N Q _ h.hy h.hx hK.mt rfl W (hF.call hW)) <| .next (lst [l 1 - l 0,l 0,(l 3 + M - l 2) % M,l 2]) _ (And.intro (fi_more (fi_swap h (hN hp)) (by omega)) (show l 1 - l 0 + l 0 < l 0 + l 1 by omega)))
       (fun hl => .call _ _ _ (fun W _ => kcmp (l 0) (l 1) _ rfl h.hu h.hv W) <|
        .ins 31 (binK .lss 3 (.tmp 30) (.const (.int .i64 0)) (.int .i64 (cmpN (l 0) (l 1))) (.int .i64 0)) (.bool false) (fun _ _ => lss_run (decide_eq_false (hc hl))) <|
        .call _ _ _ (fun W _ => ksub (l 0) (l 1) (l 0 - l 1) _ (by rw [show l 0 + top - l 1 = (l 0 - l 1) + top by omega,Nat.add_mod_right,Nat.mod_eq_of_lt (by have:=h.hu; omega)]) rfl h.hu h.hv W) <|
        .call _ _ _ (fun W hW => zfm b (l 2) (l 3) M N Q _ h.hx h.hy hK.mt rfl W (hF.call hW)) <| .next (lst [l 0 - l 1,l 1,(l 2 + M - l 3) % M,l 3]) _ (And.intro (fi_more h (by omega)) (show l 0 - l 1 + l 1 < l 0 + l 1 by have:=hv0 h; omega))))))
  (by kernel_rfl)).mono fun e w' ⟨v,he,⟨y,h1,h2,h3⟩,h4⟩ => ⟨⟨y,h1,h2,by rw [he,h3]⟩,h4⟩
end Go.Proofs.YtihophdbkjhopaaDoor
