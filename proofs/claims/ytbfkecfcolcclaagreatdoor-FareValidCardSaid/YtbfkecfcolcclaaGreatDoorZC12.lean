/-
  Of FNew.
-/
import Derived.Deep.CutRange
import Derived.Test.YtbfkecfcolcclaaGreatDoorZC11
set_option maxRecDepth 1000000
set_option maxHeartbeats 20000000
namespace Go.Proofs.YtbfkecfcolcclaaGreatDoor
open Go.RowKit
open Go.Value renaming int → vI
open Go.IntKind renaming u64 → vU
open Go.Act renaming put → aP
open List renaming setIfInBounds_toArray → lA, set_cons_zero → lZ, set_cons_succ → lS
theorem wd_odd (X : Nat) : wd X 0 % 2 = ((X % 2 : Nat) : Int):=by
 unfold wd dg w64; rw [Nat.pow_zero,Nat.div_one]; omega
theorem bit_zero (X : Nat) : bit X 0 = decide (X % 2 = 1):=by
 unfold bit; rw [Nat.pow_zero,Nat.div_one]
 first | rfl | (cases h : decide (X % 2 = 1) <;> simp_all)
theorem kcmp3 (X : Nat) (c : Int) (h : cmpN X 3 = c) (hX : X < top) (w : World) :
  Calls Tryz.prog 143 #[.agg #[vI vU (wd X 0),vI vU (wd X 1),vI vU (wd X 2),vI vU (wd X 3)],.agg #[vI vU 3,vI vU 0,vI vU 0,vI vU 0]] w fun e w' => e = .returned (.int .i64 c) ∧ Below w.heap.size w w':=by
 have h:=kcmp X 3 c h hX (by decide) w
 have o0 : wd 3 0 = 3:=by decide
 have o1 : wd 3 1 = 0:=by decide
 have o2 : wd 3 2 = 0:=by decide
 have o3 : wd 3 3 = 0:=by decide
 rw [o0,o1,o2,o3] at h
 exact h
def sqk (M k : Nat) : Nat:=2 ^ k % M
theorem sqk_lt {M k : Nat} (h : 0 < M) : sqk M k < M:=Nat.mod_lt _ h
theorem sqk_step (M k : Nat) : (sqk M k + sqk M k) % M = sqk M (k + 1):=by
 unfold sqk; rw [← Nat.add_mod,Nat.pow_succ,Nat.mul_two]
theorem sqk_zero {M : Nat} (h : 1 < M) : sqk M 0 = 1:=by unfold sqk; rw [Nat.pow_zero]; exact Nat.mod_eq_of_lt h
theorem pow_of (a c n : Nat) (h : n = a * c) : 2 ^ n = (2 ^ a) ^ c:=by rw [h,Nat.pow_mul]
theorem sqk_end (M n : Nat) (h : n = 64 * 8) : sqk M n = top8 % M:=by
 have e:=pow_of 64 8 n h
 rw [← w64_two] at e
 unfold sqk top8; rw [e]
section
variable {w : World} {b M Q : Nat} {N : Int}
theorem Fb.froz (h : Fb w b M N Q) (i : Nat) : w.frozen? ⟨b,i,none⟩ = false:=World.rowIs.frozen h i
theorem Fb.putsq (h : Fb w b M N Q) (K : Nat) : Fb ((((w.setCell ⟨b,5,none⟩ (.int .u64 (wd K 0))).setCell ⟨b,6,none⟩ (.int .u64 (wd K 1))).setCell ⟨b,7,none⟩ (.int .u64 (wd K 2))).setCell ⟨b,8,none⟩ (.int .u64 (wd K 3))) b M N K :=
 World.rowIs.congr ((((World.rowIs.set h 5 (.int .u64 (wd K 0))).set 6 (.int .u64 (wd K 1))).set 7 (.int .u64 (wd K 2))).set 8 (.int .u64 (wd K 3))) fun i hi => by
  have : i = 0 ∨ i = 1 ∨ i = 2 ∨ i = 3 ∨ i = 4 ∨ i = 5 ∨ i = 6 ∨ i = 7 ∨ i = 8:=by omega
  rcases this with rfl | rfl | rfl | rfl | rfl | rfl | rfl | rfl | rfl <;> rfl
end
theorem new_good (M : Nat) (h : M % 2 = 1) (hl : 2 < M) (hM : M < top) (w : World) :
  Calls Tryz.prog 145 #[.agg #[vI vU (wd M 0),vI vU (wd M 1),vI vU (wd M 2),vI vU (wd M 3)]] w fun e w' => (∃ (b : Nat) (N : Int) (Q : Nat),Fok M N Q ∧ Fb w' b M N Q ∧ w.heap.size ≤ b ∧ e = .returned (.tuple #[.pointer (some ⟨b,0,none⟩),.nilIface])) ∧ Below w.heap.size w w':=by
 have K1:=veil (fun W => kbit0 M true (by rw [bit_zero,h]; rfl) W)
 obtain ⟨c,hc⟩ : ∃ c,c = cmpN M 3:=⟨_,rfl⟩
 have hcn : 0 ≤ c:=by rw [hc,cmp_ge]; omega
 have K2:=veil (fun W => kcmp3 M c hc.symm hM W)
 have K3:=veil (fun W => inverse_calls (wd M 0) (wd_lo _ _) (wd_le _ _) (by rw [wd_odd,h]; rfl) W)
 have HM:=veil (And.intro h (And.intro hl hM))
 clear h hl hM hc
 have hA : (w.alloc (.cells #[vI vU (wd M 0),vI vU (wd M 1),vI vU (wd M 2),vI vU (wd M 3)] 58)).rowIs w.heap.size 58 4 (fun j => .int .u64 (wd M j)):=zaf (n:=4) (by simp) rfl (arr4 fun j => .int .u64 (wd M j))
 have hbel : Below w.heap.size w (w.alloc (.cells #[vI vU (wd M 0),vI vU (wd M 1),vI vU (wd M 2),vI vU (wd M 3)] 58)):=(Below.refl _ _).alloc (by simp) _
 go_enter Tryz.func145,Tryz.ntmps145
 obtain ⟨a0,a1,a2,a3⟩:=zag hA
 go_wp2_with fail
 refine (K1.out _).mono ?_
 rintro e w1 ⟨rfl,hb1⟩
 replace hA:=zac (by exact hA) hb1 (by exact hA.lt)
 replace hbel:=Below.trans (by first | exact hbel | exact hbel.drew) (hb1.mono (by exact hbel.size))
 clear a0 a1 a2 a3 hb1
 obtain ⟨a0,a1,a2,a3⟩:=zag hA
 go_wp2_with fail
 refine (K2.out _).mono ?_
 rintro e w2 ⟨rfl,hb2⟩
 replace hA:=zac (by exact hA) hb2 (by exact hA.lt)
 replace hbel:=Below.trans (by first | exact hbel | exact hbel.drew) (hb2.mono (by exact hbel.size))
 clear a0 a1 a2 a3 hb2
 obtain ⟨a0,a1,a2,a3⟩:=zag hA
 go_wp2_with fail
 go_region_with (go_at_call 181; refine (K3.out _).mono ?_; rintro e w3 ⟨n,hn0,hn1,hn2,rfl,rfl⟩)
 all_goals go_wp2_with fail
 all_goals
  clear a0 a1 a2 a3
  have hFr : Fb (w2.alloc (.cells #[vI vU (wd M 0),vI vU (wd M 1),vI vU (wd M 2),vI vU (wd M 3),vI vU n,vI vU 1,vI vU 0,vI vU 0,vI vU 0] 188)).drew w2.heap.size M n 1 :=
   zaf (n:=9) rfl rfl (fun i hi => by match i,hi with | 0,_ => rfl | 1,_ => rfl | 2,_ => rfl | 3,_ => rfl | 4,_ => rfl | 5,_ => rfl | 6,_ => rfl | 7,_ => rfl | 8,_ => rfl)
  have hgw : w.heap.size ≤ w2.heap.size:=hbel.size
  replace hbel:=(hbel.alloc hgw (.cells #[vI vU (wd M 0),vI vU (wd M 1),vI vU (wd M 2),vI vU (wd M 3),vI vU n,vI vU 1,vI vU 0,vI vU 0,vI vU 0] 188)).drew
  clear hA
  have HN:=veil hn2
  clear hn2
  generalize w2.heap.size = g at *
  generalize (w2.alloc (.cells #[vI vU (wd M 0),vI vU (wd M 1),vI vU (wd M 2),vI vU (wd M 3),vI vU n,vI vU 1,vI vU 0,vI vU 0,vI vU 0] 188)).drew = w4 at *
  go_loopw [22] (fun i wr => ∃ k : Nat,k ≤ 512 ∧ i = .int .i64 (k : Int) ∧ Fb wr g M n (sqk M k) ∧ Below w.heap.size w wr)
   (fun i _ => 512 - (intOf i).toNat)
  case atStart => exact ⟨0,by omega,rfl,by rw [sqk_zero (by have:=HM.out.2.1; omega)]; exact hFr,hbel⟩
  case round =>
   clear hFr hbel
   obtain ⟨k,hk,rfl,hFr,hbel⟩:=hrel
   by_cases hlt : k < 512
   ·
    have hki : (k : Int) ≤ 511:=by omega
    have hq:=sqk_lt (M:=M) (k:=k) (by have:=HM.out.2.1; omega)
    have K:=veil (fun W (h : Fb W g M n (sqk M k)) => fadd_calls g _ _ M n _ _ hq hq HM.out.2.2 (sqk_step M k) W h)
    clear hq
    obtain ⟨q',hq'⟩ : ∃ q',q' = sqk M (k + 1):=⟨_,rfl⟩
    rw [← hq'] at K
    have HQ:=veil hq'
    clear hq' hlt
    generalize sqk M k = q at *
    obtain ⟨s0,s1,s2,s3⟩:=hFr.sq
    have f5:=hFr.froz 5
    have f6:=hFr.froz 6
    have f7:=hFr.froz 7
    have f8:=hFr.froz 8
    go_wp2_with fail
    go_region_with (go_at_call 182; refine (K.out _ (by exact hFr)).mono ?_; rintro e w5 ⟨rfl,hb5⟩; replace hFr:=Fb.below (by exact hFr) hb5 (by exact hFr.lt); replace hbel:=Below.trans (by first | exact hbel | exact hbel.drew) (hb5.mono (by exact hbel.size)); obtain ⟨s0,s1,s2,s3⟩:=hFr.sq; have f5:=hFr.froz 5; have f6:=hFr.froz 6; have f7:=hFr.froz 7; have f8:=hFr.froz 8)
    all_goals
     go_wp2
     go_roundw
     case rel => exact ⟨k + 1,by omega,by go_num,by rw [← HQ.out]; exact hFr.putsq q',zad (zad (zad (zad hbel hgw _) hgw _) hgw _) hgw _⟩
     case measure => simp [intOf]; omega
   ·
    obtain rfl : k = 512:=by omega
    go_wp2
    go_ret2
    exact ⟨⟨g,n,_,⟨HM.out.2.1,HM.out.1,HM.out.2.2,hn0,hn1,HN.out,sqk_end M 512 (by decide)⟩,hFr,hgw,rfl⟩,hbel⟩
end Go.Proofs.YtbfkecfcolcclaaGreatDoor
