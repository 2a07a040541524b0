/-
  Of Q4 Bit Len RBit RLen Q12 G6 G7a PS NL RBytes SSched FrameN ArgD.
-/
import Derived.Deep.MidRow
import Derived.Laws.OwnMore
import Derived.Deep.AppendLies
import Derived.Deep.RegionHeld3
import Derived.Test.YtmfjigcdhijkjaaGreatDoorRows
import Derived.WalkKit
import Derived.ProofKit
import Derived.Lib.SmallJoins
import Derived.Laws.IdiomArrays
import Derived.OpenShut
import Derived.Test.YtmfjigcdhijkjaaGreatDoorZV9
import Derived.Test.YtmfjigcdhijkjaaGreatDoorZV7
import Derived.Test.YtmfjigcdhijkjaaGreatDoorZV8
import Derived.Test.YtmfjigcdhijkjaaGreatDoorZV3
import Derived.Test.YtmfjigcdhijkjaaGreatDoorZV5
import Derived.Test.YtmfjigcdhijkjaaGreatDoorZV2
import Derived.Test.YtmfjigcdhijkjaaGreatDoorZV1
set_option maxRecDepth 1000000
set_option maxHeartbeats 20000000
namespace Go.Proofs.YtmfjigcdhijkjaaGreatDoor
open Go.RowKit
open Go.Act renaming put → aP
open List renaming setIfInBounds_toArray → lA, set_cons_zero → lZ, set_cons_succ → lS
theorem lits3 : wd 3 0 = 3 ∧ wd 3 1 = 0 ∧ wd 3 2 = 0 ∧ wd 3 3 = 0:=by decide
theorem three_lt : 3 < Pt.pp:=by decide +kernel
theorem bb_lt : Pt.bb < Pt.pp:=by decide +kernel
theorem ron_near (X Y : Nat) (hX : X < Pt.pp) (hY : Y < Pt.pp) (w : World) :
  Calls Tryz.prog 38 #[.agg #[.int .u64 (wd X 0),.int .u64 (wd X 1),.int .u64 (wd X 2),.int .u64 (wd X 3),.int .u64 (wd Y 0),.int .u64 (wd Y 1),.int .u64 (wd Y 2),.int .u64 (wd Y 3),.bool (false)]] w fun e w' => e = .returned (.bool (decide (Y * Y % Pt.pp = rightN X))) ∧ Below w.heap.size w w':=by
 have hR:=zdn (w:=w) (b:=w.heap.size) X Y false (t:=29) rfl
 have hB : Below w.heap.size w (w.alloc (.cells #[.int .u64 (wd X 0),.int .u64 (wd X 1),.int .u64 (wd X 2),.int .u64 (wd X 3),.int .u64 (wd Y 0),.int .u64 (wd Y 1),.int .u64 (wd Y 2),.int .u64 (wd Y 3),.bool (false)] 29)):=(Below.refl _ _).alloc (Nat.le_refl _) _
 have hmod : ∀ a,a % Pt.pp < Pt.pp:=fun a => Nat.mod_lt _ zfu
 obtain ⟨A,hA⟩ : ∃ A,A = X * X % Pt.pp:=⟨_,rfl⟩
 obtain ⟨B,hBB⟩ : ∃ B,B = A * X % Pt.pp:=⟨_,rfl⟩
 obtain ⟨C,hC⟩ : ∃ C,C = 3 * X % Pt.pp:=⟨_,rfl⟩
 obtain ⟨D,hD⟩ : ∃ D,D = (B + Pt.pp - C) % Pt.pp:=⟨_,rfl⟩
 obtain ⟨R,hRR⟩ : ∃ R,R = (D + Pt.bb) % Pt.pp:=⟨_,rfl⟩
 obtain ⟨Q,hQ⟩ : ∃ Q,Q = Y * Y % Pt.pp:=⟨_,rfl⟩
 have hfin : rightN X = R:=by unfold rightN; rw [← hA,← hBB,← hC,← hD,← hRR]
 rw [hfin,← hQ]
 obtain ⟨M,hM⟩ : ∃ M,M = Pt.pp:=⟨_,rfl⟩
 obtain ⟨K,hK⟩ : ∃ K,K = Pt.bb:=⟨_,rfl⟩
 have lX : X < top:=Nat.lt_trans hX zbh
 have lY : Y < top:=Nat.lt_trans hY zbh
 have lA : A < Pt.pp:=by rw [hA]; exact hmod _
 have lB : B < Pt.pp:=by rw [hBB]; exact hmod _
 have lC : C < Pt.pp:=by rw [hC]; exact hmod _
 have lD : D < Pt.pp:=by rw [hD]; exact hmod _
 have lR : R < top:=by rw [hRR]; exact Nat.lt_trans (hmod _) zbh
 have lQ : Q < top:=by rw [hQ]; exact Nat.lt_trans (hmod _) zbh
 have hcx : cmpN X Pt.pp = -1:=by unfold cmpN; rw [if_pos hX]
 have hcy : cmpN Y Pt.pp = -1:=by unfold cmpN; rw [if_pos hY]
 obtain ⟨l0,l1,l2,l3⟩:=lits3
 have HP:=veil (show ∀ W,Calls Tryz.prog 84 #[] W fun e W' => e = .returned (.agg #[.int .u64 (wd M 0),.int .u64 (wd M 1),.int .u64 (wd M 2),.int .u64 (wd M 3)]) ∧ Below W.heap.size W W' from fun W => by rw [hM]; exact zfh W)
 have HCX:=veil (show ∀ W,Calls Tryz.prog 21 #[.agg #[.int .u64 (wd X 0),.int .u64 (wd X 1),.int .u64 (wd X 2),.int .u64 (wd X 3)],.agg #[.int .u64 (wd M 0),.int .u64 (wd M 1),.int .u64 (wd M 2),.int .u64 (wd M 3)]] W fun e W' => e = .returned (.int .i64 (-1)) ∧ Below W.heap.size W W' from fun W => by rw [hM,← hcx]; exact zds X Pt.pp lX zbh W)
 have HCY:=veil (show ∀ W,Calls Tryz.prog 21 #[.agg #[.int .u64 (wd Y 0),.int .u64 (wd Y 1),.int .u64 (wd Y 2),.int .u64 (wd Y 3)],.agg #[.int .u64 (wd M 0),.int .u64 (wd M 1),.int .u64 (wd M 2),.int .u64 (wd M 3)]] W fun e W' => e = .returned (.int .i64 (-1)) ∧ Below W.heap.size W W' from fun W => by rw [hM,← hcy]; exact zds Y Pt.pp lY zbh W)
 have H1:=veil (show ∀ W,Calls Tryz.prog 85 #[.agg #[.int .u64 (wd X 0),.int .u64 (wd X 1),.int .u64 (wd X 2),.int .u64 (wd X 3)],.agg #[.int .u64 (wd X 0),.int .u64 (wd X 1),.int .u64 (wd X 2),.int .u64 (wd X 3)]] W fun e W' => e = .returned (.agg #[.int .u64 (wd A 0),.int .u64 (wd A 1),.int .u64 (wd A 2),.int .u64 (wd A 3)]) ∧ Below W.heap.size W W' from fun W => zdp X X A hX lX hA W)
 have H2:=veil (show ∀ W,Calls Tryz.prog 85 #[.agg #[.int .u64 (wd A 0),.int .u64 (wd A 1),.int .u64 (wd A 2),.int .u64 (wd A 3)],.agg #[.int .u64 (wd X 0),.int .u64 (wd X 1),.int .u64 (wd X 2),.int .u64 (wd X 3)]] W fun e W' => e = .returned (.agg #[.int .u64 (wd B 0),.int .u64 (wd B 1),.int .u64 (wd B 2),.int .u64 (wd B 3)]) ∧ Below W.heap.size W W' from fun W => zdp A X B lA lX hBB W)
 have H3:=veil (show ∀ W,Calls Tryz.prog 85 #[.agg #[.int .u64 3,.int .u64 0,.int .u64 0,.int .u64 0],.agg #[.int .u64 (wd X 0),.int .u64 (wd X 1),.int .u64 (wd X 2),.int .u64 (wd X 3)]] W fun e W' => e = .returned (.agg #[.int .u64 (wd C 0),.int .u64 (wd C 1),.int .u64 (wd C 2),.int .u64 (wd C 3)]) ∧ Below W.heap.size W W' from fun W => by have h:=zdp 3 X C three_lt lX hC W; rw [l0,l1,l2,l3] at h; exact h)
 have H4:=veil (show ∀ W,Calls Tryz.prog 85 #[.agg #[.int .u64 (wd Y 0),.int .u64 (wd Y 1),.int .u64 (wd Y 2),.int .u64 (wd Y 3)],.agg #[.int .u64 (wd Y 0),.int .u64 (wd Y 1),.int .u64 (wd Y 2),.int .u64 (wd Y 3)]] W fun e W' => e = .returned (.agg #[.int .u64 (wd Q 0),.int .u64 (wd Q 1),.int .u64 (wd Q 2),.int .u64 (wd Q 3)]) ∧ Below W.heap.size W W' from fun W => zdp Y Y Q hY lY hQ W)
 have H5:=veil (show ∀ W,Calls Tryz.prog 86 #[.agg #[.int .u64 (wd B 0),.int .u64 (wd B 1),.int .u64 (wd B 2),.int .u64 (wd B 3)],.agg #[.int .u64 (wd C 0),.int .u64 (wd C 1),.int .u64 (wd C 2),.int .u64 (wd C 3)]] W fun e W' => e = .returned (.agg #[.int .u64 (wd D 0),.int .u64 (wd D 1),.int .u64 (wd D 2),.int .u64 (wd D 3)]) ∧ Below W.heap.size W W' from fun W => zdb B C D lB lC hD W)
 have H6:=veil (show ∀ W,Calls Tryz.prog 87 #[] W fun e W' => e = .returned (.agg #[.int .u64 (wd K 0),.int .u64 (wd K 1),.int .u64 (wd K 2),.int .u64 (wd K 3)]) ∧ Below W.heap.size W W' from fun W => by rw [hK]; exact rb_calls W)
 have H7:=veil (show ∀ W,Calls Tryz.prog 29 #[.agg #[.int .u64 (wd D 0),.int .u64 (wd D 1),.int .u64 (wd D 2),.int .u64 (wd D 3)],.agg #[.int .u64 (wd K 0),.int .u64 (wd K 1),.int .u64 (wd K 2),.int .u64 (wd K 3)],.agg #[.int .u64 (wd M 0),.int .u64 (wd M 1),.int .u64 (wd M 2),.int .u64 (wd M 3)]] W fun e W' => e = .returned (.agg #[.int .u64 (wd R 0),.int .u64 (wd R 1),.int .u64 (wd R 2),.int .u64 (wd R 3)]) ∧ Below W.heap.size W W' from fun W => by rw [hM,hK,hRR]; exact zek D Pt.bb Pt.pp lD bb_lt zbh W)
 have kq:=fun W => zhm lQ lR W
 obtain ⟨q,hq⟩ : ∃ q,q = decide (Q = R):=⟨_,rfl⟩
 rw [← hq] at kq ⊢
 obtain ⟨x0,x1,x2,x3⟩:=pt_x hR
 obtain ⟨y0,y1,y2,y3⟩:=pt_y hR
 have f0:=pt_f hR
 have lz:=hR.lt
 have HR:=veil hR
 clear hq lQ lR lD lC lB lA lX lY hcx hcy l0 l1 l2 l3 hM hK hfin hRR hD hC hBB hA hQ hX hY hmod hR
 go_enter Tryz.func38,Tryz.ntmps38
 go_upto_region 3 with (fail)
 generalize w.alloc (.cells #[.int .u64 (wd X 0),.int .u64 (wd X 1),.int .u64 (wd X 2),.int .u64 (wd X 3),.int .u64 (wd Y 0),.int .u64 (wd Y 1),.int .u64 (wd Y 2),.int .u64 (wd Y 3),.bool (false)] 29) = wz at *
 go_region_held3 (fun w' => (∀ b o,b < wz.heap.size → w'.cell? ⟨b,o,none⟩ = wz.cell? ⟨b,o,none⟩) ∧ Below wz.heap.size wz w')
  (first
   | (with_reducible assumption)
   | (with_reducible exact zcz _)
   | (with_reducible exact zde (by assumption) (by assumption))
   | (fail))
  (first
   | (go_at_call 84; refine (HP.out _).mono ?_; rintro e w1 ⟨rfl,hb1⟩)
   | (go_at_call 21; first | ((with_reducible refine (HCX.out _).mono ?_); rintro e w2 ⟨rfl,hb2⟩) | ((with_reducible refine (HCY.out _).mono ?_); rintro e w3 ⟨rfl,hb3⟩)))
 rename (_ ∧ Below wz.heap.size wz _) => hH
 have hH2:=hH.2
 clear hH hb1 hb2 x0 x1 x2 x3 y0 y1 y2 y3 f0
 have hR3:=zad HR.out hH2 lz
 have hB3:=hB.trans (hH2.mono hB.size)
 clear hH2 hB
 obtain ⟨x0,x1,x2,x3⟩:=pt_x hR3
 have l3:=hR3.lt
 go_upto_region 5 with (fail)
 go_cut [3] from 29 to 36 (fun v3 wx => ∃ g,v3 = .pointer (some ⟨g,0,none⟩) ∧ w3.heap.size ≤ g ∧ wx.rowIs g 24 4 (fun j => .int .u64 (wd B j)) ∧ Below w3.heap.size w3 wx)
 case first =>
  go_region_held3 (fun w' => (∀ b o,b < w3.heap.size → w'.cell? ⟨b,o,none⟩ = w3.cell? ⟨b,o,none⟩) ∧ Below w3.heap.size w3 w')
   (first
    | (with_reducible assumption)
    | (with_reducible exact zcz _)
    | (with_reducible exact zej _)
    | (with_reducible exact zdu _ (by assumption))
    | ((with_reducible refine zfa (by assumption) ?_); first | exact Nat.le_refl _ | exact hbm.size | exact Nat.le_trans hbm.size hbp.size)
    | ((with_reducible refine zfb ?_ (by assumption)); first | exact Nat.le_refl _ | exact hbm.size | exact Nat.le_trans hbm.size hbp.size)
    | (with_reducible exact zde (by assumption) (by assumption))
    | (fail))
   (first
    | (go_at_call 85; first | ((with_reducible refine (H1.out _).mono ?_); rintro e wm ⟨rfl,hbm⟩; obtain ⟨hmc,hmf,hml⟩:=zcc hbm) | ((with_reducible refine (H2.out _).mono ?_); rintro e wp ⟨rfl,hbp⟩; obtain ⟨hpc,hpf,hpl⟩:=zcc hbp)))
  all_goals rename (_ ∧ Below w3.heap.size w3 _) => hH
  ·
   go_wp2
   go_meet
   exact ⟨_,rfl,Nat.le_trans hbm.size hbp.size,zai (n:=4) rfl rfl (arr4 fun j => .int .u64 (wd B j)),hH.2⟩
  ·
   go_wp2
   go_meet
   exact ⟨_,rfl,hbm.size,put4 (zad (zai (n:=4) (f:=fun _ => .int .u64 0) rfl rfl (arr4 fun _ => .int .u64 0)) hbp (by simp)) (fun j => .int .u64 (wd B j)),hH.2⟩
  ·
   go_wp2
   go_meet
   exact ⟨_,rfl,Nat.le_refl _,put4 (zad (zad (zai (n:=4) (f:=fun _ => .int .u64 0) rfl rfl (arr4 fun _ => .int .u64 0)).drew hbm (by simp)) hbp (Nat.lt_of_lt_of_le (by simp) hbm.size)) (fun j => .int .u64 (wd B j)),hH.2⟩
 case rest =>
  obtain ⟨g,rfl,hg,hT5,hB5⟩:=hcut
  clear x0 x1 x2 x3
  have hR5:=zad hR3 hB5 l3
  have hB6:=hB3.trans (hB5.mono hB3.size)
  clear hR3 hB3 hB5
  obtain ⟨x0,x1,x2,x3⟩:=pt_x hR5
  go_wp2_with fail
  refine (H3.out wc).mono ?_
  rintro e w6 ⟨rfl,hb6⟩
  have hT6:=zad hT5 hb6 hT5.lt
  have hR6:=zad hR5 hb6 hR5.lt
  have hB7:=hB6.trans (hb6.mono hB6.size)
  clear x0 x1 x2 x3 hT5 hR5 hB6 hb6
  go_upto_region 7 with (fail)
  have hU7 : (w6.alloc (.cells #[.int .u64 (wd C 0),.int .u64 (wd C 1),.int .u64 (wd C 2),.int .u64 (wd C 3)] 24)).rowIs w6.heap.size 24 4 (fun j => .int .u64 (wd C j)):=zai (n:=4) rfl rfl (arr4 fun j => .int .u64 (wd C j))
  have hT7:=hT6.alloc (.cells #[.int .u64 (wd C 0),.int .u64 (wd C 1),.int .u64 (wd C 2),.int .u64 (wd C 3)] 24)
  have hR7:=hR6.alloc (.cells #[.int .u64 (wd C 0),.int .u64 (wd C 1),.int .u64 (wd C 2),.int .u64 (wd C 3)] 24)
  have hB8:=hB7.alloc hB7.size (.cells #[.int .u64 (wd C 0),.int .u64 (wd C 1),.int .u64 (wd C 2),.int .u64 (wd C 3)] 24)
  generalize w6.alloc (.cells #[.int .u64 (wd C 0),.int .u64 (wd C 1),.int .u64 (wd C 2),.int .u64 (wd C 3)] 24) = w7 at *
  generalize w6.heap.size = g4 at *
  clear hT6 hR6 hB7
  obtain ⟨y0,y1,y2,y3⟩:=pt_y hR7
  obtain ⟨t0,t1,t2,t3⟩:=zag hT7
  obtain ⟨u0,u1,u2,u3⟩:=zag hU7
  have m1:=hR7.lt
  have m2:=hT7.lt
  have m3:=hU7.lt
  go_region_held3 (fun w' => (∀ b o,b < w7.heap.size → w'.cell? ⟨b,o,none⟩ = w7.cell? ⟨b,o,none⟩) ∧ Below w7.heap.size w7 w')
   (first
    | (with_reducible assumption)
    | (with_reducible exact zcz _)
    | (with_reducible exact zde (by assumption) (by assumption))
    | (fail))
   (first
    | (go_at_call 85; (with_reducible refine (H4.out _).mono ?_); rintro e v1 ⟨rfl,hv1⟩)
    | (go_at_call 86; (with_reducible refine (H5.out _).mono ?_); rintro e v2 ⟨rfl,hv2⟩)
    | (go_at_call 87; (with_reducible refine (H6.out _).mono ?_); rintro e v3 ⟨rfl,hv3⟩)
    | (go_at_call 84; (with_reducible refine (HP.out _).mono ?_); rintro e v4 ⟨rfl,hv4⟩)
    | (go_at_call 29; (with_reducible refine (H7.out _).mono ?_); rintro e v5 ⟨rfl,hv5⟩))
  rename (_ ∧ Below w7.heap.size w7 _) => hH
  clear y0 y1 y2 y3 t0 t1 t2 t3 u0 u1 u2 u3
  go_wp2
  go_ret
  exact ⟨rfl,hB8.trans (hH.2.mono hB8.size)⟩
theorem ron_calls (X Y : Nat) (f : Bool) (hX : X < top) (hY : Y < top) (w : World) :
  Calls Tryz.prog 38 #[.agg #[.int .u64 (wd X 0),.int .u64 (wd X 1),.int .u64 (wd X 2),.int .u64 (wd X 3),.int .u64 (wd Y 0),.int .u64 (wd Y 1),.int .u64 (wd Y 2),.int .u64 (wd Y 3),.bool (f)]] w fun e w' => e = .returned (.bool (onB X Y f)) ∧ Below w.heap.size w w':=by
 unfold onB
 cases f with
 | true => exact ron_far X Y hX hY w
 | false =>
  by_cases hx : X < Pt.pp
  ·
   by_cases hy : Y < Pt.pp
   ·
    simp only [Bool.false_eq_true,if_false,hx,hy,decide_true,Bool.true_and]
    exact ron_near X Y hx hy w
   ·
    simp only [Bool.false_eq_true,if_false,hx,hy,decide_true,decide_false,Bool.true_and,Bool.false_and]
    exact ron_high X Y hx hY hy w
  ·
   simp only [Bool.false_eq_true,if_false,hx,decide_false,Bool.false_and]
   exact ron_out X Y hX hx w
def bit (X n : Nat) : Bool:=X / 2 ^ n % 2 == 1
theorem w64_two : w64 = 2 ^ 64:=by decide
theorem w16_two : w16 = 2 ^ 16:=by decide
theorem bit_dg (a n r m : Nat) (hr : r < m) : a / (2 ^ m) ^ n % 2 ^ m / 2 ^ r % 2 = a / 2 ^ (m * n + r) % 2:=by
 have h:=zdj (B:=2) (a / (2 ^ m) ^ n) m r hr
 unfold dg at h
 rw [h,← Nat.pow_mul,Nat.div_div_eq_div_mul,← Nat.pow_add]
theorem bit_word (X n : Nat) : (bits BinOp.and IntKind.u64 (wd X (n / 64) / 2 ^ (n % 64)) 1 == 1) = bit X n:=by
 have e : wd X (n / 64) / 2 ^ (n % 64) = ((dg w64 X (n / 64) / 2 ^ (n % 64) : Nat) : Int):=by
  unfold wd
  rw [Int.natCast_ediv]
  simp
 have hlt : dg w64 X (n / 64) / 2 ^ (n % 64) < 18446744073709551616:=Nat.lt_of_le_of_lt (Nat.div_le_self _ _) (dg_lt zbd X _)
 rw [e,show (1 : Int) = ((1 : Nat) : Int) from rfl,u64_and_nat _ _ hlt (by omega),Nat.and_one_is_mod]
 have h:=bit_dg X (n / 64) (n % 64) 64 (Nat.mod_lt _ (by omega))
 rw [Nat.div_add_mod] at h
 unfold bit dg
 rw [w64_two,h]
 rw [Bool.eq_iff_iff]
 simp only [beq_iff_eq]
 omega
def ph (X q k : Nat) : Int:=((dg w16 X q / 2 ^ k : Nat) : Int)
theorem ph_lo (X q k : Nat) : 0 ≤ ph X q k:=Int.natCast_nonneg _
theorem ph_lt (X q k : Nat) : ph X q k < 65536:=by
 have h : dg w16 X q / 2 ^ k < 65536:=Nat.lt_of_le_of_lt (Nat.div_le_self _ _) (dg_lt zih X q)
 unfold ph; omega
theorem ph_zero (X q : Nat) : ph X q 0 = pt X q:=by simp [ph,pt]
theorem ph_succ (X q k : Nat) : ph X q (k + 1) = ph X q k / 2:=by
 unfold ph
 rw [Nat.pow_succ,← Nat.div_div_eq_div_mul,Int.natCast_ediv]
 rfl
theorem ph_bit (X n : Nat) : (ph X (n / 16) (n % 16) % 2 == 1) = bit X n:=by
 have h:=bit_dg X (n / 16) (n % 16) 16 (Nat.mod_lt _ (by omega))
 rw [Nat.div_add_mod] at h
 unfold bit ph dg
 rw [w16_two,← h]
 rw [Bool.eq_iff_iff]
 simp only [beq_iff_eq]
 omega
theorem bit_in (X n : Nat) (hn : n < 256) (w : World) :
  Calls Tryz.prog 53 #[.agg #[.int .u64 (wd X 0),.int .u64 (wd X 1),.int .u64 (wd X 2),.int .u64 (wd X 3)],.int .i64 (n : Int)] w fun e w' => e = .returned (.bool (bit X n)) ∧ Below w.heap.size w w':=by
 have hq : n / 64 < 4:=by omega
 have h0 : ¬ (n : Int) < 0:=by omega
 have h1 : ¬ (256 : Int) ≤ (n : Int):=by omega
 have hR : (w.alloc (.cells #[.int .u64 (wd X 0),.int .u64 (wd X 1),.int .u64 (wd X 2),.int .u64 (wd X 3)] 24)).rowIs w.heap.size 24 4 (fun j => .int .u64 (wd X j)):=zai (n:=4) (by simp) rfl (arr4 fun j => .int .u64 (wd X j))
 have c1:=hR.cell hq
 have l1:=wd_lo X (n / 64)
 have u1:=wd_le X (n / 64)
 clear hR
 go_enter Tryz.func53,Tryz.ntmps53
 go_wp2
 go_ret
 rw [← bit_word]
 exact ⟨rfl,(Below.refl _ _).alloc (Nat.le_refl _) _⟩
theorem zex {a b : Int} (h : a = b) : Ending.returned (.int .i64 a) = .returned (.int .i64 b):=by rw [h]
theorem zer (k i : Nat) (hi : i < 256) (hk : k ≤ 56) : wrap64 ((k : Int) + wrap64 (bitLen i : Int)) = ((k + bitLen i : Nat) : Int):=by
 have:=bitLen_le8 i hi
 rw [IntWalk.wrap64_in (bitLen i : Int) (by omega),IntWalk.wrap64_in _ (by omega)]
 omega
theorem zdx (x b : Nat) (h : 2 ^ b ≤ x) : bitLen x = b + bitLen (x / 2 ^ b) :=
 bitLen_shift x b (by have:=Nat.div_pos h (Nat.two_pow_pos b); omega)
theorem len64_0 (x : Int) (hl : 0 ≤ x) (hu : x ≤ 255) (w : World) : Calls Tryz.prog 99 #[.int .u64 x] w fun e w' => e = .returned (.int .i64 (bitLen x.toNat)) ∧ w' = w:=by
 have h1 : x ≤ 4294967295:=by omega
 have h2 : x ≤ 65535:=by omega
 have h3 : x ≤ 255:=by omega
 have h0 : 0 ≤ x:=by omega
 clear hu hl
 go_enter Tryz.func99,Tryz.ntmps99
 go_wp2
 go_ret
 refine ⟨zex ?_,rfl⟩
 rw [len8tab_get]
 have h:=zer 0 x.toNat (by omega) (by omega)
 simpa using h
theorem len64_8 (x : Int) (hl : 256 ≤ x) (hu : x ≤ 65535) (w : World) : Calls Tryz.prog 99 #[.int .u64 x] w fun e w' => e = .returned (.int .i64 (bitLen x.toNat)) ∧ w' = w:=by
 have h1 : x ≤ 4294967295:=by omega
 have h2 : x ≤ 65535:=by omega
 have h3 : (256 : Int) ≤ x:=by omega
 have h4 : x / 256 ≤ 255:=by omega
 have h0 : 0 ≤ x:=by omega
 clear hu hl
 go_enter Tryz.func99,Tryz.ntmps99
 go_wp2
 go_ret
 refine ⟨zex ?_,rfl⟩
 rw [len8tab_get]
 have e : (x / 256).toNat = x.toNat / 2 ^ 8:=by show _ = x.toNat / 256; omega
 rw [e,zdx x.toNat 8 (by show 256 ≤ x.toNat; omega)]
 exact zer 8 _ (by rw [← e]; omega) (by omega)
theorem len64_16 (x : Int) (hl : 65536 ≤ x) (hu : x ≤ 16777215) (w : World) : Calls Tryz.prog 99 #[.int .u64 x] w fun e w' => e = .returned (.int .i64 (bitLen x.toNat)) ∧ w' = w:=by
 have h1 : x ≤ 4294967295:=by omega
 have h2 : (65536 : Int) ≤ x:=by omega
 have h3 : x / 65536 ≤ 255:=by omega
 have h0 : 0 ≤ x:=by omega
 clear hu hl
 go_enter Tryz.func99,Tryz.ntmps99
 go_wp2
 go_ret
 refine ⟨zex ?_,rfl⟩
 rw [len8tab_get]
 have e : (x / 65536).toNat = x.toNat / 2 ^ 16:=by show _ = x.toNat / 65536; omega
 rw [e,zdx x.toNat 16 (by show 65536 ≤ x.toNat; omega)]
 exact zer 16 _ (by rw [← e]; omega) (by omega)
theorem len64_24 (x : Int) (hl : 16777216 ≤ x) (hu : x ≤ 4294967295) (w : World) : Calls Tryz.prog 99 #[.int .u64 x] w fun e w' => e = .returned (.int .i64 (bitLen x.toNat)) ∧ w' = w:=by
 have h1 : x ≤ 4294967295:=by omega
 have h2 : (65536 : Int) ≤ x:=by omega
 have h3 : (256 : Int) ≤ x / 65536:=by omega
 have h4 : x / 65536 / 256 ≤ 255:=by omega
 have h0 : 0 ≤ x:=by omega
 clear hu hl
 go_enter Tryz.func99,Tryz.ntmps99
 go_wp2
 go_ret
 refine ⟨zex ?_,rfl⟩
 rw [len8tab_get]
 have e : (x / 65536 / 256).toNat = x.toNat / 2 ^ 24:=by show _ = x.toNat / 16777216; omega
 rw [e,zdx x.toNat 24 (by show 16777216 ≤ x.toNat; omega)]
 exact zer 24 _ (by rw [← e]; omega) (by omega)
theorem len64_32 (x : Int) (hl : 4294967296 ≤ x) (hu : x ≤ 1099511627775) (w : World) : Calls Tryz.prog 99 #[.int .u64 x] w fun e w' => e = .returned (.int .i64 (bitLen x.toNat)) ∧ w' = w:=by
 have h1 : (4294967296 : Int) ≤ x:=by omega
 have h2 : x / 4294967296 ≤ 65535:=by omega
 have h3 : x / 4294967296 ≤ 255:=by omega
 have h0 : 0 ≤ x:=by omega
 clear hu hl
 go_enter Tryz.func99,Tryz.ntmps99
 go_wp2
 go_ret
 refine ⟨zex ?_,rfl⟩
 rw [len8tab_get]
 have e : (x / 4294967296).toNat = x.toNat / 2 ^ 32:=by show _ = x.toNat / 4294967296; omega
 rw [e,zdx x.toNat 32 (by show 4294967296 ≤ x.toNat; omega)]
 exact zer 32 _ (by rw [← e]; omega) (by omega)
theorem len64_40 (x : Int) (hl : 1099511627776 ≤ x) (hu : x ≤ 281474976710655) (w : World) : Calls Tryz.prog 99 #[.int .u64 x] w fun e w' => e = .returned (.int .i64 (bitLen x.toNat)) ∧ w' = w:=by
 have h1 : (4294967296 : Int) ≤ x:=by omega
 have h2 : x / 4294967296 ≤ 65535:=by omega
 have h3 : (256 : Int) ≤ x / 4294967296:=by omega
 have h4 : x / 4294967296 / 256 ≤ 255:=by omega
 have h0 : 0 ≤ x:=by omega
 clear hu hl
 go_enter Tryz.func99,Tryz.ntmps99
 go_wp2
 go_ret
 refine ⟨zex ?_,rfl⟩
 rw [len8tab_get]
 have e : (x / 4294967296 / 256).toNat = x.toNat / 2 ^ 40:=by show _ = x.toNat / 1099511627776; omega
 rw [e,zdx x.toNat 40 (by show 1099511627776 ≤ x.toNat; omega)]
 exact zer 40 _ (by rw [← e]; omega) (by omega)
theorem len64_48 (x : Int) (hl : 281474976710656 ≤ x) (hu : x ≤ 72057594037927935) (w : World) : Calls Tryz.prog 99 #[.int .u64 x] w fun e w' => e = .returned (.int .i64 (bitLen x.toNat)) ∧ w' = w:=by
 have h1 : (4294967296 : Int) ≤ x:=by omega
 have h2 : (65536 : Int) ≤ x / 4294967296:=by omega
 have h3 : x / 4294967296 / 65536 ≤ 255:=by omega
 have h0 : 0 ≤ x:=by omega
 clear hu hl
 go_enter Tryz.func99,Tryz.ntmps99
 go_wp2
 go_ret
 refine ⟨zex ?_,rfl⟩
 rw [len8tab_get]
 have e : (x / 4294967296 / 65536).toNat = x.toNat / 2 ^ 48:=by show _ = x.toNat / 281474976710656; omega
 rw [e,zdx x.toNat 48 (by show 281474976710656 ≤ x.toNat; omega)]
 exact zer 48 _ (by rw [← e]; omega) (by omega)
theorem len64_56 (x : Int) (hl : 72057594037927936 ≤ x) (hu : x ≤ 18446744073709551615) (w : World) : Calls Tryz.prog 99 #[.int .u64 x] w fun e w' => e = .returned (.int .i64 (bitLen x.toNat)) ∧ w' = w:=by
 have h1 : (4294967296 : Int) ≤ x:=by omega
 have h2 : (65536 : Int) ≤ x / 4294967296:=by omega
 have h3 : (256 : Int) ≤ x / 4294967296 / 65536:=by omega
 have h4 : x / 4294967296 / 65536 / 256 ≤ 255:=by omega
 have h0 : 0 ≤ x:=by omega
 clear hu hl
 go_enter Tryz.func99,Tryz.ntmps99
 go_wp2
 go_ret
 refine ⟨zex ?_,rfl⟩
 rw [len8tab_get]
 have e : (x / 4294967296 / 65536 / 256).toNat = x.toNat / 2 ^ 56:=by show _ = x.toNat / 72057594037927936; omega
 rw [e,zdx x.toNat 56 (by show 72057594037927936 ≤ x.toNat; omega)]
 exact zer 56 _ (by rw [← e]; omega) (by omega)
theorem len64_calls (x : Int) (h0 : 0 ≤ x) (h1 : x ≤ 18446744073709551615) (w : World) : Calls Tryz.prog 99 #[.int .u64 x] w fun e w' => e = .returned (.int .i64 (bitLen x.toNat)) ∧ w' = w:=by
 by_cases a : x ≤ 4294967295
 ·
  by_cases b : x ≤ 65535
  ·
   by_cases c : x ≤ 255
   ·
    exact len64_0 x (by omega) (by omega) w
   ·
    exact len64_8 x (by omega) (by omega) w
  ·
   by_cases c : x ≤ 16777215
   ·
    exact len64_16 x (by omega) (by omega) w
   ·
    exact len64_24 x (by omega) (by omega) w
 ·
  by_cases b : x ≤ 281474976710655
  ·
   by_cases c : x ≤ 1099511627775
   ·
    exact len64_32 x (by omega) (by omega) w
   ·
    exact len64_40 x (by omega) (by omega) w
  ·
   by_cases c : x ≤ 72057594037927935
   ·
    exact len64_48 x (by omega) (by omega) w
   ·
    exact len64_56 x (by omega) (by omega) w
theorem high_zero {X m : Nat} (hX : X < top) (h : ∀ j,m ≤ j → j < 4 → dg w64 X j = 0) : X < w64 ^ m:=by
 have hp : 0 < w64 ^ m:=Nat.pow_pos zbd
 have e : X % w64 ^ 4 = X % w64 ^ m % w64 ^ 4:=zit zbd 4 fun i hi => by
  by_cases hlt : i < m
  ·
   rw [zdj X m i hlt]
  ·
   rw [h i (by omega) hi]
   unfold dg
   rw [Nat.div_eq_of_lt (Nat.lt_of_lt_of_le (Nat.mod_lt _ hp) (Nat.pow_le_pow_right zbd (by omega)))]
   rfl
 rw [Nat.mod_eq_of_lt (show X < w64 ^ 4 from hX)] at e
 have h1:=Nat.mod_le (X % w64 ^ m) (w64 ^ 4)
 have h2:=Nat.mod_lt X hp
 omega
theorem len_word {X m : Nat} (hX : X < top) (h : ∀ j,m + 1 ≤ j → j < 4 → dg w64 X j = 0) (hne : dg w64 X m ≠ 0) : bitLen X = 64 * m + bitLen (dg w64 X m):=by
 have hlt:=high_zero hX h
 have hd : X / w64 ^ m = dg w64 X m:=by
  rw [dg,Nat.mod_eq_of_lt]
  rw [Nat.div_lt_iff_lt_mul (Nat.pow_pos zbd),Nat.mul_comm,← Nat.pow_succ]
  exact hlt
 have e : 2 ^ (64 * m) = w64 ^ m:=by rw [w64_two,← Nat.pow_mul]
 rw [← hd] at hne ⊢
 have h1:=bitLen_shift X (64 * m) (by rw [e]; exact hne)
 rw [e] at h1
 exact h1
theorem wd_toNat (X i : Nat) : (wd X i).toNat = dg w64 X i:=by unfold wd; omega
theorem bitLen_le64 (X i : Nat) : bitLen (dg w64 X i) ≤ 64:=by
 unfold bitLen
 split
 ·
  omega
 ·
  rename_i h
  have:=(Nat.log2_lt h).2 (show dg w64 X i < 2 ^ 64 from dg_lt zbd X i)
  omega
theorem len_calls (X : Nat) (hX : X < top) (w : World) :
  Calls Tryz.prog 51 #[.agg #[.int .u64 (wd X 0),.int .u64 (wd X 1),.int .u64 (wd X 2),.int .u64 (wd X 3)]] w fun e w' => e = .returned (.int .i64 (bitLen X)) ∧ Below w.heap.size w w':=by
 go_enter Tryz.func51,Tryz.ntmps51
 go_wp2
 go_loopw [3] (fun i wr => ∃ k : Nat,k ≤ 4 ∧ i = .int .i64 ((k : Int) - 1) ∧ (∀ j,k ≤ j → j < 4 → dg w64 X j = 0) ∧ wr.rowIs w.heap.size 24 4 (fun j => .int .u64 (wd X j)) ∧ Below w.heap.size w wr)
  (fun i _ => (intOf i + 1).toNat)
 case atStart => exact ⟨4,by omega,rfl,by intro j h1 h2; omega,zai (n:=4) (by simp) rfl (arr4 fun j => .int .u64 (wd X j)),(Below.refl _ _).alloc (by simp) _⟩
 case round =>
  obtain ⟨k,hk,hi,hall,hR,hbel⟩:=hrel
  have HALL:=veil hall
  clear hall
  cases k with
  | zero =>
   subst hi
   have h1:=high_zero hX HALL.out
   have hX0 : X = 0:=by simpa using h1
   have HX:=veil hX0
   clear hX0 h1
   go_wp2
   go_ret
   rw [show bitLen X = 0 by rw [HX.out]; rfl]
   exact ⟨rfl,hbel⟩
  | succ m =>
   obtain rfl : _ = Value.int .i64 (m : Int):=hi.trans (by congr 1; omega)
   have hm : m < 4:=by omega
   clear hi
   have c1:=hR.cell hm
   have l1:=wd_lo X m
   have u1:=wd_le X m
   by_cases h : dg w64 X m = 0
   ·
    have hz : (wd X m != 0) = false:=by unfold wd; rw [h]; rfl
    go_wp2
    go_roundw
    case rel => exact ⟨m,by omega,rfl,fun j h1 h2 => by
     by_cases e : j = m
     ·
      rw [e]; exact h
     ·
      exact HALL.out j (by omega) h2,hR,hbel⟩
    case measure => simp [intOf]
   ·
    have hz : (wd X m != 0) = true:=by rw [bne_iff_ne]; unfold wd; omega
    have hw:=len_word hX HALL.out h
    have hb:=bitLen_le64 X m
    have ht:=wd_toNat X m
    have HW:=veil hw
    have HT:=veil ht
    clear hw h ht
    go_wp2_with (go_at_call 99; refine (len64_calls _ l1 u1 _).mono ?_; rintro e w' ⟨rfl,rfl⟩)
    rw [HT.out]
    go_wp2
    go_ret
    rw [HW.out]
    exact ⟨zex (by rw [IntWalk.wrap64_in _ (by omega)]; omega),hbel⟩
theorem top_two : top = 2 ^ 256:=by unfold top; rw [w64_two,← Nat.pow_mul]
theorem rbit_in (X n : Nat) (hn : n < 256) (w : World) :
  Calls Tryz.prog 66 #[.agg #[.int .u64 (wd X 0),.int .u64 (wd X 1),.int .u64 (wd X 2),.int .u64 (wd X 3)],.int .i64 (n : Int)] w fun e w' => e = .returned (.bool (bit X n)) ∧ Below w.heap.size w w':=by
 have hq : n / 16 < 16:=by omega
 have h0 : ¬ (n : Int) < 0:=by omega
 have h1 : ¬ (255 : Int) < (n : Int):=by omega
 have hB0 : Below w.heap.size w (w.alloc (.cells #[.int .u64 (wd X 0),.int .u64 (wd X 1),.int .u64 (wd X 2),.int .u64 (wd X 3)] 24)):=(Below.refl _ _).alloc (Nat.le_refl _) _
 go_enter Tryz.func66,Tryz.ntmps66
 go_wp2_with fail
 refine (zgw X _).mono ?_
 rintro e w1 ⟨g1,cap1,rfl,hg1,hp1,hb1⟩
 have hB1:=hB0.trans (hb1.mono (by simp))
 have c1:=hp1.cell hq
 simp only [ptv] at c1
 clear hB0 hb1 hg1 hp1
 go_wp2
 go_loop [5,6] (fun p i => ∃ k : Nat,k ≤ n % 16 ∧ i = .int .i64 k ∧ p = .int .i64 (ph X (n / 16) k)) (fun _ i => n % 16 - (intOf i).toNat)
 case atStart => exact ⟨0,Nat.zero_le _,rfl,by rw [ph_zero]⟩
 case round =>
  obtain ⟨k,hk,rfl,rfl⟩:=hrel
  by_cases hlt : k < n % 16
  ·
   have l1:=ph_lo X (n / 16) k
   have u1 : ph X (n / 16) k ≤ 65535:=by have:=ph_lt X (n / 16) k; omega
   go_wp2
   go_round
   case rel => exact ⟨k + 1,by omega,by go_num,by rw [ph_succ]⟩
   case measure => simp [intOf]; omega
  ·
   have hk' : k = n % 16:=by omega
   have HK:=veil hk'
   clear hk'
   go_wp2
   have l1:=ph_lo X (n / 16) k
   go_ret
   rw [← ph_bit,← HK.out]
   exact ⟨rfl,hB1⟩
theorem bitLen_one {i v : Nat} (h1 : 2 ^ i ≤ v) (h2 : v < 2 ^ (i + 1)) : bitLen v = i + 1:=by
 rw [zdx v i h1]
 have : v / 2 ^ i = 1:=by
  have hp:=Nat.two_pow_pos i
  apply Nat.le_antisymm
  ·
   have:=(Nat.div_lt_iff_lt_mul hp (x:=v) (y:=2)).2 (by rw [Nat.pow_succ] at h2; omega)
   omega
  ·
   exact (Nat.le_div_iff_mul_le hp).2 (by omega)
 rw [this]
 rfl
theorem bitLen_succ (X i : Nat) : bitLen (X % 2 ^ (i + 1)) = if bit X i = true then i + 1 else bitLen (X % 2 ^ i):=by
 have h:=zcy 2 X i
 have hb : bit X i = (dg 2 X i == 1):=rfl
 have hd:=dg_lt (B:=2) (by omega) X i
 have hm:=Nat.mod_lt X (Nat.two_pow_pos i)
 rw [hb,h]
 by_cases e : dg 2 X i = 1
 ·
  rw [e]
  simp only [BEq.rfl,if_true,Nat.mul_one]
  exact bitLen_one (by omega) (by rw [Nat.pow_succ]; omega)
 ·
  have e0 : dg 2 X i = 0:=by omega
  rw [e0]
  simp
def lenK (X i : Nat) : Int:=(bitLen (X % 2 ^ i) : Nat)
theorem lenK_zero (X : Nat) : lenK X 0 = 0:=by simp [lenK,Nat.mod_one,bitLen]
theorem lenK_yes {X i : Nat} (h : bit X i = true) : lenK X (i + 1) = (i : Int) + 1:=by unfold lenK; rw [bitLen_succ,if_pos h]; omega
theorem lenK_no {X i : Nat} (h : bit X i = false) : lenK X (i + 1) = lenK X i:=by unfold lenK; rw [bitLen_succ,h]; rfl
theorem lenK_top {X : Nat} (hX : X < top) : lenK X 256 = (bitLen X : Nat):=by
 rw [top_two] at hX
 unfold lenK
 rw [Nat.mod_eq_of_lt hX]
theorem rlen_calls (X : Nat) (hX : X < top) (w : World) :
  Calls Tryz.prog 65 #[.agg #[.int .u64 (wd X 0),.int .u64 (wd X 1),.int .u64 (wd X 2),.int .u64 (wd X 3)]] w fun e w' => e = .returned (.int .i64 (bitLen X)) ∧ Below w.heap.size w w':=by
 go_enter Tryz.func65,Tryz.ntmps65
 go_wp2
 go_loopw [3,4] (fun n i wr => ∃ k : Nat,k ≤ 256 ∧ i = .int .i64 k ∧ n = .int .i64 (lenK X k) ∧ wr.rowIs w.heap.size 24 4 (fun j => .int .u64 (wd X j)) ∧ Below w.heap.size w wr)
  (fun _ i _ => 256 - (intOf i).toNat)
 case atStart => exact ⟨0,by omega,rfl,by rw [lenK_zero],zai (n:=4) (by simp) rfl (arr4 fun j => .int .u64 (wd X j)),(Below.refl _ _).alloc (by simp) _⟩
 case round =>
  obtain ⟨k,hk,rfl,rfl,hR,hbel⟩:=hrel
  by_cases hlt : k < 256
  ·
   obtain ⟨c0,c1,c2,c3⟩:=zag hR
   have hle : (k : Int) ≤ 255:=by omega
   have HLT:=veil hlt
   clear hlt hk
   go_wp2_with fail
   refine (rbit_in X k HLT.out _).mono ?_
   rintro e w1 ⟨rfl,hb1⟩
   have hR1:=zad hR hb1 hR.lt
   have hB1:=hbel.trans (hb1.mono hbel.size)
   clear hR hbel hb1 c0 c1 c2 c3
   cases hb : bit X k with
   | true =>
    go_wp2
    go_roundw
    case rel => exact ⟨k + 1,HLT.out,by go_num,by rw [lenK_yes hb],hR1,hB1⟩
    case measure => simp [intOf]; omega
   | false =>
    go_wp2
    go_roundw
    case rel => exact ⟨k + 1,HLT.out,by go_num,by rw [lenK_no hb],hR1,hB1⟩
    case measure => simp [intOf]; omega
  ·
   obtain rfl : k = 256:=by omega
   go_wp2
   go_ret
   rw [← lenK_top hX]
   exact ⟨rfl,hbel⟩
theorem rbase_calls (w : World) : Calls Tryz.prog 25 #[] w fun e w' => e = .returned (.agg #[.int .u64 (wd (Pt.gx) 0),.int .u64 (wd (Pt.gx) 1),.int .u64 (wd (Pt.gx) 2),.int .u64 (wd (Pt.gx) 3),.int .u64 (wd (Pt.gy) 0),.int .u64 (wd (Pt.gy) 1),.int .u64 (wd (Pt.gy) 2),.int .u64 (wd (Pt.gy) 3),.bool (false)]) ∧ Below w.heap.size w w':=by
 obtain ⟨l0,l1,l2,l3⟩:=gx_lits
 obtain ⟨m0,m1,m2,m3⟩:=gy_lits
 rw [l0,l1,l2,l3,m0,m1,m2,m3]
 clear l0 l1 l2 l3 m0 m1 m2 m3
 have hR : (((w.alloc (.cells #[.int .u64 0,.int .u64 0,.int .u64 0,.int .u64 0,.int .u64 0,.int .u64 0,.int .u64 0,.int .u64 0,.bool false] 29)).alloc (.cells #[.int .u64 17627433388654248598,.int .u64 8575836109218198432,.int .u64 17923454489921339634,.int .u64 7716867327612699207] 24)).alloc (.cells #[.int .u64 14678990851816772085,.int .u64 3156516839386865358,.int .u64 10297457778147434006,.int .u64 5756518291402817435] 24)).rowIs w.heap.size 29 9 (pc 0 0 false):=((zeq rfl).alloc _).alloc _
 have hB : Below w.heap.size w (((w.alloc (.cells #[.int .u64 0,.int .u64 0,.int .u64 0,.int .u64 0,.int .u64 0,.int .u64 0,.int .u64 0,.int .u64 0,.bool false] 29)).alloc (.cells #[.int .u64 17627433388654248598,.int .u64 8575836109218198432,.int .u64 17923454489921339634,.int .u64 7716867327612699207] 24)).alloc (.cells #[.int .u64 14678990851816772085,.int .u64 3156516839386865358,.int .u64 10297457778147434006,.int .u64 5756518291402817435] 24)):=(((Below.refl _ _).alloc (by simp) _).alloc (by simp) _).alloc (by simp; omega) _
 have HR:=veil (blkOf hR)
 clear hR
 go_enter Tryz.func25,Tryz.ntmps25
 go_wp2_with ((with_reducible refine zbw ?_); refine wpList_store_row rfl 29 _ _ rfl w.heap.size #[.int .u64 17627433388654248598,.int .u64 8575836109218198432,.int .u64 17923454489921339634,.int .u64 7716867327612699207,.int .u64 14678990851816772085,.int .u64 3156516839386865358,.int .u64 10297457778147434006,.int .u64 5756518291402817435,.bool false] rfl rfl 29 _ HR.out zbi (by rw [zay]; rfl) (by simp [Value.oneCell']) ?_)
 exact bodyPost_ret (results_cell_row rfl _ _ w.heap.size 29 #[.int .u64 17627433388654248598,.int .u64 8575836109218198432,.int .u64 17923454489921339634,.int .u64 7716867327612699207,.int .u64 14678990851816772085,.int .u64 3156516839386865358,.int .u64 10297457778147434006,.int .u64 5756518291402817435,.bool false] (0,0) _ rfl (setRow_heap _ w.heap.size _ #[.int .u64 17627433388654248598,.int .u64 8575836109218198432,.int .u64 17923454489921339634,.int .u64 7716867327612699207,.int .u64 14678990851816772085,.int .u64 3156516839386865358,.int .u64 10297457778147434006,.int .u64 5756518291402817435,.bool false] 29 (0,0) HR.out) Tryz.underlying29 rfl zbi) rfl ⟨rfl,zbr hB (Nat.le_refl _) _⟩
theorem gin_small (X M : Nat) (hX : X < M) (hM : M < top) (w : World) :
  Calls Tryz.prog 26 #[.agg #[.int .u64 (wd X 0),.int .u64 (wd X 1),.int .u64 (wd X 2),.int .u64 (wd X 3)],.agg #[.int .u64 (wd M 0),.int .u64 (wd M 1),.int .u64 (wd M 2),.int .u64 (wd M 3)]] w fun e w' => e = .returned (.agg #[.int .u64 (wd X 0),.int .u64 (wd X 1),.int .u64 (wd X 2),.int .u64 (wd X 3)]) ∧ Below w.heap.size w w':=by
 have HL:=veil (show decide (X < M) = true by simpa using hX)
 have hXt : X < top:=by omega
 have hX0 : (((w.alloc (.cells #[.int .u64 (wd X 0),.int .u64 (wd X 1),.int .u64 (wd X 2),.int .u64 (wd X 3)] 24)).alloc (.cells #[.int .u64 (wd M 0),.int .u64 (wd M 1),.int .u64 (wd M 2),.int .u64 (wd M 3)] 24)).alloc (.cells #[.int .u64 0,.int .u64 0,.int .u64 0,.int .u64 0] 24)).rowIs w.heap.size 24 4 (fun j => .int .u64 (wd X j)):=((zai (n:=4) (by simp) rfl (arr4 fun j => .int .u64 (wd X j))).alloc _).alloc _
 have hM0 : (((w.alloc (.cells #[.int .u64 (wd X 0),.int .u64 (wd X 1),.int .u64 (wd X 2),.int .u64 (wd X 3)] 24)).alloc (.cells #[.int .u64 (wd M 0),.int .u64 (wd M 1),.int .u64 (wd M 2),.int .u64 (wd M 3)] 24)).alloc (.cells #[.int .u64 0,.int .u64 0,.int .u64 0,.int .u64 0] 24)).rowIs (w.heap.size + 1) 24 4 (fun j => .int .u64 (wd M j)):=(zai (n:=4) (by simp) rfl (arr4 fun j => .int .u64 (wd M j))).alloc _
 have hR0 : (((w.alloc (.cells #[.int .u64 (wd X 0),.int .u64 (wd X 1),.int .u64 (wd X 2),.int .u64 (wd X 3)] 24)).alloc (.cells #[.int .u64 (wd M 0),.int .u64 (wd M 1),.int .u64 (wd M 2),.int .u64 (wd M 3)] 24)).alloc (.cells #[.int .u64 0,.int .u64 0,.int .u64 0,.int .u64 0] 24)).rowIs (w.heap.size + 1 + 1) 24 4 (fun _ => .int .u64 0):=zai (n:=4) (by simp) rfl (arr4 fun _ => .int .u64 0)
 have hb0 : Below w.heap.size w (((w.alloc (.cells #[.int .u64 (wd X 0),.int .u64 (wd X 1),.int .u64 (wd X 2),.int .u64 (wd X 3)] 24)).alloc (.cells #[.int .u64 (wd M 0),.int .u64 (wd M 1),.int .u64 (wd M 2),.int .u64 (wd M 3)] 24)).alloc (.cells #[.int .u64 0,.int .u64 0,.int .u64 0,.int .u64 0] 24)):=(((Below.refl _ _).alloc (by simp) _).alloc (by simp) _).alloc (by simp; omega) _
 go_enter Tryz.func26,Tryz.ntmps26
 obtain ⟨a0,a1,a2,a3⟩:=zag hX0
 obtain ⟨c0,c1,c2,c3⟩:=zag hM0
 go_wp2_with fail
 refine (zft X M true HL.out hXt hM _).mono ?_
 rintro e w1 ⟨rfl,hb1⟩
 clear a0 a1 a2 a3 c0 c1 c2 c3
 replace hX0:=zad hX0 hb1 hX0.lt
 replace hR0:=zad hR0 hb1 hR0.lt
 replace hb0:=hb0.trans (hb1.mono hb0.size)
 clear hb1 hM0
 obtain ⟨a0,a1,a2,a3⟩:=zag hX0
 obtain ⟨d0,d1,d2,d3⟩:=zag hR0
 obtain ⟨f0,f1,f2,f3⟩:=zaq hR0
 go_wp2
 refine bodyPost_ret (results_cell_row rfl _ _ (w.heap.size + 1 + 1) 24 #[.int .u64 (wd X 0),.int .u64 (wd X 1),.int .u64 (wd X 2),.int .u64 (wd X 3)] (0,0) _ rfl (blk4 (put4 hR0 fun j => .int .u64 (wd X j))) Tryz.underlying24 rfl (by kernel_rfl)) rfl ⟨rfl,zas hb0 (by omega) _ _ _ _⟩
def top2 : Nat:=w64 ^ 8
theorem acc_startw (X Y M n : Nat) (h : Y < w64 ^ n) : acc X Y M (64 * n) = 0:=by
 have e : (2 : Nat) ^ 64 = w64:=rfl
 unfold acc; rw [Nat.pow_mul,e,Nat.div_eq_of_lt h]; simp
theorem gin_of (X M : Nat) (a b c d : Int) (ha : wd X 0 = a) (hb : wd X 1 = b) (hc : wd X 2 = c) (hd : wd X 3 = d) (hX : X < M) (hM : M < top) (w : World) :
  Calls Tryz.prog 26 #[.agg #[.int .u64 a,.int .u64 b,.int .u64 c,.int .u64 d],.agg #[.int .u64 (wd M 0),.int .u64 (wd M 1),.int .u64 (wd M 2),.int .u64 (wd M 3)]] w fun e w' => e = .returned (.agg #[.int .u64 (wd X 0),.int .u64 (wd X 1),.int .u64 (wd X 2),.int .u64 (wd X 3)]) ∧ Below w.heap.size w w':=by
 subst ha hb hc hd; exact gin_small X M hX hM w
theorem gcut_calls (Z M : Nat) (hZ : Z < top2) (hM1 : 1 < M) (hM : M < top) (w : World) :
  Calls Tryz.prog 68 #[.agg #[.int .u64 (wd Z 0),.int .u64 (wd Z 1),.int .u64 (wd Z 2),.int .u64 (wd Z 3),.int .u64 (wd Z 4),.int .u64 (wd Z 5),.int .u64 (wd Z 6),.int .u64 (wd Z 7)],.agg #[.int .u64 (wd M 0),.int .u64 (wd M 1),.int .u64 (wd M 2),.int .u64 (wd M 3)]] w fun e w' => e = .returned (.agg #[.int .u64 (wd (Z % M) 0),.int .u64 (wd (Z % M) 1),.int .u64 (wd (Z % M) 2),.int .u64 (wd (Z % M) 3)]) ∧ Below w.heap.size w w':=by
 have hM0 : 0 < M:=by omega
 obtain ⟨U,hU⟩ : ∃ U,U = 1:=⟨_,rfl⟩
 have HZ:=veil (acc_startw U Z M 8 hZ)
 clear hZ
 have hUM : U < M:=by omega
 have h1:=fun W => gin_of U M 1 0 0 0 (by rw [hU]; decide) (by rw [hU]; decide) (by rw [hU]; decide) (by rw [hU]; decide) hUM hM W
 have H1:=veil h1
 clear h1
 obtain ⟨P,hP⟩ : ∃ P,P = Z % M:=⟨_,rfl⟩
 rw [← hP]
 have HP:=veil (show P = U * Z % M by rw [hU,Nat.one_mul,hP])
 clear hP hU
 have hB0 : ((((w.alloc (.cells #[.int .u64 (wd Z 0),.int .u64 (wd Z 1),.int .u64 (wd Z 2),.int .u64 (wd Z 3),.int .u64 (wd Z 4),.int .u64 (wd Z 5),.int .u64 (wd Z 6),.int .u64 (wd Z 7)] 103)).alloc (.cells #[.int .u64 (wd M 0),.int .u64 (wd M 1),.int .u64 (wd M 2),.int .u64 (wd M 3)] 24)).alloc (.cells #[.int .u64 0,.int .u64 0,.int .u64 0,.int .u64 0] 24)).alloc (.cells #[.int .u64 0,.int .u64 0,.int .u64 0,.int .u64 0] 24)).rowIs w.heap.size 103 8 (fun j => .int .u64 (wd Z j)):=(((zai (n:=8) (by simp) rfl (arr8 fun j => .int .u64 (wd Z j))).alloc _).alloc _).alloc _
 have hC0 : ((((w.alloc (.cells #[.int .u64 (wd Z 0),.int .u64 (wd Z 1),.int .u64 (wd Z 2),.int .u64 (wd Z 3),.int .u64 (wd Z 4),.int .u64 (wd Z 5),.int .u64 (wd Z 6),.int .u64 (wd Z 7)] 103)).alloc (.cells #[.int .u64 (wd M 0),.int .u64 (wd M 1),.int .u64 (wd M 2),.int .u64 (wd M 3)] 24)).alloc (.cells #[.int .u64 0,.int .u64 0,.int .u64 0,.int .u64 0] 24)).alloc (.cells #[.int .u64 0,.int .u64 0,.int .u64 0,.int .u64 0] 24)).rowIs (w.heap.size + 1) 24 4 (fun j => .int .u64 (wd M j)):=((zai (n:=4) (by simp) rfl (arr4 fun j => .int .u64 (wd M j))).alloc _).alloc _
 have hR0 : ((((w.alloc (.cells #[.int .u64 (wd Z 0),.int .u64 (wd Z 1),.int .u64 (wd Z 2),.int .u64 (wd Z 3),.int .u64 (wd Z 4),.int .u64 (wd Z 5),.int .u64 (wd Z 6),.int .u64 (wd Z 7)] 103)).alloc (.cells #[.int .u64 (wd M 0),.int .u64 (wd M 1),.int .u64 (wd M 2),.int .u64 (wd M 3)] 24)).alloc (.cells #[.int .u64 0,.int .u64 0,.int .u64 0,.int .u64 0] 24)).alloc (.cells #[.int .u64 0,.int .u64 0,.int .u64 0,.int .u64 0] 24)).rowIs (w.heap.size + 1 + 1) 24 4 (fun _ => .int .u64 0):=(zai (n:=4) (by simp) rfl (arr4 fun _ => .int .u64 0)).alloc _
 have hO0 : ((((w.alloc (.cells #[.int .u64 (wd Z 0),.int .u64 (wd Z 1),.int .u64 (wd Z 2),.int .u64 (wd Z 3),.int .u64 (wd Z 4),.int .u64 (wd Z 5),.int .u64 (wd Z 6),.int .u64 (wd Z 7)] 103)).alloc (.cells #[.int .u64 (wd M 0),.int .u64 (wd M 1),.int .u64 (wd M 2),.int .u64 (wd M 3)] 24)).alloc (.cells #[.int .u64 0,.int .u64 0,.int .u64 0,.int .u64 0] 24)).alloc (.cells #[.int .u64 0,.int .u64 0,.int .u64 0,.int .u64 0] 24)).rowIs (w.heap.size + 1 + 1 + 1) 24 4 (fun _ => .int .u64 0):=zai (n:=4) (by simp) rfl (arr4 fun _ => .int .u64 0)
 have hb0 : Below w.heap.size w ((((w.alloc (.cells #[.int .u64 (wd Z 0),.int .u64 (wd Z 1),.int .u64 (wd Z 2),.int .u64 (wd Z 3),.int .u64 (wd Z 4),.int .u64 (wd Z 5),.int .u64 (wd Z 6),.int .u64 (wd Z 7)] 103)).alloc (.cells #[.int .u64 (wd M 0),.int .u64 (wd M 1),.int .u64 (wd M 2),.int .u64 (wd M 3)] 24)).alloc (.cells #[.int .u64 0,.int .u64 0,.int .u64 0,.int .u64 0] 24)).alloc (.cells #[.int .u64 0,.int .u64 0,.int .u64 0,.int .u64 0] 24)):=((((Below.refl _ _).alloc (by simp) _).alloc (by simp) _).alloc (by simp; omega) _).alloc (by simp; omega) _
 have hz0 : w.heap.size + 1 + 1 + 1 < ((((w.alloc (.cells #[.int .u64 (wd Z 0),.int .u64 (wd Z 1),.int .u64 (wd Z 2),.int .u64 (wd Z 3),.int .u64 (wd Z 4),.int .u64 (wd Z 5),.int .u64 (wd Z 6),.int .u64 (wd Z 7)] 103)).alloc (.cells #[.int .u64 (wd M 0),.int .u64 (wd M 1),.int .u64 (wd M 2),.int .u64 (wd M 3)] 24)).alloc (.cells #[.int .u64 0,.int .u64 0,.int .u64 0,.int .u64 0] 24)).alloc (.cells #[.int .u64 0,.int .u64 0,.int .u64 0,.int .u64 0] 24)).heap.size:=by simp
 obtain ⟨c0,c1,c2,c3⟩:=zag hC0
 go_enter Tryz.func68,Tryz.ntmps68
 go_wp2_with fail
 refine (H1.out _).mono ?_
 rintro e w1 ⟨rfl,hb1⟩
 clear c0 c1 c2 c3
 replace hB0:=(zad hB0 hb1 hB0.lt).alloc (.cells #[.int .u64 (wd U 0),.int .u64 (wd U 1),.int .u64 (wd U 2),.int .u64 (wd U 3)] 24)
 replace hC0:=(zad hC0 hb1 hC0.lt).alloc (.cells #[.int .u64 (wd U 0),.int .u64 (wd U 1),.int .u64 (wd U 2),.int .u64 (wd U 3)] 24)
 replace hR0:=(zad hR0 hb1 hR0.lt).alloc (.cells #[.int .u64 (wd U 0),.int .u64 (wd U 1),.int .u64 (wd U 2),.int .u64 (wd U 3)] 24)
 replace hO0:=(zad hO0 hb1 hO0.lt).alloc (.cells #[.int .u64 (wd U 0),.int .u64 (wd U 1),.int .u64 (wd U 2),.int .u64 (wd U 3)] 24)
 replace hz0 : w.heap.size + 1 + 1 + 1 < w1.heap.size:=Nat.lt_of_lt_of_le hz0 hb1.size
 replace hb0:=(hb0.trans (hb1.mono hb0.size)).alloc (by omega) (.cells #[.int .u64 (wd U 0),.int .u64 (wd U 1),.int .u64 (wd U 2),.int .u64 (wd U 3)] 24)
 have hA0 : (w1.alloc (.cells #[.int .u64 (wd U 0),.int .u64 (wd U 1),.int .u64 (wd U 2),.int .u64 (wd U 3)] 24)).rowIs w1.heap.size 24 4 (fun j => .int .u64 (wd U j)):=zai (n:=4) rfl rfl (arr4 fun j => .int .u64 (wd U j))
 clear hb1
 go_wp2_with fail
 generalize w1.heap.size = g at *
 generalize w1.alloc (.cells #[.int .u64 (wd U 0),.int .u64 (wd U 1),.int .u64 (wd U 2),.int .u64 (wd U 3)] 24) = w0 at *
 go_loopw [7] (fun i wr => ∃ k : Nat,k ≤ 8 ∧ i = .int .i64 ((k : Int) - 1) ∧ wr.rowIs g 24 4 (fun j => .int .u64 (wd U j)) ∧ wr.rowIs w.heap.size 103 8 (fun j => .int .u64 (wd Z j)) ∧ wr.rowIs (w.heap.size + 1) 24 4 (fun j => .int .u64 (wd M j)) ∧ wr.rowIs (w.heap.size + 1 + 1) 24 4 (fun _ => .int .u64 0) ∧ wr.rowIs (w.heap.size + 1 + 1 + 1) 24 4 (fun j => .int .u64 (wd (acc U Z M (64 * k)) j)) ∧ Below w.heap.size w wr)
  (fun i _ => (intOf i + 1).toNat)
 case atStart => exact ⟨8,by omega,rfl,hA0,hB0,hC0,hR0,hO0.congr (fun j hj => by rw [HZ.out]; unfold wd dg; simp),hb0⟩
 case round =>
  obtain ⟨k,hk,hi,hA,hB,hC,hR,hO,hbel⟩:=hrel
  clear hA0 hB0 hC0 hR0 hO0 hb0
  cases k with
  | zero =>
   subst hi
   have hO:=hO.congr (g:=fun j => .int .u64 (wd P j)) (fun j _ => by rw [Nat.mul_zero,acc_end,← HP.out])
   obtain ⟨o0,o1,o2,o3⟩:=zag hO
   obtain ⟨d0,d1,d2,d3⟩:=zag hR
   obtain ⟨f0,f1,f2,f3⟩:=zaq hR
   go_wp2
   refine bodyPost_ret (results_cell_row rfl _ _ (w.heap.size + 1 + 1) 24 #[.int .u64 (wd P 0),.int .u64 (wd P 1),.int .u64 (wd P 2),.int .u64 (wd P 3)] (0,0) _ rfl (blk4 (put4 hR fun j => .int .u64 (wd P j))) Tryz.underlying24 rfl (by kernel_rfl)) rfl ⟨rfl,zas hbel (by omega) _ _ _ _⟩
  | succ k =>
   obtain rfl : _ = Value.int .i64 (k : Int):=hi.trans (by congr 1; omega)
   clear hi
   have hk4 : k < 8:=by omega
   have c1:=hB.cell hk4
   go_wp2
   clear c1
   obtain ⟨wo,hwo⟩ : ∃ wo : World,wo = wr:=⟨_,rfl⟩
   rw [← hwo] at hA hB hC hR hO hbel ⊢
   clear hwo
   go_loopw [8,9] (fun q kk wq => ∃ m : Nat,m ≤ 64 ∧ kk = .int .i64 m ∧ q = .int .u64 (mw Z k m : Nat) ∧ wq.rowIs g 24 4 (fun j => .int .u64 (wd U j)) ∧ wq.rowIs w.heap.size 103 8 (fun j => .int .u64 (wd Z j)) ∧ wq.rowIs (w.heap.size + 1) 24 4 (fun j => .int .u64 (wd M j)) ∧ wq.rowIs (w.heap.size + 1 + 1) 24 4 (fun _ => .int .u64 0) ∧ wq.rowIs (w.heap.size + 1 + 1 + 1) 24 4 (fun j => .int .u64 (wd (acc U Z M (64 * (k + 1) - m)) j)) ∧ Below w.heap.size w wq)
    (fun _ kk _ => 64 - (intOf kk).toNat)
   case atStart => exact ⟨0,by omega,rfl,by rw [mw_zero]; rfl,hA,hB,hC,hR,hO,hbel⟩
   case round =>
    obtain ⟨m,hm,rfl,rfl,hA,hB,hC,hR,hO,hbel⟩:=hrel
    by_cases hlt : m < 64
    ·
     have hq:=mw_lt Z k m
     have hs : IntKind.u64.wrap ((mw Z k m : Nat) + (mw Z k m : Nat)) = ((mw Z k (m + 1) : Nat) : Int):=by
      rw [IntKind.wrap_u64,← mw_succ]; generalize mw Z k m = z; omega
     have ht:=mw_top Z k m hlt
     obtain ⟨z,hz⟩ : ∃ z : Int,z = ((mw Z k m : Nat) : Int):=⟨_,rfl⟩
     rw [← hz] at hs ⊢
     have hz0 : 0 ≤ z:=by omega
     have hz1 : z < 18446744073709551616:=by omega
     obtain ⟨n,hn⟩ : ∃ n,n = 64 * k + (63 - m):=⟨_,rfl⟩
     rw [← hn] at ht
     rw [show 64 * (k + 1) - m = n + 1 by omega] at hO
     have hVM:=acc_lt (X:=U) (Y:=Z) (n:=n + 1) hM0
     have e1:=acc_twice U Z M n
     have e2:=acc_more U Z M n
     generalize acc U Z M (n + 1) = V at *
     obtain ⟨D,hD⟩ : ∃ D,D = (V + V) % M:=⟨_,rfl⟩
     rw [← hD] at e1 e2
     have hDM : D < M:=by rw [hD]; exact Nat.mod_lt _ hM0
     have h1:=fun W => zek V V M hVM hVM hM W
     rw [← hD] at h1
     have H1:=veil h1
     clear h1
     obtain ⟨o0,o1,o2,o3⟩:=zag hO
     obtain ⟨c0,c1,c2,c3⟩:=zag hC
     by_cases hbit : 9223372036854775808 ≤ mw Z k m
     ·
      have h2:=fun W => zek D U M hDM hUM hM W
      rw [e2 (ht.1 hbit)] at h2
      have H2:=veil h2
      have hbI : 9223372036854775808 ≤ z:=by omega
      clear h2 e1 e2 hD ht hq hbit hz
      have hN:=veil hn
      clear hn
      obtain ⟨T,hT⟩ : ∃ T,T = acc U Z M n:=⟨_,rfl⟩
      rw [← hT] at H2
      have HT:=veil hT
      clear hT
      go_wp2_with fail
      refine (H1.out _).mono ?_
      rintro e w1 ⟨rfl,hb1⟩
      clear o0 o1 o2 o3 c0 c1 c2 c3
      replace hA:=zad hA hb1 hA.lt
      replace hB:=zad hB hb1 hB.lt
      replace hC:=zad hC hb1 hC.lt
      replace hR:=zad hR hb1 hR.lt
      replace hO:=zad hO hb1 hO.lt
      replace hbel:=hbel.trans (hb1.mono hbel.size)
      clear hb1
      obtain ⟨o0,o1,o2,o3⟩:=zag hO
      obtain ⟨f0,f1,f2,f3⟩:=zaq hO
      go_upto_region 11 with (fail)
      replace hA:=zar hA (b':=w.heap.size + 1 + 1 + 1) (by omega) (.int .u64 (wd D 0)) (.int .u64 (wd D 1)) (.int .u64 (wd D 2)) (.int .u64 (wd D 3))
      replace hB:=zar hB (b':=w.heap.size + 1 + 1 + 1) (by omega) (.int .u64 (wd D 0)) (.int .u64 (wd D 1)) (.int .u64 (wd D 2)) (.int .u64 (wd D 3))
      replace hC:=zar hC (b':=w.heap.size + 1 + 1 + 1) (by omega) (.int .u64 (wd D 0)) (.int .u64 (wd D 1)) (.int .u64 (wd D 2)) (.int .u64 (wd D 3))
      replace hR:=zar hR (b':=w.heap.size + 1 + 1 + 1) (by omega) (.int .u64 (wd D 0)) (.int .u64 (wd D 1)) (.int .u64 (wd D 2)) (.int .u64 (wd D 3))
      replace hbel:=zas (b:=w.heap.size + 1 + 1 + 1) hbel (by omega) (.int .u64 (wd D 0)) (.int .u64 (wd D 1)) (.int .u64 (wd D 2)) (.int .u64 (wd D 3))
      replace hO:=put4 hO (fun j => .int .u64 (wd D j))
      clear o0 o1 o2 o3 f0 f1 f2 f3
      generalize (((w1.setCell ⟨w.heap.size + 1 + 1 + 1,0,none⟩ (.int .u64 (wd D 0))).setCell ⟨w.heap.size + 1 + 1 + 1,1,none⟩ (.int .u64 (wd D 1))).setCell ⟨w.heap.size + 1 + 1 + 1,2,none⟩ (.int .u64 (wd D 2))).setCell ⟨w.heap.size + 1 + 1 + 1,3,none⟩ (.int .u64 (wd D 3)) = v1 at *
      obtain ⟨o0,o1,o2,o3⟩:=zag hO
      obtain ⟨c0,c1,c2,c3⟩:=zag hC
      obtain ⟨a0,a1,a2,a3⟩:=zag hA
      go_wp2_with fail
      refine (H2.out _).mono ?_
      rintro e w2 ⟨rfl,hb2⟩
      clear o0 o1 o2 o3 c0 c1 c2 c3 a0 a1 a2 a3
      replace hA:=zad hA hb2 hA.lt
      replace hB:=zad hB hb2 hB.lt
      replace hC:=zad hC hb2 hC.lt
      replace hR:=zad hR hb2 hR.lt
      replace hO:=zad hO hb2 hO.lt
      replace hbel:=hbel.trans (hb2.mono hbel.size)
      clear hb2
      obtain ⟨o0,o1,o2,o3⟩:=zag hO
      obtain ⟨f0,f1,f2,f3⟩:=zaq hO
      go_upto_region 13 with (fail)
      replace hA:=zar hA (b':=w.heap.size + 1 + 1 + 1) (by omega) (.int .u64 (wd T 0)) (.int .u64 (wd T 1)) (.int .u64 (wd T 2)) (.int .u64 (wd T 3))
      replace hB:=zar hB (b':=w.heap.size + 1 + 1 + 1) (by omega) (.int .u64 (wd T 0)) (.int .u64 (wd T 1)) (.int .u64 (wd T 2)) (.int .u64 (wd T 3))
      replace hC:=zar hC (b':=w.heap.size + 1 + 1 + 1) (by omega) (.int .u64 (wd T 0)) (.int .u64 (wd T 1)) (.int .u64 (wd T 2)) (.int .u64 (wd T 3))
      replace hR:=zar hR (b':=w.heap.size + 1 + 1 + 1) (by omega) (.int .u64 (wd T 0)) (.int .u64 (wd T 1)) (.int .u64 (wd T 2)) (.int .u64 (wd T 3))
      replace hbel:=zas (b:=w.heap.size + 1 + 1 + 1) hbel (by omega) (.int .u64 (wd T 0)) (.int .u64 (wd T 1)) (.int .u64 (wd T 2)) (.int .u64 (wd T 3))
      replace hO:=put4 hO (fun j => .int .u64 (wd T j))
      clear o0 o1 o2 o3 f0 f1 f2 f3
      generalize (((w2.setCell ⟨w.heap.size + 1 + 1 + 1,0,none⟩ (.int .u64 (wd T 0))).setCell ⟨w.heap.size + 1 + 1 + 1,1,none⟩ (.int .u64 (wd T 1))).setCell ⟨w.heap.size + 1 + 1 + 1,2,none⟩ (.int .u64 (wd T 2))).setCell ⟨w.heap.size + 1 + 1 + 1,3,none⟩ (.int .u64 (wd T 3)) = v2 at *
      obtain ⟨o0,o1,o2,o3⟩:=zag hO
      obtain ⟨c0,c1,c2,c3⟩:=zag hC
      go_wp2
      go_roundw
      case rel => exact ⟨m + 1,by omega,by go_num,rfl,hA,hB,hC,hR,by rw [show 64 * (k + 1) - (m + 1) = n by have:=hN.out; omega,← HT.out]; exact hO,hbel⟩
      case measure => simp [intOf]; omega
     ·
      have e1:=e1 (by have:=ht.2; omega)
      have hbI : z < 9223372036854775808:=by omega
      have hN:=veil hn
      have E1:=veil e1
      clear e1 e2 hD ht hq hbit hz hn
      go_wp2_with fail
      refine (H1.out _).mono ?_
      rintro e w1 ⟨rfl,hb1⟩
      clear o0 o1 o2 o3 c0 c1 c2 c3
      replace hA:=zad hA hb1 hA.lt
      replace hB:=zad hB hb1 hB.lt
      replace hC:=zad hC hb1 hC.lt
      replace hR:=zad hR hb1 hR.lt
      replace hO:=zad hO hb1 hO.lt
      replace hbel:=hbel.trans (hb1.mono hbel.size)
      clear hb1
      obtain ⟨o0,o1,o2,o3⟩:=zag hO
      obtain ⟨f0,f1,f2,f3⟩:=zaq hO
      go_upto_region 11 with (fail)
      replace hA:=zar hA (b':=w.heap.size + 1 + 1 + 1) (by omega) (.int .u64 (wd D 0)) (.int .u64 (wd D 1)) (.int .u64 (wd D 2)) (.int .u64 (wd D 3))
      replace hB:=zar hB (b':=w.heap.size + 1 + 1 + 1) (by omega) (.int .u64 (wd D 0)) (.int .u64 (wd D 1)) (.int .u64 (wd D 2)) (.int .u64 (wd D 3))
      replace hC:=zar hC (b':=w.heap.size + 1 + 1 + 1) (by omega) (.int .u64 (wd D 0)) (.int .u64 (wd D 1)) (.int .u64 (wd D 2)) (.int .u64 (wd D 3))
      replace hR:=zar hR (b':=w.heap.size + 1 + 1 + 1) (by omega) (.int .u64 (wd D 0)) (.int .u64 (wd D 1)) (.int .u64 (wd D 2)) (.int .u64 (wd D 3))
      replace hbel:=zas (b:=w.heap.size + 1 + 1 + 1) hbel (by omega) (.int .u64 (wd D 0)) (.int .u64 (wd D 1)) (.int .u64 (wd D 2)) (.int .u64 (wd D 3))
      replace hO:=put4 hO (fun j => .int .u64 (wd D j))
      clear o0 o1 o2 o3 f0 f1 f2 f3
      generalize (((w1.setCell ⟨w.heap.size + 1 + 1 + 1,0,none⟩ (.int .u64 (wd D 0))).setCell ⟨w.heap.size + 1 + 1 + 1,1,none⟩ (.int .u64 (wd D 1))).setCell ⟨w.heap.size + 1 + 1 + 1,2,none⟩ (.int .u64 (wd D 2))).setCell ⟨w.heap.size + 1 + 1 + 1,3,none⟩ (.int .u64 (wd D 3)) = v1 at *
      obtain ⟨o0,o1,o2,o3⟩:=zag hO
      obtain ⟨c0,c1,c2,c3⟩:=zag hC
      go_wp2
      go_roundw
      case rel => exact ⟨m + 1,by omega,by go_num,rfl,hA,hB,hC,hR,by rw [show 64 * (k + 1) - (m + 1) = n by have:=hN.out; omega,← E1.out]; exact hO,hbel⟩
      case measure => simp [intOf]; omega
    ·
     obtain rfl : m = 64:=by omega
     go_wp2
     go_roundw
     case rel => exact ⟨k,by omega,by go_num,hA,hB,hC,hR,by rw [show 64 * (k + 1) - 64 = 64 * k by omega] at hO; exact hO,hbel⟩
     case measure => simp [intOf]
theorem top_le_top2 : top ≤ top2:=by
 show w64 ^ 4 ≤ w64 ^ 8
 exact Nat.pow_le_pow_right zbd (by omega)
theorem gcut_num (X M P : Nat) (hP : X % M = P) (hX : X < top) (hM1 : 1 < M) (hM : M < top) (w : World) :
  Calls Tryz.prog 68 #[.agg #[.int .u64 (wd X 0),.int .u64 (wd X 1),.int .u64 (wd X 2),.int .u64 (wd X 3),.int .u64 0,.int .u64 0,.int .u64 0,.int .u64 0],.agg #[.int .u64 (wd M 0),.int .u64 (wd M 1),.int .u64 (wd M 2),.int .u64 (wd M 3)]] w fun e w' => e = .returned (.agg #[.int .u64 (wd P 0),.int .u64 (wd P 1),.int .u64 (wd P 2),.int .u64 (wd P 3)]) ∧ Below w.heap.size w w':=by
 subst hP
 obtain ⟨e4,e5,e6,e7⟩:=num_wide X hX
 have h:=gcut_calls X M (Nat.lt_of_lt_of_le hX top_le_top2) hM1 hM w
 rw [e4,e5,e6,e7] at h
 exact h
theorem gin_big (X M P : Nat) (hP : X % M = P) (hX : X < top) (hXM : decide (X < M) = false) (hM1 : 1 < M) (hM : M < top) (w : World) :
  Calls Tryz.prog 26 #[.agg #[.int .u64 (wd X 0),.int .u64 (wd X 1),.int .u64 (wd X 2),.int .u64 (wd X 3)],.agg #[.int .u64 (wd M 0),.int .u64 (wd M 1),.int .u64 (wd M 2),.int .u64 (wd M 3)]] w fun e w' => e = .returned (.agg #[.int .u64 (wd P 0),.int .u64 (wd P 1),.int .u64 (wd P 2),.int .u64 (wd P 3)]) ∧ Below w.heap.size w w':=by
 have HL:=veil hXM
 have h2:=fun W => gcut_num X M P hP hX hM1 hM W
 have H2:=veil h2
 clear h2 hXM hP
 have hX0 : (((w.alloc (.cells #[.int .u64 (wd X 0),.int .u64 (wd X 1),.int .u64 (wd X 2),.int .u64 (wd X 3)] 24)).alloc (.cells #[.int .u64 (wd M 0),.int .u64 (wd M 1),.int .u64 (wd M 2),.int .u64 (wd M 3)] 24)).alloc (.cells #[.int .u64 0,.int .u64 0,.int .u64 0,.int .u64 0] 24)).rowIs w.heap.size 24 4 (fun j => .int .u64 (wd X j)):=((zai (n:=4) (by simp) rfl (arr4 fun j => .int .u64 (wd X j))).alloc _).alloc _
 have hM0 : (((w.alloc (.cells #[.int .u64 (wd X 0),.int .u64 (wd X 1),.int .u64 (wd X 2),.int .u64 (wd X 3)] 24)).alloc (.cells #[.int .u64 (wd M 0),.int .u64 (wd M 1),.int .u64 (wd M 2),.int .u64 (wd M 3)] 24)).alloc (.cells #[.int .u64 0,.int .u64 0,.int .u64 0,.int .u64 0] 24)).rowIs (w.heap.size + 1) 24 4 (fun j => .int .u64 (wd M j)):=(zai (n:=4) (by simp) rfl (arr4 fun j => .int .u64 (wd M j))).alloc _
 have hR0 : (((w.alloc (.cells #[.int .u64 (wd X 0),.int .u64 (wd X 1),.int .u64 (wd X 2),.int .u64 (wd X 3)] 24)).alloc (.cells #[.int .u64 (wd M 0),.int .u64 (wd M 1),.int .u64 (wd M 2),.int .u64 (wd M 3)] 24)).alloc (.cells #[.int .u64 0,.int .u64 0,.int .u64 0,.int .u64 0] 24)).rowIs (w.heap.size + 1 + 1) 24 4 (fun _ => .int .u64 0):=zai (n:=4) (by simp) rfl (arr4 fun _ => .int .u64 0)
 have hb0 : Below w.heap.size w (((w.alloc (.cells #[.int .u64 (wd X 0),.int .u64 (wd X 1),.int .u64 (wd X 2),.int .u64 (wd X 3)] 24)).alloc (.cells #[.int .u64 (wd M 0),.int .u64 (wd M 1),.int .u64 (wd M 2),.int .u64 (wd M 3)] 24)).alloc (.cells #[.int .u64 0,.int .u64 0,.int .u64 0,.int .u64 0] 24)):=(((Below.refl _ _).alloc (by simp) _).alloc (by simp) _).alloc (by simp; omega) _
 go_enter Tryz.func26,Tryz.ntmps26
 obtain ⟨a0,a1,a2,a3⟩:=zag hX0
 obtain ⟨c0,c1,c2,c3⟩:=zag hM0
 go_wp2_with fail
 refine (zft X M false HL.out hX hM _).mono ?_
 rintro e w1 ⟨rfl,hb1⟩
 clear a0 a1 a2 a3 c0 c1 c2 c3
 replace hX0:=zad hX0 hb1 hX0.lt
 replace hM0:=zad hM0 hb1 hM0.lt
 replace hR0:=zad hR0 hb1 hR0.lt
 replace hb0:=hb0.trans (hb1.mono hb0.size)
 clear hb1
 obtain ⟨a0,a1,a2,a3⟩:=zag hX0
 obtain ⟨c0,c1,c2,c3⟩:=zag hM0
 obtain ⟨d0,d1,d2,d3⟩:=zag hR0
 obtain ⟨f0,f1,f2,f3⟩:=zaq hR0
 go_wp2_with fail
 refine (H2.out _).mono ?_
 rintro e w2 ⟨rfl,hb1⟩
 clear a0 a1 a2 a3 c0 c1 c2 c3 d0 d1 d2 d3 f0 f1 f2 f3
 replace hR0:=zad hR0 hb1 hR0.lt
 replace hb0:=hb0.trans (hb1.mono hb0.size)
 clear hb1 hX0 hM0
 obtain ⟨d0,d1,d2,d3⟩:=zag hR0
 obtain ⟨f0,f1,f2,f3⟩:=zaq hR0
 go_wp2
 refine bodyPost_ret (results_cell_row rfl _ _ (w.heap.size + 1 + 1) 24 #[.int .u64 (wd P 0),.int .u64 (wd P 1),.int .u64 (wd P 2),.int .u64 (wd P 3)] (0,0) _ rfl (blk4 (put4 hR0 fun j => .int .u64 (wd P j))) Tryz.underlying24 rfl (by kernel_rfl)) rfl ⟨rfl,zas hb0 (by omega) _ _ _ _⟩
theorem gin_calls (X M : Nat) (hX : X < top) (hM1 : 1 < M) (hM : M < top) (w : World) :
  Calls Tryz.prog 26 #[.agg #[.int .u64 (wd X 0),.int .u64 (wd X 1),.int .u64 (wd X 2),.int .u64 (wd X 3)],.agg #[.int .u64 (wd M 0),.int .u64 (wd M 1),.int .u64 (wd M 2),.int .u64 (wd M 3)]] w fun e w' => e = .returned (.agg #[.int .u64 (wd (X % M) 0),.int .u64 (wd (X % M) 1),.int .u64 (wd (X % M) 2),.int .u64 (wd (X % M) 3)]) ∧ Below w.heap.size w w':=by
 by_cases h : X < M
 ·
  rw [Nat.mod_eq_of_lt h]; exact gin_small X M h hM w
 ·
  exact gin_big X M _ rfl hX (by simpa using h) hM1 hM w
end Go.Proofs.YtmfjigcdhijkjaaGreatDoor
namespace Go.Proofs.YtmfjigcdhijkjaaGreatDoor.Pt
theorem nn_big : 3 < nn:=by decide +kernel
theorem nn_root : ∃ g : Fin nn,Root g:=by
 obtain ⟨ps,hp,h⟩:=(tab_pr tab [2] two_only tab_ok (0xffffffff00000000ffffffffffffffffbce6faada7179e84f3b9cac2fc632551,7,[2,2,2,2,3,71,131,373,3407,17449,38189,187019741,622491383,1002328039319,2624747550333869278416773953]) (by decide +kernel)).2
 exact ⟨_,(row_root (n:=nn) hp h).2⟩
abbrev Ne:=Fin nn
theorem nn_one : 1 < nn:=by have:=nn_big; omega
section
variable {n : Nat} [NeZero n]
theorem uniq_inv {x y z : Fin n} (h1 : x * y = 1) (h2 : x * z = 1) : y = z:=by
 have e : y = y * (x * z):=by rw [h2,zha]
 rw [e,← zfm,zgb y x,h1,zfz]
theorem F_vlt {a : Nat} (h : a < n) : (F a : Fin n).val = a:=Nat.mod_eq_of_lt h
theorem F_mul_one (hn : 1 < n) {a t : Nat} (h : a * t % n = 1) : (F a : Fin n) * F t = 1:=by
 rw [← F_mul]
 apply Fin.ext
 rw [val_one hn]
 exact h
def gi (x : Fin n) : Fin n:=pf x (n - 2)
theorem gi_mul (hr : ∃ g : Fin n,Root g) (hn : 1 < n) {x : Fin n} (h : x ≠ 0) : x * gi x = 1:=by
 obtain ⟨g,hg⟩:=hr
 exact zhi hg hn h
theorem gi_of (hr : ∃ g : Fin n,Root g) (hn : 1 < n) {x t : Fin n} (h : x * t = 1) : t = gi x:=by
 have hx : x ≠ 0:=by
  rintro rfl
  have e : (0 : Fin n) * t = 0:=by grobner
  rw [e] at h
  have h2:=congrArg Fin.val h
  rw [Fin.val_zero,val_one hn] at h2
  exact absurd h2 (by decide)
 exact uniq_inv h (gi_mul hr hn hx)
end
section
variable (n : Nat) [NeZero n]
def iG (a : Nat) : Nat:=(gi (F a : Fin n)).val
theorem iG_lt (a : Nat) : iG n a < n:=(gi (F a : Fin n)).isLt
theorem iG_of (hr : ∃ g : Fin n,Root g) (hn : 1 < n) {a t : Nat} (ht : t < n) (h : a * t % n = 1) : t = iG n a:=by
 have e2:=congrArg Fin.val (gi_of hr hn (F_mul_one hn h))
 rw [F_vlt ht] at e2
 exact e2
omit [NeZero n] in
theorem gcd_of (hp : ∀ d,d ∣ n → d = 1 ∨ d = n) {a : Nat} (h0 : a ≠ 0) (h : a < n) : Nat.gcd a n = 1:=by
 rcases hp _ (Nat.gcd_dvd_right a n) with h1 | h1
 ·
  exact h1
 ·
  exfalso
  have h2:=Nat.gcd_dvd_left a n
  rw [h1] at h2
  have h3:=Nat.le_of_dvd (Nat.pos_of_ne_zero h0) h2
  omega
end
theorem gcd_nn {a : Nat} (h0 : a ≠ 0) (h : a < nn) : Nat.gcd a nn = 1:=gcd_of nn nn_pr.2 h0 h
/-! ### multiples -/
/-! ### signatures -/
def rOf (k : Nat) : Nat:=pX (grp.mul k base).1 % nn
def sOf (d e k : Nat) : Nat:=iG nn k * ((e % nn + rOf k * d % nn) % nn) % nn
def inR (x : Nat) : Bool:=decide (x ≠ 0) && decide (x < nn)
theorem inR_iff (x : Nat) : inR x = true ↔ x ≠ 0 ∧ x < nn:=by simp [inR]
def sumOf (q : Q) (e r s : Nat) : Q:=grp.op (grp.mul (e % nn * iG nn s % nn) base) (grp.mul (r * iG nn s % nn) q)
def verB (q : Q) (e r s : Nat) : Bool:=!pFar q.1 && inR r && inR s && !pFar (sumOf q e r s).1 && decide (pX (sumOf q e r s).1 % nn = r)
end Go.Proofs.YtmfjigcdhijkjaaGreatDoor.Pt
namespace Go.Proofs.YtmfjigcdhijkjaaGreatDoor
open Go.RowKit
open Go.Act renaming put → aP
open List renaming setIfInBounds_toArray → lA, set_cons_zero → lZ, set_cons_succ → lS
def cellsN : List Nat → List Value
 | [] => []
 | x :: xs => (nc x).toList ++ cellsN xs
theorem zhr : ∀ (xs ys : List Nat),cellsN (xs ++ ys) = cellsN xs ++ cellsN ys
 | [],ys => rfl
 | x :: xs,ys => by
  show (nc x).toList ++ cellsN (xs ++ ys) = ((nc x).toList ++ cellsN xs) ++ cellsN ys
  rw [zhr xs ys,List.append_assoc]
theorem cellsN_at : ∀ (xs : List Nat) (i : Nat) (x : Nat),xs[i]? = some x → ((cellsN xs).drop (i * 4)).take 4 = (nc x).toList
 | [],i,x,h => by simp at h
 | y :: xs,0,x,h => by
  obtain rfl : y = x:=by simpa using h
  rfl
 | y :: xs,i + 1,x,h => by
  have h1:=cellsN_at xs i x (by simpa using h)
  have e : (i + 1) * 4 = (nc y).toList.length + i * 4:=by
   show _ = 4 + _
   omega
  show (((nc y).toList ++ cellsN xs).drop ((i + 1) * 4)).take 4 = _
  rw [e,← List.drop_drop,List.drop_left,h1]
def OwnN (w : World) (base : Nat) (v : Value) (xs : List Nat) : Prop:=w.ownsRow base 24 4 v xs.length (cellsN xs)
section
variable {w w' : World} {base : Nat} {v : Value} {xs : List Nat}
theorem OwnN.nil (w : World) (base : Nat) : OwnN w base (.slice none 0 0) []:=World.ownsRow_nil _ _ _ _
theorem OwnN.form (o : OwnN w base v xs) : ∃ A c,v = .slice A xs.length c ∧ xs.length ≤ c:=by
 rcases o.2 with ⟨h,h0⟩ | ⟨g,cap,cur,h,_,_,hn,_⟩
 ·
  exact ⟨none,0,by rw [h,h0],by omega⟩
 ·
  exact ⟨_,cap,h,hn⟩
theorem OwnN.lt (o : OwnN w base v xs) {k : Nat} (hk : v.ownBlock = some k) : base ≤ k ∧ k < w.heap.size:=World.ownsRow.lt o k hk
theorem OwnN.keep (o : OwnN w base v xs) (h : ∀ k,v.ownBlock = some k → w'.heap[k]? = w.heap[k]?) : OwnN w' base v xs:=by
 refine ⟨o.1,?_⟩
 rcases o.2 with hn | ⟨g,cap,cur,rfl,hbg,hh,rest⟩
 ·
  exact .inl hn
 ·
  exact .inr ⟨g,cap,cur,rfl,hbg,(h g rfl).trans hh,rest⟩
theorem OwnN.ext (o : OwnN w base v xs) (h : Ext w w') : OwnN w' base v xs:=o.keep fun k hk => Below.block h k (o.lt hk).2
theorem OwnN.but {r : Nat} (o : OwnN w base v xs) (h : But r w w') (hr : r < base) : OwnN w' base v xs:=o.keep fun k hk => h.block k (o.lt hk).2 (by have:=(o.lt hk).1; intro e; injection e; omega)
theorem OwnN.base_le {base' : Nat} (o : OwnN w base v xs) (hb : base' ≤ base) : OwnN w base' v xs :=
 ⟨o.1,o.2.elim .inl fun ⟨g,cap,cur,hv,hg,r⟩ => .inr ⟨g,cap,cur,hv,Nat.le_trans hb hg,r⟩⟩
theorem OwnN.at (o : OwnN w base v xs) {i : Nat} (hi : i < xs.length) : ∃ g cap,v = .slice (some ⟨g,0,none⟩) xs.length cap ∧ base ≤ g ∧ g < w.heap.size ∧ w.rangeAt g (i * 4) (nc (xs[i]'hi)).toList:=by
 rcases o.2 with ⟨_,h0⟩ | ⟨g,cap,cur,rfl,hbg,hh,hn,hm,hs,ht⟩
 ·
  omega
 ·
  refine ⟨g,cap,rfl,hbg,(Array.getElem?_eq_some_iff.1 hh).1,fun j u hu => ?_⟩
  have hj : j < 4:=by have:=(List.getElem?_eq_some_iff.1 hu).1; exact this
  rw [cell_of_row w g _ cur _ _ hh]
  have h1:=cellsN_at xs i _ (List.getElem?_eq_getElem hi)
  rw [← h1,List.getElem?_take_of_lt hj,List.getElem?_drop,← ht,List.getElem?_take_of_lt (by omega)] at hu
  simpa using hu
end
theorem infoN32 : (Tryz.prog.info? 24).map (fun i => (i.zero,i.size,i.bytes)) = some (some (.agg #[.int .u64 0,.int .u64 0,.int .u64 0,.int .u64 0]),4,32):=by kernel_rfl
theorem info_parts4 {i : Option TypeInfo} {z : Value} {n b : Nat} (h : i.map (fun i => (i.zero,i.size,i.bytes)) = some (some z,n,b)) : ∃ j,i = some j ∧ j.zero = some z ∧ j.size = n ∧ j.bytes = b:=by
 cases i with
 | none => simp at h
 | some j =>
  simp only [Option.map_some,Option.some.injEq,Prod.mk.injEq] at h
  exact ⟨j,rfl,h.1,h.2.1,h.2.2⟩
theorem wpl_append_num {w : World} {ops : Array Oper} {rest : List Oper} {o : Oper} {a : Act} {Q : Exit → Act → World → Prop} (hgd : o.guard = none) (s x : Operand)
  (ho : o.op = .call { callee:=.builtin .append,args:=#[s,x],argTypes:=#[50,50] })
  (base : Nat) (v : Value) (xs : List Nat) (hs : a.eval s = v) (hown : OwnN w base v xs) (g X : Nat) (hx : a.eval x = .slice (some ⟨g,0,none⟩) 1 1) (hg : w.heap[g]? = some (.cells (nc X) 24 (0,0)))
  (hn : xs.length ≤ 1000) (hbase : base ≤ w.heap.size)
  (h : ∀ v' w',OwnN w' base v' (xs ++ [X]) → w.grownBy w' v.ownBlock → wpList Tryz.prog ops Q rest (a.put o.dst v') w') : wpList Tryz.prog ops Q (o :: rest) a w:=by
 obtain ⟨i,hi,hz,hsz,hby⟩:=info_parts4 infoN32
 refine wpList_plain hgd fun K hK => ?_
 obtain ⟨v',w',hr,h2,h3,_,_⟩:=run_append_own_at (P:=Tryz.prog) w base 50 o.type 24 i _ 4 32 Tryz.underlying50 hi hz hsz hby rfl (by decide) v xs.length (cellsN xs) hown ⟨g,0,none⟩ 1 1 (nc X).toList rfl
  (fun j u hu => by
   rw [Addr.add_mid,Nat.zero_add,cell_of_row w g j (nc X) _ _ hg]
   simpa using hu)
  (fun u hu => (Array.all_eq_true_iff_forall_mem.1 (zbf X)) u (by simpa using hu)) (by unfold maxLen; omega) (by omega) hbase
 unfold Oper.wp execOp
 simp only [ho,resolve,invoke,builtin,Sem.run_bind,Sem.run_pure,Result.andThen_ok,List.map_toArray,List.map_cons,List.map_nil,hs,hx,hr]
 refine hK _ _ (h v' w' ?_ h3)
 unfold OwnN
 rw [zhr,List.length_append]
 have e : cellsN [X] = (nc X).toList:=List.append_nil _
 rw [e]
 exact h2
def bsv (X j : Nat) : Value:=.int .u8 (byv X (31 - j))
def findBlock (k : Nat) : Code → Option Code
 | .block j c => if j = k then some (.block j c) else findBlock k c
 | .seq a b => match findBlock k a with
  | some c => some c
  | none => findBlock k b
 | .cond _ a b => match findBlock k a with
  | some c => some c
  | none => findBlock k b
 | .loop c => findBlock k c
 | .scope c => findBlock k c
 | _ => none
noncomputable def piece (k : Nat) : Code:=(Tryz.f122.body.bind (findBlock k)).getD .skip
end Go.Proofs.YtmfjigcdhijkjaaGreatDoor
namespace Go.Proofs.YtmfjigcdhijkjaaGreatDoor
open Go.ChangeShapes Go.WideShapes Go.ChangeAt Go.RowKit
theorem cellsWord : Tryz.prog.cellsOf 22 = 1:=by kernel_rfl
def numD {H : Type} (X : Nat) : DataW H:=.agg [.lit (.int .u64 (wd X 0)),.lit (.int .u64 (wd X 1)),.lit (.int .u64 (wd X 2)),.lit (.int .u64 (wd X 3))]
theorem wf_u64 {x : Int} (h : (Lit.int .u64 x).wf = true) : 0 ≤ x ∧ x < 18446744073709551616:=by
 simp only [Lit.wf,Bool.and_eq_true,decide_eq_true_eq] at h
 have e1 : IntKind.u64.min = 0:=rfl
 have e2 : IntKind.u64.max = 18446744073709551615:=rfl
 omega
theorem wf_wd (X i : Nat) : (Lit.int .u64 (wd X i)).wf = true:=WalkArith.wf_u64 ⟨wd_lo X i,wd_le X i⟩
section
variable {H : Type} {enc : TypeId × Value → H}
end
end Go.Proofs.YtmfjigcdhijkjaaGreatDoor
namespace Go.Proofs.YtmfjigcdhijkjaaGreatDoor
open Go.ChangeShapes Go.WideShapes Go.ChangeAt Go.RowKit
theorem cellsDig : Tryz.prog.cellsOf 26 = 32:=by kernel_rfl
theorem cellsB : Tryz.prog.cellsOf 5 = 1:=by kernel_rfl
def byteOf : Option Value → Nat
 | some (.int _ x) => x.toNat % 256
 | _ => 0
theorem byteOf_lt (v : Option Value) : byteOf v < 256:=by
 unfold byteOf
 split
 ·
  exact Nat.mod_lt _ (by decide)
 ·
  decide
section
variable {H : Type} {enc : TypeId × Value → H}
theorem open_dig {W : World} {base : Nat} {v : Value} {d : DataW H} {p : List MemPlace} (hv : Value.okWide Tryz.prog W .any base 26 v) (h : DataW.Trod enc Tryz.prog W 0 (fun _ => true) true 26 v d p) :
  ∃ y : Nat → Nat,(∀ j,y j < 256) ∧ v = .agg (arrOf 32 fun i => .int .u8 (y i : Nat)) ∧ p = []:=by
 obtain ⟨cs,rfl,hsz,_⟩ : ∃ cs,v = .agg cs ∧ cs.size = Tryz.prog.cellsOf 26 ∧ Row.okWide Tryz.prog W .any base 26 cs:=by
  simpa [Value.okWide,Tryz.underlying26] using hv
 rw [cellsDig] at hsz
 obtain ⟨fuel,hf⟩:=h
 obtain ⟨xs,m,_,hx,_,hn,hi⟩:=DataW.trod_array Tryz.underlying26 hf
 have hi : ∀ i,i < 32 → DataW.trod enc Tryz.prog W 0 (fun _ => true) true m 5 ((cs.toList.drop i).take 1) = xs[i]?:=fun i h => by
  have h1:=hi i h
  rw [cellsB,Nat.mul_one] at h1
  exact h1
 have each : ∀ i,i < 32 → cs[i]? = some (.int .u8 (byteOf cs[i]? : Nat)) ∧ ∀ z,xs[i]? = some z → z.2 = []:=fun i h => by
  have hc : cs[i]? = some (cs[i]'(by omega)):=Array.getElem?_eq_getElem (by omega)
  have hl : (cs.toList.drop i).take 1 = [cs[i]'(by omega)]:=by
   rw [List.drop_eq_getElem_cons (by simpa using (by omega : i < cs.size))]
   simp
  have hxi : xs[i]? = some (xs[i]'(by omega)):=List.getElem?_eq_getElem (by omega)
  have h1:=hi i h
  rw [hl,hxi] at h1
  obtain ⟨x,e,hz,wf⟩:=DataW.trod_int Tryz.underlying5 h1
  simp at e
  simp only [Lit.wf,Bool.and_eq_true,decide_eq_true_eq] at wf
  have e1 : IntKind.u8.min = 0:=rfl
  have e2 : IntKind.u8.max = 255:=rfl
  refine ⟨?_,fun z hz' => ?_⟩
  ·
   rw [hc,e]
   show some (Value.int .u8 x) = some (.int .u8 ((x.toNat % 256 : Nat) : Int))
   have : ((x.toNat % 256 : Nat) : Int) = x:=by omega
   rw [this]
  ·
   rw [hxi] at hz'
   obtain rfl:=Option.some.inj hz'
   rw [hz]
 refine ⟨fun i => byteOf cs[i]?,fun i => byteOf_lt _,?_,?_⟩
 ·
  congr 1
  exact eq_arrOf hsz fun i h => (each i h).1
 ·
  simp only [Prod.mk.injEq] at hx
  rw [hx.2]
  refine List.flatMap_eq_nil_iff.2 fun z hz => ?_
  obtain ⟨i,hi',rfl⟩:=List.getElem_of_mem hz
  exact (each i (by omega)).2 _ (List.getElem?_eq_getElem hi')
end
end Go.Proofs.YtmfjigcdhijkjaaGreatDoor
