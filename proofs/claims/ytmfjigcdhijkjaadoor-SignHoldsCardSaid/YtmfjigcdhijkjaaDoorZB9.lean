/-
  Of G9.
-/
import Derived.Test.YtmfjigcdhijkjaaDoorZB2
import Derived.Test.YtmfjigcdhijkjaaDoorZB7
set_option maxRecDepth 1000000
set_option maxHeartbeats 20000000
namespace Go.Proofs.YtmfjigcdhijkjaaDoor
open Go.RowKit
open Go.Act renaming put → aP
open List renaming setIfInBounds_toArray → lA, set_cons_zero → lZ, set_cons_succ → lS
theorem gcd_even (u v : Nat) (hu : u % 2 = 0) (hv : v % 2 = 1) : Nat.gcd (u / 2) v = Nat.gcd u v:=by
 have hc : Nat.Coprime 2 v:=by
  unfold Nat.Coprime
  rw [Nat.gcd_rec,hv]; rfl
 have e : u = 2 * (u / 2):=by omega
 conv => rhs; rw [e]
 exact (Nat.Coprime.gcd_mul_left_cancel (u / 2) hc).symm
theorem gcd_less (u v : Nat) (h : u ≤ v) : Nat.gcd (v - u) u = Nat.gcd u v:=by
 rw [Nat.gcd_comm u v]
 have e : v = (v - u) + u:=by omega
 conv => rhs; rw [e,Nat.gcd_add_self_left]
theorem cut_twice {M A B : Nat} (hM : M % 2 = 1) (h : 2 * A % M = 2 * B % M) : A % M = B % M:=by
 have hM0 : 0 < M:=by omega
 rw [Nat.mul_mod,← Nat.mul_mod_mod,Nat.mod_mul_mod] at h
 rw [Nat.mul_mod 2 B,← Nat.mul_mod_mod,Nat.mod_mul_mod] at h
 have ha:=Nat.mod_lt A hM0
 have hb:=Nat.mod_lt B hM0
 simp only [Nat.mod_mod] at h
 generalize A % M = a at *
 generalize B % M = b at *
 have e : ∀ c,c < M → 2 * c % M = if 2 * c < M then 2 * c else 2 * c - M:=by
  intro c hc
  split
  ·
   exact Nat.mod_eq_of_lt (by assumption)
  ·
   rw [Nat.mod_eq_sub_mod (by omega),Nat.mod_eq_of_lt (by omega)]
 rw [e a ha,e b hb] at h
 split at h <;> split at h <;> omega
theorem cut_add {M A B C : Nat} (hM0 : 0 < M) (h : (A + C) % M = (B + C) % M) : A % M = B % M:=by
 rw [Nat.add_mod,Nat.add_mod B] at h
 have ha:=Nat.mod_lt A hM0
 have hb:=Nat.mod_lt B hM0
 have hc:=Nat.mod_lt C hM0
 generalize A % M = a at *
 generalize B % M = b at *
 generalize C % M = c at *
 have e : ∀ d,d < M → (d + c) % M = if d + c < M then d + c else d + c - M:=by
  intro d hd
  split
  ·
   exact Nat.mod_eq_of_lt (by assumption)
  ·
   rw [Nat.mod_eq_sub_mod (by omega),Nat.mod_eq_of_lt (by omega)]
 rw [e a ha,e b hb] at h
 split at h <;> split at h <;> omega
structure Inv (a M r u v x y : Nat) : Prop where
 hx : x < M
 hy : y < M
 hu : u < top
 hv : v < top
 odd : v % 2 = 1
 ex : a * x % M = u % M
 ey : a * y % M = v % M
 g : Nat.gcd u v = Nat.gcd a M
 left : ∃ p q,u < 2 ^ p ∧ v < 2 ^ q ∧ r + 2 * (p + q) + u % 2 ≤ 1025
theorem neq4 (f g : Nat → Int) (w : World) : (binOp .neq 24 (.agg #[.int .u64 (f 0),.int .u64 (f 1),.int .u64 (f 2),.int .u64 (f 3)]) (.agg #[.int .u64 (g 0),.int .u64 (g 1),.int .u64 (g 2),.int .u64 (g 3)])).run Tryd.prog w = .ok (.bool (!((List.range 4).all fun i => f i == g i))) w:=by
 obtain ⟨i,hi⟩ : ∃ i,Tryd.prog.info? 22 = some i:=Option.isSome_iff_exists.1 (by kernel_rfl)
 have hc : Tryd.prog.cellsOf 22 = 1:=by kernel_rfl
 rw [run_neq_struct,run_equalIn_array (P:=Tryd.prog) w 9999 _ _ Tryd.underlying24 hi,hc]
 rw [run_items 9998 _ _ f g w _ (fun j hj => arr4 (fun j => .int .u64 (f j)) j (by simpa using hj)) (fun j hj => arr4 (fun j => .int .u64 (g j)) j (by simpa using hj))]
 rfl
theorem neq_zero {X : Nat} (hX : X < top) (w : World) : (binOp .neq 24 (.agg #[.int .u64 (wd X 0),.int .u64 (wd X 1),.int .u64 (wd X 2),.int .u64 (wd X 3)]) (.agg #[.int .u64 0,.int .u64 0,.int .u64 0,.int .u64 0])).run Tryd.prog w = .ok (.bool (!decide (X = 0))) w:=by
 have h:=neq4 (wd X) (wd 0) w
 rw [all_wd 4 X 0] at h
 have e : (X % w64 ^ 4 = 0 % w64 ^ 4) = (X = 0):=by rw [Nat.mod_eq_of_lt (show X < w64 ^ 4 from hX),Nat.zero_mod]
 rw [decide_eq_decide.2 (iff_of_eq e)] at h
 have e0 : ∀ i,wd 0 i = 0:=by intro i; unfold wd dg; simp
 simpa [e0] using h
end Go.Proofs.YtmfjigcdhijkjaaDoor
