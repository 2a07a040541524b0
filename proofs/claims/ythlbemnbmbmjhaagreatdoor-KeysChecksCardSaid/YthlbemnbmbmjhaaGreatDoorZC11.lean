/-
  Of G9 Q7.
-/
import Derived.Deep.Cut
import Derived.Deep.CutRange
import Derived.Test.YthlbemnbmbmjhaaGreatDoorZC4
import Derived.Test.YthlbemnbmbmjhaaGreatDoorZC10
set_option maxRecDepth 1000000
set_option maxHeartbeats 20000000
namespace Go.Proofs.YthlbemnbmbmjhaaGreatDoor
open Go.RowKit
open Go.Value renaming int → vI
open Go.IntKind renaming u64 → vU
open Go.Act renaming put → aP
open List renaming setIfInBounds_toArray → lA, set_cons_zero → lZ, set_cons_succ → lS
theorem gcd_even (u v : Nat) (hu : u % 2 = 0) (hv : v % 2 = 1) : Nat.gcd (u / 2) v = Nat.gcd u v:=by
 have hc : Nat.Coprime 2 v:=by
  unfold Nat.Coprime
  rw [Nat.gcd_rec,hv]; rfl
 have e : u = 2 * (u / 2):=by omega
 conv => rhs; rw [e]
 exact (Nat.Coprime.gcd_mul_left_cancel (u / 2) hc).symm
theorem gcd_less (u v : Nat) (h : u ≤ v) : Nat.gcd (v - u) u = Nat.gcd u v:=by
 rw [Nat.gcd_comm u v]
 have e : v = (v - u) + u:=by omega
 conv => rhs; rw [e,Nat.gcd_add_self_left]
theorem cut_twice {M A B : Nat} (hM : M % 2 = 1) (h : 2 * A % M = 2 * B % M) : A % M = B % M:=by
 have hM0 : 0 < M:=by omega
 rw [Nat.mul_mod,← Nat.mul_mod_mod,Nat.mod_mul_mod] at h
 rw [Nat.mul_mod 2 B,← Nat.mul_mod_mod,Nat.mod_mul_mod] at h
 have ha:=Nat.mod_lt A hM0
 have hb:=Nat.mod_lt B hM0
 simp only [Nat.mod_mod] at h
 generalize A % M = a at *
 generalize B % M = b at *
 have e : ∀ c,c < M → 2 * c % M = if 2 * c < M then 2 * c else 2 * c - M:=by
  intro c hc
  split
  ·
   exact Nat.mod_eq_of_lt (by assumption)
  ·
   rw [Nat.mod_eq_sub_mod (by omega),Nat.mod_eq_of_lt (by omega)]
 rw [e a ha,e b hb] at h
 split at h <;> split at h <;> omega
theorem cut_add {M A B C : Nat} (hM0 : 0 < M) (h : (A + C) % M = (B + C) % M) : A % M = B % M:=by
 rw [Nat.add_mod,Nat.add_mod B] at h
 have ha:=Nat.mod_lt A hM0
 have hb:=Nat.mod_lt B hM0
 have hc:=Nat.mod_lt C hM0
 generalize A % M = a at *
 generalize B % M = b at *
 generalize C % M = c at *
 have e : ∀ d,d < M → (d + c) % M = if d + c < M then d + c else d + c - M:=by
  intro d hd
  split
  ·
   exact Nat.mod_eq_of_lt (by assumption)
  ·
   rw [Nat.mod_eq_sub_mod (by omega),Nat.mod_eq_of_lt (by omega)]
 rw [e a ha,e b hb] at h
 split at h <;> split at h <;> omega
structure Inv (a M r u v x y : Nat) : Prop where
 hx : x < M
 hy : y < M
 hu : u < top
 hv : v < top
 odd : v % 2 = 1
 ex : a * x % M = u % M
 ey : a * y % M = v % M
 g : Nat.gcd u v = Nat.gcd a M
 left : ∃ p q,u < 2 ^ p ∧ v < 2 ^ q ∧ r + 2 * (p + q) + u % 2 ≤ 1025
theorem inv_start {a M : Nat} (ha : a < M) (hM : M < top) (hM1 : 1 < M) (hodd : M % 2 = 1) : Inv a M 0 a M 1 0 :=
 ⟨hM1,by omega,by omega,hM,hodd,by rw [Nat.mul_one],by rw [Nat.mul_zero,Nat.zero_mod,Nat.mod_self],rfl,256,256,by show a < top; omega,hM,by omega⟩
theorem inv_even {a M r u v x y : Nat} (h : Inv a M r u v x y) (hodd : M % 2 = 1) (hu : u % 2 = 0) (h0 : u ≠ 0) : Inv a M (r + 1) (u / 2) v (hf x M) y:=by
 obtain ⟨hx,hy,hut,hvt,odd,ex,ey,g,p,q,hp,hq,hl⟩:=h
 refine ⟨hf_lt hx,hy,by omega,hvt,odd,?_,ey,by rw [gcd_even u v hu odd]; exact g,p - 1,q,?_,hq,?_⟩
 ·
  apply cut_twice hodd
  rw [show 2 * (u / 2) = u by omega,← ex]
  unfold hf
  split
  ·
   rw [Nat.mul_left_comm,show 2 * (x / 2) = x by omega]
  ·
   rw [Nat.mul_left_comm,show 2 * ((x + M) / 2) = x + M by omega,Nat.mul_add,Nat.add_mul_mod_self_right]
 ·
  cases p with
  | zero => simp at hp; omega
  | succ p => rw [Nat.pow_succ] at hp; simp only [Nat.add_sub_cancel]; omega
 ·
  cases p with
  | zero => simp at hp; omega
  | succ p => simp only [Nat.add_sub_cancel]; omega
theorem inv_more {a M r u v x y : Nat} (h : Inv a M r u v x y) (hu : u % 2 = 1) (hle : v ≤ u) : Inv a M (r + 1) (u - v) v ((x + M - y) % M) y:=by
 obtain ⟨hx,hy,hut,hvt,odd,ex,ey,g,p,q,hp,hq,hl⟩:=h
 have hM0 : 0 < M:=by omega
 refine ⟨Nat.mod_lt _ hM0,hy,by omega,hvt,odd,?_,ey,by rw [gcd_less v u hle,Nat.gcd_comm]; exact g,p,q,by omega,hq,by omega⟩
 apply cut_add (C:=v) hM0
 rw [Nat.sub_add_cancel hle,← ex,Nat.add_mod,← ey,← Nat.add_mod,Nat.add_mod,Nat.mul_mod,Nat.mod_mod,← Nat.mul_mod,← Nat.add_mod,← Nat.mul_add,show x + M - y + y = x + M by omega,Nat.mul_add,Nat.add_mul_mod_self_right]
theorem inv_less {a M r u v x y : Nat} (h : Inv a M r u v x y) (hu : u % 2 = 1) (hlt : u < v) : Inv a M (r + 1) (v - u) u ((y + M - x) % M) x:=by
 obtain ⟨hx,hy,hut,hvt,odd,ex,ey,g,p,q,hp,hq,hl⟩:=h
 have h2 : Inv a M r v u y x:=⟨hy,hx,hvt,hut,hu,ey,ex,by rw [Nat.gcd_comm]; exact g,q,p,hq,hp,by omega⟩
 exact inv_more h2 odd (by omega)
structure Fr (w wr : World) (M : Nat) (fu : Nat → Value) (v x y : Nat) : Prop where
 mr : wr.rowIs (w.heap.size + 1) 27 4 (fun j => .int .u64 (wd M j))
 rr : wr.rowIs (w.heap.size + 1 + 1) 27 4 (fun _ => .int .u64 0)
 ur : wr.rowIs (w.heap.size + 1 + 1 + 1) 27 4 fu
 vr : wr.rowIs (w.heap.size + 1 + 1 + 1 + 1) 27 4 (fun j => .int .u64 (wd v j))
 xr : wr.rowIs (w.heap.size + 1 + 1 + 1 + 1 + 1) 27 4 (fun j => .int .u64 (wd x j))
 yr : wr.rowIs (w.heap.size + 1 + 1 + 1 + 1 + 1 + 1) 27 4 (fun j => .int .u64 (wd y j))
 zr : wr.rowIs (w.heap.size + 1 + 1 + 1 + 1 + 1 + 1 + 1) 27 4 (fun _ => .int .u64 0)
 b : Below w.heap.size w wr
theorem Fr.call {w wr : World} {M : Nat} {fu : Nat → Value} {v x y : Nat} {w' : World} (h : Fr w wr M fu v x y) (hb : Below wr.heap.size wr w') : Fr w w' M fu v x y :=
 ⟨zaa h.mr hb h.mr.lt,zaa h.rr hb h.rr.lt,zaa h.ur hb h.ur.lt,zaa h.vr hb h.vr.lt,zaa h.xr hb h.xr.lt,zaa h.yr hb h.yr.lt,zaa h.zr hb h.zr.lt,h.b.trans (hb.mono h.b.size)⟩
theorem Fr.alloc {w wr : World} {M : Nat} {fu : Nat → Value} {v x y : Nat} (h : Fr w wr M fu v x y) (o : Obj) : Fr w (wr.alloc o) M fu v x y :=
 ⟨h.mr.alloc o,h.rr.alloc o,h.ur.alloc o,h.vr.alloc o,h.xr.alloc o,h.yr.alloc o,h.zr.alloc o,h.b.alloc h.b.size o⟩
theorem Fr.putU {w wr : World} {M : Nat} {fu : Nat → Value} {v x y : Nat} (h : Fr w wr M fu v x y) (k : Nat) : Fr w ((((wr.setCell ⟨w.heap.size + 1 + 1 + 1,0,none⟩ (.int .u64 (wd k 0))).setCell ⟨w.heap.size + 1 + 1 + 1,1,none⟩ (.int .u64 (wd k 1))).setCell ⟨w.heap.size + 1 + 1 + 1,2,none⟩ (.int .u64 (wd k 2))).setCell ⟨w.heap.size + 1 + 1 + 1,3,none⟩ (.int .u64 (wd k 3))) M (fun j => .int .u64 (wd k j)) v x y :=
 ⟨zah h.mr (by omega) _ _ _ _,zah h.rr (by omega) _ _ _ _,put4 h.ur (fun j => .int .u64 (wd k j)),zah h.vr (by omega) _ _ _ _,zah h.xr (by omega) _ _ _ _,zah h.yr (by omega) _ _ _ _,zah h.zr (by omega) _ _ _ _,zai h.b (by omega) _ _ _ _⟩
theorem Fr.putV {w wr : World} {M : Nat} {fu : Nat → Value} {v x y : Nat} (h : Fr w wr M fu v x y) (k : Nat) : Fr w ((((wr.setCell ⟨w.heap.size + 1 + 1 + 1 + 1,0,none⟩ (.int .u64 (wd k 0))).setCell ⟨w.heap.size + 1 + 1 + 1 + 1,1,none⟩ (.int .u64 (wd k 1))).setCell ⟨w.heap.size + 1 + 1 + 1 + 1,2,none⟩ (.int .u64 (wd k 2))).setCell ⟨w.heap.size + 1 + 1 + 1 + 1,3,none⟩ (.int .u64 (wd k 3))) M fu k x y :=
 ⟨zah h.mr (by omega) _ _ _ _,zah h.rr (by omega) _ _ _ _,zah h.ur (by omega) _ _ _ _,put4 h.vr (fun j => .int .u64 (wd k j)),zah h.xr (by omega) _ _ _ _,zah h.yr (by omega) _ _ _ _,zah h.zr (by omega) _ _ _ _,zai h.b (by omega) _ _ _ _⟩
theorem Fr.putX {w wr : World} {M : Nat} {fu : Nat → Value} {v x y : Nat} (h : Fr w wr M fu v x y) (k : Nat) : Fr w ((((wr.setCell ⟨w.heap.size + 1 + 1 + 1 + 1 + 1,0,none⟩ (.int .u64 (wd k 0))).setCell ⟨w.heap.size + 1 + 1 + 1 + 1 + 1,1,none⟩ (.int .u64 (wd k 1))).setCell ⟨w.heap.size + 1 + 1 + 1 + 1 + 1,2,none⟩ (.int .u64 (wd k 2))).setCell ⟨w.heap.size + 1 + 1 + 1 + 1 + 1,3,none⟩ (.int .u64 (wd k 3))) M fu v k y :=
 ⟨zah h.mr (by omega) _ _ _ _,zah h.rr (by omega) _ _ _ _,zah h.ur (by omega) _ _ _ _,zah h.vr (by omega) _ _ _ _,put4 h.xr (fun j => .int .u64 (wd k j)),zah h.yr (by omega) _ _ _ _,zah h.zr (by omega) _ _ _ _,zai h.b (by omega) _ _ _ _⟩
theorem Fr.putY {w wr : World} {M : Nat} {fu : Nat → Value} {v x y : Nat} (h : Fr w wr M fu v x y) (k : Nat) : Fr w ((((wr.setCell ⟨w.heap.size + 1 + 1 + 1 + 1 + 1 + 1,0,none⟩ (.int .u64 (wd k 0))).setCell ⟨w.heap.size + 1 + 1 + 1 + 1 + 1 + 1,1,none⟩ (.int .u64 (wd k 1))).setCell ⟨w.heap.size + 1 + 1 + 1 + 1 + 1 + 1,2,none⟩ (.int .u64 (wd k 2))).setCell ⟨w.heap.size + 1 + 1 + 1 + 1 + 1 + 1,3,none⟩ (.int .u64 (wd k 3))) M fu v x k :=
 ⟨zah h.mr (by omega) _ _ _ _,zah h.rr (by omega) _ _ _ _,zah h.ur (by omega) _ _ _ _,zah h.vr (by omega) _ _ _ _,zah h.xr (by omega) _ _ _ _,put4 h.yr (fun j => .int .u64 (wd k j)),zah h.zr (by omega) _ _ _ _,zai h.b (by omega) _ _ _ _⟩
theorem Fr.putT {w wr : World} {M : Nat} {fu : Nat → Value} {v x y : Nat} {g : Nat} (h : Fr w wr M fu v x y) (hg : w.heap.size + 1 + 1 + 1 + 1 + 1 + 1 + 1 < g) (k : Nat) : Fr w ((((wr.setCell ⟨g,0,none⟩ (.int .u64 (wd k 0))).setCell ⟨g,1,none⟩ (.int .u64 (wd k 1))).setCell ⟨g,2,none⟩ (.int .u64 (wd k 2))).setCell ⟨g,3,none⟩ (.int .u64 (wd k 3))) M fu v x y :=
 ⟨zah h.mr (by omega) _ _ _ _,zah h.rr (by omega) _ _ _ _,zah h.ur (by omega) _ _ _ _,zah h.vr (by omega) _ _ _ _,zah h.xr (by omega) _ _ _ _,zah h.yr (by omega) _ _ _ _,zah h.zr (by omega) _ _ _ _,zai h.b (by omega) _ _ _ _⟩
theorem Fr.setU {w wr : World} {M : Nat} {fu : Nat → Value} {v x y : Nat} (h : Fr w wr M fu v x y) (i : Nat) (k : Value) : Fr w (wr.setCell ⟨w.heap.size + 1 + 1 + 1,i,none⟩ k) M (fun j => if j = i then k else fu j) v x y :=
 ⟨zau h.mr (by omega) _,zau h.rr (by omega) _,h.ur.set i k,zau h.vr (by omega) _,zau h.xr (by omega) _,zau h.yr (by omega) _,zau h.zr (by omega) _,zaq h.b (by omega) _⟩
theorem Fr.congrU {w wr : World} {M : Nat} {fu : Nat → Value} {v x y : Nat} {gu : Nat → Value} (h : Fr w wr M fu v x y) (e : ∀ j,j < 4 → fu j = gu j) : Fr w wr M gu v x y:=⟨h.mr,h.rr,h.ur.congr e,h.vr,h.xr,h.yr,h.zr,h.b⟩
theorem neq4 (f g : Nat → Int) (w : World) : (binOp .neq 27 (.agg #[vI vU (f 0),vI vU (f 1),vI vU (f 2),vI vU (f 3)]) (.agg #[vI vU (g 0),vI vU (g 1),vI vU (g 2),vI vU (g 3)])).run Tryz.prog w = .ok (.bool (!((List.range 4).all fun i => f i == g i))) w:=by
 obtain ⟨i,hi⟩ : ∃ i,Tryz.prog.info? 25 = some i:=Option.isSome_iff_exists.1 (by kernel_rfl)
 have hc : Tryz.prog.cellsOf 25 = 1:=by kernel_rfl
 rw [run_neq_struct,run_equalIn_array (P:=Tryz.prog) w 9999 _ _ Tryz.underlying27 hi,hc]
 rw [run_items 9998 _ _ f g w _ (fun j hj => arr4 (fun j => .int .u64 (f j)) j (by simpa using hj)) (fun j hj => arr4 (fun j => .int .u64 (g j)) j (by simpa using hj))]
 rfl
theorem neq_zero {X : Nat} (hX : X < top) (w : World) : (binOp .neq 27 (.agg #[vI vU (wd X 0),vI vU (wd X 1),vI vU (wd X 2),vI vU (wd X 3)]) (.agg #[vI vU 0,vI vU 0,vI vU 0,vI vU 0])).run Tryz.prog w = .ok (.bool (!decide (X = 0))) w:=by
 have h:=neq4 (wd X) (wd 0) w
 rw [all_wd 4 X 0] at h
 have e : (X % w64 ^ 4 = 0 % w64 ^ 4) = (X = 0):=by rw [Nat.mod_eq_of_lt (show X < w64 ^ 4 from hX),Nat.zero_mod]
 rw [decide_eq_decide.2 (iff_of_eq e)] at h
 have e0 : ∀ i,wd 0 i = 0:=by intro i; unfold wd dg; simp
 simpa [e0] using h
theorem eql_one {X : Nat} (hX : X < top) (w : World) : (binOp .eql 27 (.agg #[vI vU (wd X 0),vI vU (wd X 1),vI vU (wd X 2),vI vU (wd X 3)]) (.agg #[vI vU 1,vI vU 0,vI vU 0,vI vU 0])).run Tryz.prog w = .ok (.bool (decide (X = 1))) w:=by
 have h:=zjb hX (show 1 < top by decide) w
 have o0 : wd 1 0 = 1:=by decide
 have o1 : wd 1 1 = 0:=by decide
 have o2 : wd 1 2 = 0:=by decide
 have o3 : wd 1 3 = 0:=by decide
 rw [o0,o1,o2,o3] at h
 exact h
theorem zjy (X M : Nat) (hX : X < M) (hM1 : 1 < M) (hodd : M % 2 = 1) (hM : M < top) (w : World) :
  Calls Tryz.prog 96 #[.agg #[vI vU (wd X 0),vI vU (wd X 1),vI vU (wd X 2),vI vU (wd X 3)],.agg #[vI vU (wd M 0),vI vU (wd M 1),vI vU (wd M 2),vI vU (wd M 3)]] w fun e w' => ∃ y,y < M ∧ (Nat.gcd X M = 1 → X * y % M = 1) ∧ e = .returned (.tuple #[.agg #[vI vU (wd y 0),vI vU (wd y 1),vI vU (wd y 2),vI vU (wd y 3)],.bool (Nat.gcd X M == 1)]) ∧ Below w.heap.size w w':=by
 have hF0 : Fr w ((((((((w.alloc (.cells #[vI vU (wd X 0),vI vU (wd X 1),vI vU (wd X 2),vI vU (wd X 3)] 27)).alloc (.cells #[vI vU (wd M 0),vI vU (wd M 1),vI vU (wd M 2),vI vU (wd M 3)] 27)).alloc (.cells #[vI vU 0,vI vU 0,vI vU 0,vI vU 0] 27)).alloc (.cells #[vI vU (wd X 0),vI vU (wd X 1),vI vU (wd X 2),vI vU (wd X 3)] 27)).alloc (.cells #[vI vU (wd M 0),vI vU (wd M 1),vI vU (wd M 2),vI vU (wd M 3)] 27)).alloc (.cells #[vI vU 1,vI vU 0,vI vU 0,vI vU 0] 27)).alloc (.cells #[vI vU 0,vI vU 0,vI vU 0,vI vU 0] 27)).alloc (.cells #[vI vU 0,vI vU 0,vI vU 0,vI vU 0] 27)) M (fun j => .int .u64 (wd X j)) M 1 0:=⟨(((((((zae (n:=4) (f:=(fun j => .int .u64 (wd M j))) (by simp) rfl (fun i hi => by match i,hi with | 0,_ => rfl | 1,_ => rfl | 2,_ => rfl | 3,_ => rfl)).alloc _).alloc _).alloc _).alloc _).alloc _).alloc _),
  ((((((zae (n:=4) (f:=(fun _ => .int .u64 0)) (by simp) rfl (fun i hi => by match i,hi with | 0,_ => rfl | 1,_ => rfl | 2,_ => rfl | 3,_ => rfl)).alloc _).alloc _).alloc _).alloc _).alloc _),
  (((((zae (n:=4) (f:=(fun j => .int .u64 (wd X j))) (by simp) rfl (fun i hi => by match i,hi with | 0,_ => rfl | 1,_ => rfl | 2,_ => rfl | 3,_ => rfl)).alloc _).alloc _).alloc _).alloc _),
  ((((zae (n:=4) (f:=(fun j => .int .u64 (wd M j))) (by simp) rfl (fun i hi => by match i,hi with | 0,_ => rfl | 1,_ => rfl | 2,_ => rfl | 3,_ => rfl)).alloc _).alloc _).alloc _),
  (((zae (n:=4) (f:=(fun j => .int .u64 (wd 1 j))) (by simp) rfl (fun i hi => by match i,hi with | 0,_ => rfl | 1,_ => rfl | 2,_ => rfl | 3,_ => rfl)).alloc _).alloc _),
  ((zae (n:=4) (f:=(fun j => .int .u64 (wd 0 j))) (by simp) rfl (fun i hi => by match i,hi with | 0,_ => rfl | 1,_ => rfl | 2,_ => rfl | 3,_ => rfl)).alloc _),
  (zae (n:=4) (f:=(fun _ => .int .u64 0)) (by simp) rfl (fun i hi => by match i,hi with | 0,_ => rfl | 1,_ => rfl | 2,_ => rfl | 3,_ => rfl)),
  (((((((((Below.refl _ _).alloc (by simp) _).alloc (by simp) _).alloc (by simp; omega) _).alloc (by simp; omega) _).alloc (by simp; omega) _).alloc (by simp; omega) _).alloc (by simp; omega) _).alloc (by simp; omega) _)⟩
 have hI0:=inv_start hX hM hM1 hodd
 have HM:=veil (And.intro hM1 hodd)
 clear hX hM1 hodd
 go_enter Tryz.func96,Tryz.ntmps96
 go_wp2_with fail
 generalize ((((((((w.alloc (.cells #[vI vU (wd X 0),vI vU (wd X 1),vI vU (wd X 2),vI vU (wd X 3)] 27)).alloc (.cells #[vI vU (wd M 0),vI vU (wd M 1),vI vU (wd M 2),vI vU (wd M 3)] 27)).alloc (.cells #[vI vU 0,vI vU 0,vI vU 0,vI vU 0] 27)).alloc (.cells #[vI vU (wd X 0),vI vU (wd X 1),vI vU (wd X 2),vI vU (wd X 3)] 27)).alloc (.cells #[vI vU (wd M 0),vI vU (wd M 1),vI vU (wd M 2),vI vU (wd M 3)] 27)).alloc (.cells #[vI vU 1,vI vU 0,vI vU 0,vI vU 0] 27)).alloc (.cells #[vI vU 0,vI vU 0,vI vU 0,vI vU 0] 27)).alloc (.cells #[vI vU 0,vI vU 0,vI vU 0,vI vU 0] 27)) = w0 at *
 go_loopw [11] (fun i wr => ∃ r u v x y : Nat,i = .int .i64 (r : Int) ∧ Inv X M r u v x y ∧ Fr w wr M (fun j => .int .u64 (wd u j)) v x y)
  (fun i _ => 1100 - (intOf i).toNat)
 case atStart => exact ⟨0,X,M,1,0,rfl,hI0,hF0⟩
 case round =>
  obtain ⟨r,u,v,x,y,rfl,hI,hF⟩:=hrel
  clear hF0 hI0
  have hr : (r : Int) < 1100:=by obtain ⟨p,q,_,_,h⟩:=hI.left; omega
  obtain ⟨u0,u1,u2,u3⟩:=zac hF.ur
  obtain ⟨z0,z1,z2,z3⟩:=zac hF.zr
  have kz:=fun W => neq_zero hI.hu W
  by_cases hu0 : u = 0
  ·
   rw [show decide (u = 0) = true by simpa using hu0] at kz
   have HU:=veil hu0
   clear hu0
   have hgv : Nat.gcd X M = v:=by rw [← hI.g,HU.out,Nat.gcd_zero_left]
   obtain ⟨bb,hbb⟩ : ∃ bb,bb = decide (v = 1):=⟨_,rfl⟩
   have k1:=fun W => eql_one hI.hv W
   rw [← hbb] at k1
   have HB:=veil hbb
   have HG:=veil hgv
   clear hbb hgv
   go_wp2_with fail
   obtain ⟨y0,y1,y2,y3⟩:=zac hF.yr
   obtain ⟨v0,v1,v2,v3⟩:=zac hF.vr
   obtain ⟨r0,r1,r2,r3⟩:=zac hF.rr
   obtain ⟨f0,f1,f2,f3⟩:=zaf hF.rr
   go_region_held3 (fun w' => w'.cell? ⟨w.heap.size + 1 + 1 + 1 + 1 + 1 + 1,0,none⟩ = some (vI vU (wd y 0)) ∧ w'.cell? ⟨w.heap.size + 1 + 1 + 1 + 1 + 1 + 1,1,none⟩ = some (vI vU (wd y 1)) ∧ w'.cell? ⟨w.heap.size + 1 + 1 + 1 + 1 + 1 + 1,2,none⟩ = some (vI vU (wd y 2)) ∧ w'.cell? ⟨w.heap.size + 1 + 1 + 1 + 1 + 1 + 1,3,none⟩ = some (vI vU (wd y 3)) ∧ w'.cell? ⟨w.heap.size + 1 + 1 + 1 + 1,0,none⟩ = some (vI vU (wd v 0)) ∧ w'.cell? ⟨w.heap.size + 1 + 1 + 1 + 1,1,none⟩ = some (vI vU (wd v 1)) ∧ w'.cell? ⟨w.heap.size + 1 + 1 + 1 + 1,2,none⟩ = some (vI vU (wd v 2)) ∧ w'.cell? ⟨w.heap.size + 1 + 1 + 1 + 1,3,none⟩ = some (vI vU (wd v 3)))
    (go_keep)
    (fail)
   go_wp2
   refine bodyPost_ret (zbt rfl _ _ (w.heap.size + 1 + 1) 27 #[vI vU (wd y 0),vI vU (wd y 1),vI vU (wd y 2),vI vU (wd y 3)] (0,0) 4 25 rfl (blk4 (put4 hF.rr fun j => .int .u64 (wd y j)).drew) Tryz.underlying27 (by kernel_rfl)) rfl ⟨y,hI.hy,?_,?_,(zai hF.b (by omega) _ _ _ _).drew⟩
   ·
    intro hg
    rw [hI.ey,← HG.out,hg,Nat.mod_eq_of_lt HM.out.1]
   ·
    show Ending.returned (.tuple #[.agg #[vI vU (wd y 0),vI vU (wd y 1),vI vU (wd y 2),vI vU (wd y 3)],.bool bb]) = .returned (.tuple #[.agg #[vI vU (wd y 0),vI vU (wd y 1),vI vU (wd y 2),vI vU (wd y 3)],.bool (Nat.gcd X M == 1)])
    rw [HB.out,HG.out]
    rfl
  ·
   rw [show decide (u = 0) = false by simpa using hu0] at kz
   have HU:=veil hu0
   clear hu0
   have hp0:=wd_lo u 0
   by_cases hpar : u % 2 = 0
   ·
    have hp : wd u 0 % 2 = 0:=by rw [wd_par,hpar]; rfl
    have HP:=veil hpar
    clear hpar
    obtain ⟨K,hK⟩ : ∃ K,K = hf x M:=⟨_,rfl⟩
    have h1:=fun W => ghalf_calls x M hI.hx hM W
    rw [← hK] at h1
    have H1:=veil h1
    have HK:=veil hK
    clear h1 hK
    clear u0 u1 u2 u3
    obtain ⟨u0,u1,u2,u3⟩:=zac hF.ur
    obtain ⟨v0,v1,v2,v3⟩:=zac hF.vr
    obtain ⟨x0,x1,x2,x3⟩:=zac hF.xr
    obtain ⟨y0,y1,y2,y3⟩:=zac hF.yr
    obtain ⟨m0,m1,m2,m3⟩:=zac hF.mr
    obtain ⟨fu0,fu1,fu2,fu3⟩:=zaf hF.ur
    obtain ⟨fv0,fv1,fv2,fv3⟩:=zaf hF.vr
    obtain ⟨fx0,fx1,fx2,fx3⟩:=zaf hF.xr
    obtain ⟨fy0,fy1,fy2,fy3⟩:=zaf hF.yr
    go_wp2_with fail
    refine (H1.out _).mono ?_
    rintro e w1 ⟨rfl,hb1⟩
    clear u0 u1 u2 u3 v0 v1 v2 v3 x0 x1 x2 x3 y0 y1 y2 y3 m0 m1 m2 m3 fu0 fu1 fu2 fu3 fv0 fv1 fv2 fv3 fx0 fx1 fx2 fx3 fy0 fy1 fy2 fy3
    clear z0 z1 z2 z3
    replace hF:=hF.call hb1
    clear hb1 kz hp hp0
    obtain ⟨u0,u1,u2,u3⟩:=zac hF.ur
    obtain ⟨v0,v1,v2,v3⟩:=zac hF.vr
    obtain ⟨x0,x1,x2,x3⟩:=zac hF.xr
    obtain ⟨y0,y1,y2,y3⟩:=zac hF.yr
    obtain ⟨m0,m1,m2,m3⟩:=zac hF.mr
    obtain ⟨fu0,fu1,fu2,fu3⟩:=zaf hF.ur
    obtain ⟨fv0,fv1,fv2,fv3⟩:=zaf hF.vr
    obtain ⟨fx0,fx1,fx2,fx3⟩:=zaf hF.xr
    obtain ⟨fy0,fy1,fy2,fy3⟩:=zaf hF.yr
    go_upto_region 11 with (fail)
    clear u0 u1 u2 u3 v0 v1 v2 v3 x0 x1 x2 x3 y0 y1 y2 y3 m0 m1 m2 m3 fu0 fu1 fu2 fu3 fv0 fv1 fv2 fv3 fx0 fx1 fx2 fx3 fy0 fy1 fy2 fy3
    replace hF:=hF.putX K
    generalize (((w1.setCell ⟨w.heap.size + 1 + 1 + 1 + 1 + 1,0,none⟩ (.int .u64 (wd K 0))).setCell ⟨w.heap.size + 1 + 1 + 1 + 1 + 1,1,none⟩ (.int .u64 (wd K 1))).setCell ⟨w.heap.size + 1 + 1 + 1 + 1 + 1,2,none⟩ (.int .u64 (wd K 2))).setCell ⟨w.heap.size + 1 + 1 + 1 + 1 + 1,3,none⟩ (.int .u64 (wd K 3)) = v1 at *
    go_wp2_with fail
    go_loopw [12] (fun i wr => ∃ k : Nat,k ≤ 4 ∧ i = .int .i64 (k : Int) ∧ Fr w wr M (fun j => .int .u64 (if j < k then wd (u / 2) j else wd u j)) v K y)
     (fun i _ => 4 - (intOf i).toNat)
    case atStart => exact ⟨0,by omega,rfl,hF.congrU (fun j _ => by simp)⟩
    case round =>
     obtain ⟨k,hk,rfl,hF⟩:=hrel
     by_cases hlt : k < 4
     ·
      have c1:=hF.ur.cell hlt
      rw [if_neg (by omega)] at c1
      have f1:=hF.ur.frozen k
      have l1:=wd_lo u k
      have u1:=wd_le u k
      by_cases h3 : k < 3
      ·
       have c2:=hF.ur.cell (show k + 1 < 4 by omega)
       rw [if_neg (by omega)] at c2
       have h3i : (k : Int) < 3:=by omega
       have l2:=wd_lo u (k + 1)
       by_cases hb : wd u (k + 1) % 2 = 1
       ·
        have HC:=veil (zgf u k hb)
        go_wp2
        go_roundw
        case rel =>
         rw [HC.out]
         exact ⟨k + 1,by omega,by go_num,((hF.setU k _).setU k _).congrU (zkm hlt)⟩
        case measure => simp [intOf]; omega
       ·
        have hb0 : wd u (k + 1) % 2 = 0:=by omega
        have HC:=veil (zec u k hb0)
        clear hb
        go_wp2
        go_roundw
        case rel =>
         rw [HC.out]
         exact ⟨k + 1,by omega,by go_num,(hF.setU k _).congrU (zev hlt)⟩
        case measure => simp [intOf]; omega
      ·
       obtain rfl : k = 3:=by omega
       have HC:=veil (zge u hI.hu)
       go_wp2
       go_roundw
       case rel =>
        rw [HC.out]
        exact ⟨4,by omega,by go_num,(hF.setU 3 _).congrU (zev (by omega))⟩
       case measure => simp [intOf]
     ·
      obtain rfl : k = 4:=by omega
      go_wp2
      go_roundw
      case rel => exact ⟨r + 1,u / 2,v,K,y,by go_num,by rw [HK.out]; exact inv_even hI HM.out.2 HP.out HU.out,hF.congrU (fun j hj => by rw [if_pos hj])⟩
      case measure => simp [intOf]; omega
   ·
    have hp : wd u 0 % 2 = 1:=by rw [wd_par,show u % 2 = 1 by omega]; rfl
    have HP:=veil (show u % 2 = 1 by omega)
    clear hpar
    clear u0 u1 u2 u3
    by_cases hlt : u < v
    ·
     have hD : (v + top - u) % top = v - u:=by
      have:=hI.hu; have:=hI.hv
      rw [show v + top - u = (v - u) + top by omega,Nat.add_mod_right,Nat.mod_eq_of_lt (by omega)]
     obtain ⟨D,hDD⟩ : ∃ D,D = v - u:=⟨_,rfl⟩
     rw [← hDD] at hD
     have H2:=veil (fun W => zgw v u D hD hI.hv hI.hu W)
     obtain ⟨K,hK⟩ : ∃ K,K = (y + M - x) % M:=⟨_,rfl⟩
     have h3:=fun W => zjx y x M hI.hy hI.hx hM W
     rw [← hK] at h3
     have H3:=veil h3
     have H1:=veil (fun W => zgh u v true (by simpa using hlt) hI.hu hI.hv W)
     have HN:=veil (inv_less hI HP.out hlt)
     rw [← hDD,← hK] at HN
     clear hD hDD hK h3 hlt
     obtain ⟨u0,u1,u2,u3⟩:=zac hF.ur
     obtain ⟨v0,v1,v2,v3⟩:=zac hF.vr
     obtain ⟨x0,x1,x2,x3⟩:=zac hF.xr
     obtain ⟨y0,y1,y2,y3⟩:=zac hF.yr
     obtain ⟨m0,m1,m2,m3⟩:=zac hF.mr
     obtain ⟨fu0,fu1,fu2,fu3⟩:=zaf hF.ur
     obtain ⟨fv0,fv1,fv2,fv3⟩:=zaf hF.vr
     obtain ⟨fx0,fx1,fx2,fx3⟩:=zaf hF.xr
     obtain ⟨fy0,fy1,fy2,fy3⟩:=zaf hF.yr
     go_wp2_with fail
     refine (H1.out _).mono ?_
     rintro e w1 ⟨rfl,hb1⟩
     clear u0 u1 u2 u3 v0 v1 v2 v3 x0 x1 x2 x3 y0 y1 y2 y3 m0 m1 m2 m3 fu0 fu1 fu2 fu3 fv0 fv1 fv2 fv3 fx0 fx1 fx2 fx3 fy0 fy1 fy2 fy3
     clear z0 z1 z2 z3
     replace hF:=hF.call hb1
     clear hb1 kz hp hp0
     obtain ⟨u0,u1,u2,u3⟩:=zac hF.ur
     obtain ⟨v0,v1,v2,v3⟩:=zac hF.vr
     obtain ⟨x0,x1,x2,x3⟩:=zac hF.xr
     obtain ⟨y0,y1,y2,y3⟩:=zac hF.yr
     obtain ⟨m0,m1,m2,m3⟩:=zac hF.mr
     obtain ⟨fu0,fu1,fu2,fu3⟩:=zaf hF.ur
     obtain ⟨fv0,fv1,fv2,fv3⟩:=zaf hF.vr
     obtain ⟨fx0,fx1,fx2,fx3⟩:=zaf hF.xr
     obtain ⟨fy0,fy1,fy2,fy3⟩:=zaf hF.yr
     go_upto_region 18 with (fail)
     go_upto_region 19 with (fail)
     clear u0 u1 u2 u3 v0 v1 v2 v3 x0 x1 x2 x3 y0 y1 y2 y3 m0 m1 m2 m3 fu0 fu1 fu2 fu3 fv0 fv1 fv2 fv3 fx0 fx1 fx2 fx3 fy0 fy1 fy2 fy3
     have hg:=hF.zr.lt
     have hT : (w1.alloc (.cells #[vI vU (wd u 0),vI vU (wd u 1),vI vU (wd u 2),vI vU (wd u 3)] 27)).rowIs w1.heap.size 27 4 (fun j => .int .u64 (wd u j)):=zae (n:=4) rfl rfl (arr4 fun j => .int .u64 (wd u j))
     replace hF:=hF.alloc (.cells #[vI vU (wd u 0),vI vU (wd u 1),vI vU (wd u 2),vI vU (wd u 3)] 27)
     generalize w1.heap.size = g at *
     generalize w1.alloc (.cells #[vI vU (wd u 0),vI vU (wd u 1),vI vU (wd u 2),vI vU (wd u 3)] 27) = v1 at *
     obtain ⟨u0,u1,u2,u3⟩:=zac hF.ur
     obtain ⟨v0,v1,v2,v3⟩:=zac hF.vr
     obtain ⟨x0,x1,x2,x3⟩:=zac hF.xr
     obtain ⟨y0,y1,y2,y3⟩:=zac hF.yr
     obtain ⟨m0,m1,m2,m3⟩:=zac hF.mr
     obtain ⟨fu0,fu1,fu2,fu3⟩:=zaf hF.ur
     obtain ⟨fv0,fv1,fv2,fv3⟩:=zaf hF.vr
     obtain ⟨fx0,fx1,fx2,fx3⟩:=zaf hF.xr
     obtain ⟨fy0,fy1,fy2,fy3⟩:=zaf hF.yr
     obtain ⟨t0,t1,t2,t3⟩:=zac hT
     obtain ⟨ft0,ft1,ft2,ft3⟩:=zaf hT
     go_upto_region 20 with (fail)
     clear u0 u1 u2 u3 v0 v1 v2 v3 x0 x1 x2 x3 y0 y1 y2 y3 m0 m1 m2 m3 fu0 fu1 fu2 fu3 fv0 fv1 fv2 fv3 fx0 fx1 fx2 fx3 fy0 fy1 fy2 fy3 t0 t1 t2 t3 ft0 ft1 ft2 ft3
     replace hF:=hF.putU v
     replace hT:=zah hT (b':=w.heap.size + 1 + 1 + 1) (by omega) (.int .u64 (wd v 0)) (.int .u64 (wd v 1)) (.int .u64 (wd v 2)) (.int .u64 (wd v 3))
     generalize (((v1.setCell ⟨w.heap.size + 1 + 1 + 1,0,none⟩ (.int .u64 (wd v 0))).setCell ⟨w.heap.size + 1 + 1 + 1,1,none⟩ (.int .u64 (wd v 1))).setCell ⟨w.heap.size + 1 + 1 + 1,2,none⟩ (.int .u64 (wd v 2))).setCell ⟨w.heap.size + 1 + 1 + 1,3,none⟩ (.int .u64 (wd v 3)) = v2 at *
     obtain ⟨u0,u1,u2,u3⟩:=zac hF.ur
     obtain ⟨v0,v1,v2,v3⟩:=zac hF.vr
     obtain ⟨x0,x1,x2,x3⟩:=zac hF.xr
     obtain ⟨y0,y1,y2,y3⟩:=zac hF.yr
     obtain ⟨m0,m1,m2,m3⟩:=zac hF.mr
     obtain ⟨fu0,fu1,fu2,fu3⟩:=zaf hF.ur
     obtain ⟨fv0,fv1,fv2,fv3⟩:=zaf hF.vr
     obtain ⟨fx0,fx1,fx2,fx3⟩:=zaf hF.xr
     obtain ⟨fy0,fy1,fy2,fy3⟩:=zaf hF.yr
     obtain ⟨t0,t1,t2,t3⟩:=zac hT
     obtain ⟨ft0,ft1,ft2,ft3⟩:=zaf hT
     go_upto_region 21 with (fail)
     clear u0 u1 u2 u3 v0 v1 v2 v3 x0 x1 x2 x3 y0 y1 y2 y3 m0 m1 m2 m3 fu0 fu1 fu2 fu3 fv0 fv1 fv2 fv3 fx0 fx1 fx2 fx3 fy0 fy1 fy2 fy3 t0 t1 t2 t3 ft0 ft1 ft2 ft3
     replace hF:=hF.putV u
     replace hT:=zah hT (b':=w.heap.size + 1 + 1 + 1 + 1) (by omega) (.int .u64 (wd u 0)) (.int .u64 (wd u 1)) (.int .u64 (wd u 2)) (.int .u64 (wd u 3))
     generalize (((v2.setCell ⟨w.heap.size + 1 + 1 + 1 + 1,0,none⟩ (.int .u64 (wd u 0))).setCell ⟨w.heap.size + 1 + 1 + 1 + 1,1,none⟩ (.int .u64 (wd u 1))).setCell ⟨w.heap.size + 1 + 1 + 1 + 1,2,none⟩ (.int .u64 (wd u 2))).setCell ⟨w.heap.size + 1 + 1 + 1 + 1,3,none⟩ (.int .u64 (wd u 3)) = v3 at *
     obtain ⟨u0,u1,u2,u3⟩:=zac hF.ur
     obtain ⟨v0,v1,v2,v3⟩:=zac hF.vr
     obtain ⟨x0,x1,x2,x3⟩:=zac hF.xr
     obtain ⟨y0,y1,y2,y3⟩:=zac hF.yr
     obtain ⟨m0,m1,m2,m3⟩:=zac hF.mr
     obtain ⟨fu0,fu1,fu2,fu3⟩:=zaf hF.ur
     obtain ⟨fv0,fv1,fv2,fv3⟩:=zaf hF.vr
     obtain ⟨fx0,fx1,fx2,fx3⟩:=zaf hF.xr
     obtain ⟨fy0,fy1,fy2,fy3⟩:=zaf hF.yr
     obtain ⟨t0,t1,t2,t3⟩:=zac hT
     obtain ⟨ft0,ft1,ft2,ft3⟩:=zaf hT
     go_upto_region 22 with (fail)
     clear u0 u1 u2 u3 v0 v1 v2 v3 x0 x1 x2 x3 y0 y1 y2 y3 m0 m1 m2 m3 fu0 fu1 fu2 fu3 fv0 fv1 fv2 fv3 fx0 fx1 fx2 fx3 fy0 fy1 fy2 fy3 t0 t1 t2 t3 ft0 ft1 ft2 ft3
     replace hT:=put4 hT (fun j => .int .u64 (wd x j))
     replace hF:=hF.putT hg x
     generalize (((v3.setCell ⟨g,0,none⟩ (.int .u64 (wd x 0))).setCell ⟨g,1,none⟩ (.int .u64 (wd x 1))).setCell ⟨g,2,none⟩ (.int .u64 (wd x 2))).setCell ⟨g,3,none⟩ (.int .u64 (wd x 3)) = v4 at *
     obtain ⟨u0,u1,u2,u3⟩:=zac hF.ur
     obtain ⟨v0,v1,v2,v3⟩:=zac hF.vr
     obtain ⟨x0,x1,x2,x3⟩:=zac hF.xr
     obtain ⟨y0,y1,y2,y3⟩:=zac hF.yr
     obtain ⟨m0,m1,m2,m3⟩:=zac hF.mr
     obtain ⟨fu0,fu1,fu2,fu3⟩:=zaf hF.ur
     obtain ⟨fv0,fv1,fv2,fv3⟩:=zaf hF.vr
     obtain ⟨fx0,fx1,fx2,fx3⟩:=zaf hF.xr
     obtain ⟨fy0,fy1,fy2,fy3⟩:=zaf hF.yr
     obtain ⟨t0,t1,t2,t3⟩:=zac hT
     obtain ⟨ft0,ft1,ft2,ft3⟩:=zaf hT
     go_upto_region 23 with (fail)
     clear u0 u1 u2 u3 v0 v1 v2 v3 x0 x1 x2 x3 y0 y1 y2 y3 m0 m1 m2 m3 fu0 fu1 fu2 fu3 fv0 fv1 fv2 fv3 fx0 fx1 fx2 fx3 fy0 fy1 fy2 fy3 t0 t1 t2 t3 ft0 ft1 ft2 ft3
     replace hF:=hF.putX y
     replace hT:=zah hT (b':=w.heap.size + 1 + 1 + 1 + 1 + 1) (by omega) (.int .u64 (wd y 0)) (.int .u64 (wd y 1)) (.int .u64 (wd y 2)) (.int .u64 (wd y 3))
     generalize (((v4.setCell ⟨w.heap.size + 1 + 1 + 1 + 1 + 1,0,none⟩ (.int .u64 (wd y 0))).setCell ⟨w.heap.size + 1 + 1 + 1 + 1 + 1,1,none⟩ (.int .u64 (wd y 1))).setCell ⟨w.heap.size + 1 + 1 + 1 + 1 + 1,2,none⟩ (.int .u64 (wd y 2))).setCell ⟨w.heap.size + 1 + 1 + 1 + 1 + 1,3,none⟩ (.int .u64 (wd y 3)) = v5 at *
     obtain ⟨u0,u1,u2,u3⟩:=zac hF.ur
     obtain ⟨v0,v1,v2,v3⟩:=zac hF.vr
     obtain ⟨x0,x1,x2,x3⟩:=zac hF.xr
     obtain ⟨y0,y1,y2,y3⟩:=zac hF.yr
     obtain ⟨m0,m1,m2,m3⟩:=zac hF.mr
     obtain ⟨fu0,fu1,fu2,fu3⟩:=zaf hF.ur
     obtain ⟨fv0,fv1,fv2,fv3⟩:=zaf hF.vr
     obtain ⟨fx0,fx1,fx2,fx3⟩:=zaf hF.xr
     obtain ⟨fy0,fy1,fy2,fy3⟩:=zaf hF.yr
     obtain ⟨t0,t1,t2,t3⟩:=zac hT
     obtain ⟨ft0,ft1,ft2,ft3⟩:=zaf hT
     go_upto_region 24 with (fail)
     clear u0 u1 u2 u3 v0 v1 v2 v3 x0 x1 x2 x3 y0 y1 y2 y3 m0 m1 m2 m3 fu0 fu1 fu2 fu3 fv0 fv1 fv2 fv3 fx0 fx1 fx2 fx3 fy0 fy1 fy2 fy3 t0 t1 t2 t3 ft0 ft1 ft2 ft3
     replace hF:=hF.putY x
     replace hT:=zah hT (b':=w.heap.size + 1 + 1 + 1 + 1 + 1 + 1) (by omega) (.int .u64 (wd x 0)) (.int .u64 (wd x 1)) (.int .u64 (wd x 2)) (.int .u64 (wd x 3))
     generalize (((v5.setCell ⟨w.heap.size + 1 + 1 + 1 + 1 + 1 + 1,0,none⟩ (.int .u64 (wd x 0))).setCell ⟨w.heap.size + 1 + 1 + 1 + 1 + 1 + 1,1,none⟩ (.int .u64 (wd x 1))).setCell ⟨w.heap.size + 1 + 1 + 1 + 1 + 1 + 1,2,none⟩ (.int .u64 (wd x 2))).setCell ⟨w.heap.size + 1 + 1 + 1 + 1 + 1 + 1,3,none⟩ (.int .u64 (wd x 3)) = v6 at *
     clear hT hg
     obtain ⟨u0,u1,u2,u3⟩:=zac hF.ur
     obtain ⟨v0,v1,v2,v3⟩:=zac hF.vr
     obtain ⟨x0,x1,x2,x3⟩:=zac hF.xr
     obtain ⟨y0,y1,y2,y3⟩:=zac hF.yr
     obtain ⟨m0,m1,m2,m3⟩:=zac hF.mr
     obtain ⟨fu0,fu1,fu2,fu3⟩:=zaf hF.ur
     obtain ⟨fv0,fv1,fv2,fv3⟩:=zaf hF.vr
     obtain ⟨fx0,fx1,fx2,fx3⟩:=zaf hF.xr
     obtain ⟨fy0,fy1,fy2,fy3⟩:=zaf hF.yr
     go_wp2_with fail
     refine (H2.out _).mono ?_
     rintro e w2 ⟨rfl,hb2⟩
     clear u0 u1 u2 u3 v0 v1 v2 v3 x0 x1 x2 x3 y0 y1 y2 y3 m0 m1 m2 m3 fu0 fu1 fu2 fu3 fv0 fv1 fv2 fv3 fx0 fx1 fx2 fx3 fy0 fy1 fy2 fy3
     replace hF:=hF.call hb2
     clear hb2
     obtain ⟨u0,u1,u2,u3⟩:=zac hF.ur
     obtain ⟨v0,v1,v2,v3⟩:=zac hF.vr
     obtain ⟨x0,x1,x2,x3⟩:=zac hF.xr
     obtain ⟨y0,y1,y2,y3⟩:=zac hF.yr
     obtain ⟨m0,m1,m2,m3⟩:=zac hF.mr
     obtain ⟨fu0,fu1,fu2,fu3⟩:=zaf hF.ur
     obtain ⟨fv0,fv1,fv2,fv3⟩:=zaf hF.vr
     obtain ⟨fx0,fx1,fx2,fx3⟩:=zaf hF.xr
     obtain ⟨fy0,fy1,fy2,fy3⟩:=zaf hF.yr
     go_upto_region 25 with (fail)
     clear u0 u1 u2 u3 v0 v1 v2 v3 x0 x1 x2 x3 y0 y1 y2 y3 m0 m1 m2 m3 fu0 fu1 fu2 fu3 fv0 fv1 fv2 fv3 fx0 fx1 fx2 fx3 fy0 fy1 fy2 fy3
     replace hF:=hF.putU D
     generalize (((w2.setCell ⟨w.heap.size + 1 + 1 + 1,0,none⟩ (.int .u64 (wd D 0))).setCell ⟨w.heap.size + 1 + 1 + 1,1,none⟩ (.int .u64 (wd D 1))).setCell ⟨w.heap.size + 1 + 1 + 1,2,none⟩ (.int .u64 (wd D 2))).setCell ⟨w.heap.size + 1 + 1 + 1,3,none⟩ (.int .u64 (wd D 3)) = v7 at *
     obtain ⟨u0,u1,u2,u3⟩:=zac hF.ur
     obtain ⟨v0,v1,v2,v3⟩:=zac hF.vr
     obtain ⟨x0,x1,x2,x3⟩:=zac hF.xr
     obtain ⟨y0,y1,y2,y3⟩:=zac hF.yr
     obtain ⟨m0,m1,m2,m3⟩:=zac hF.mr
     obtain ⟨fu0,fu1,fu2,fu3⟩:=zaf hF.ur
     obtain ⟨fv0,fv1,fv2,fv3⟩:=zaf hF.vr
     obtain ⟨fx0,fx1,fx2,fx3⟩:=zaf hF.xr
     obtain ⟨fy0,fy1,fy2,fy3⟩:=zaf hF.yr
     go_wp2_with fail
     refine (H3.out _).mono ?_
     rintro e w3 ⟨rfl,hb3⟩
     clear u0 u1 u2 u3 v0 v1 v2 v3 x0 x1 x2 x3 y0 y1 y2 y3 m0 m1 m2 m3 fu0 fu1 fu2 fu3 fv0 fv1 fv2 fv3 fx0 fx1 fx2 fx3 fy0 fy1 fy2 fy3
     replace hF:=hF.call hb3
     clear hb3
     obtain ⟨u0,u1,u2,u3⟩:=zac hF.ur
     obtain ⟨v0,v1,v2,v3⟩:=zac hF.vr
     obtain ⟨x0,x1,x2,x3⟩:=zac hF.xr
     obtain ⟨y0,y1,y2,y3⟩:=zac hF.yr
     obtain ⟨m0,m1,m2,m3⟩:=zac hF.mr
     obtain ⟨fu0,fu1,fu2,fu3⟩:=zaf hF.ur
     obtain ⟨fv0,fv1,fv2,fv3⟩:=zaf hF.vr
     obtain ⟨fx0,fx1,fx2,fx3⟩:=zaf hF.xr
     obtain ⟨fy0,fy1,fy2,fy3⟩:=zaf hF.yr
     go_upto_region 8 with (fail)
     clear u0 u1 u2 u3 v0 v1 v2 v3 x0 x1 x2 x3 y0 y1 y2 y3 m0 m1 m2 m3 fu0 fu1 fu2 fu3 fv0 fv1 fv2 fv3 fx0 fx1 fx2 fx3 fy0 fy1 fy2 fy3
     replace hF:=hF.putX K
     generalize (((w3.setCell ⟨w.heap.size + 1 + 1 + 1 + 1 + 1,0,none⟩ (.int .u64 (wd K 0))).setCell ⟨w.heap.size + 1 + 1 + 1 + 1 + 1,1,none⟩ (.int .u64 (wd K 1))).setCell ⟨w.heap.size + 1 + 1 + 1 + 1 + 1,2,none⟩ (.int .u64 (wd K 2))).setCell ⟨w.heap.size + 1 + 1 + 1 + 1 + 1,3,none⟩ (.int .u64 (wd K 3)) = v8 at *
     go_wp2
     go_roundw
     case rel => exact ⟨r + 1,D,u,K,x,by go_num,HN.out,hF⟩
     case measure => simp [intOf]; omega
    ·
     have hD : (u + top - v) % top = u - v:=by
      have:=hI.hu; have:=hI.hv
      rw [show u + top - v = (u - v) + top by omega,Nat.add_mod_right,Nat.mod_eq_of_lt (by omega)]
     obtain ⟨D,hDD⟩ : ∃ D,D = u - v:=⟨_,rfl⟩
     rw [← hDD] at hD
     have H2:=veil (fun W => zgw u v D hD hI.hu hI.hv W)
     obtain ⟨K,hK⟩ : ∃ K,K = (x + M - y) % M:=⟨_,rfl⟩
     have h3:=fun W => zjx x y M hI.hx hI.hy hM W
     rw [← hK] at h3
     have H3:=veil h3
     have H1:=veil (fun W => zgh u v false (by simpa using hlt) hI.hu hI.hv W)
     have HN:=veil (inv_more hI HP.out (by omega))
     rw [← hDD,← hK] at HN
     clear hD hDD hK h3 hlt
     obtain ⟨u0,u1,u2,u3⟩:=zac hF.ur
     obtain ⟨v0,v1,v2,v3⟩:=zac hF.vr
     obtain ⟨x0,x1,x2,x3⟩:=zac hF.xr
     obtain ⟨y0,y1,y2,y3⟩:=zac hF.yr
     obtain ⟨m0,m1,m2,m3⟩:=zac hF.mr
     obtain ⟨fu0,fu1,fu2,fu3⟩:=zaf hF.ur
     obtain ⟨fv0,fv1,fv2,fv3⟩:=zaf hF.vr
     obtain ⟨fx0,fx1,fx2,fx3⟩:=zaf hF.xr
     obtain ⟨fy0,fy1,fy2,fy3⟩:=zaf hF.yr
     go_wp2_with fail
     refine (H1.out _).mono ?_
     rintro e w1 ⟨rfl,hb1⟩
     clear u0 u1 u2 u3 v0 v1 v2 v3 x0 x1 x2 x3 y0 y1 y2 y3 m0 m1 m2 m3 fu0 fu1 fu2 fu3 fv0 fv1 fv2 fv3 fx0 fx1 fx2 fx3 fy0 fy1 fy2 fy3
     clear z0 z1 z2 z3
     replace hF:=hF.call hb1
     clear hb1 kz hp hp0
     obtain ⟨u0,u1,u2,u3⟩:=zac hF.ur
     obtain ⟨v0,v1,v2,v3⟩:=zac hF.vr
     obtain ⟨x0,x1,x2,x3⟩:=zac hF.xr
     obtain ⟨y0,y1,y2,y3⟩:=zac hF.yr
     obtain ⟨m0,m1,m2,m3⟩:=zac hF.mr
     obtain ⟨fu0,fu1,fu2,fu3⟩:=zaf hF.ur
     obtain ⟨fv0,fv1,fv2,fv3⟩:=zaf hF.vr
     obtain ⟨fx0,fx1,fx2,fx3⟩:=zaf hF.xr
     obtain ⟨fy0,fy1,fy2,fy3⟩:=zaf hF.yr
     go_wp2_with fail
     refine (H2.out _).mono ?_
     rintro e w2 ⟨rfl,hb2⟩
     clear u0 u1 u2 u3 v0 v1 v2 v3 x0 x1 x2 x3 y0 y1 y2 y3 m0 m1 m2 m3 fu0 fu1 fu2 fu3 fv0 fv1 fv2 fv3 fx0 fx1 fx2 fx3 fy0 fy1 fy2 fy3
     replace hF:=hF.call hb2
     clear hb2
     obtain ⟨u0,u1,u2,u3⟩:=zac hF.ur
     obtain ⟨v0,v1,v2,v3⟩:=zac hF.vr
     obtain ⟨x0,x1,x2,x3⟩:=zac hF.xr
     obtain ⟨y0,y1,y2,y3⟩:=zac hF.yr
     obtain ⟨m0,m1,m2,m3⟩:=zac hF.mr
     obtain ⟨fu0,fu1,fu2,fu3⟩:=zaf hF.ur
     obtain ⟨fv0,fv1,fv2,fv3⟩:=zaf hF.vr
     obtain ⟨fx0,fx1,fx2,fx3⟩:=zaf hF.xr
     obtain ⟨fy0,fy1,fy2,fy3⟩:=zaf hF.yr
     go_upto_region 25 with (fail)
     clear u0 u1 u2 u3 v0 v1 v2 v3 x0 x1 x2 x3 y0 y1 y2 y3 m0 m1 m2 m3 fu0 fu1 fu2 fu3 fv0 fv1 fv2 fv3 fx0 fx1 fx2 fx3 fy0 fy1 fy2 fy3
     replace hF:=hF.putU D
     generalize (((w2.setCell ⟨w.heap.size + 1 + 1 + 1,0,none⟩ (.int .u64 (wd D 0))).setCell ⟨w.heap.size + 1 + 1 + 1,1,none⟩ (.int .u64 (wd D 1))).setCell ⟨w.heap.size + 1 + 1 + 1,2,none⟩ (.int .u64 (wd D 2))).setCell ⟨w.heap.size + 1 + 1 + 1,3,none⟩ (.int .u64 (wd D 3)) = v2 at *
     obtain ⟨u0,u1,u2,u3⟩:=zac hF.ur
     obtain ⟨v0,v1,v2,v3⟩:=zac hF.vr
     obtain ⟨x0,x1,x2,x3⟩:=zac hF.xr
     obtain ⟨y0,y1,y2,y3⟩:=zac hF.yr
     obtain ⟨m0,m1,m2,m3⟩:=zac hF.mr
     obtain ⟨fu0,fu1,fu2,fu3⟩:=zaf hF.ur
     obtain ⟨fv0,fv1,fv2,fv3⟩:=zaf hF.vr
     obtain ⟨fx0,fx1,fx2,fx3⟩:=zaf hF.xr
     obtain ⟨fy0,fy1,fy2,fy3⟩:=zaf hF.yr
     go_wp2_with fail
     refine (H3.out _).mono ?_
     rintro e w3 ⟨rfl,hb3⟩
     clear u0 u1 u2 u3 v0 v1 v2 v3 x0 x1 x2 x3 y0 y1 y2 y3 m0 m1 m2 m3 fu0 fu1 fu2 fu3 fv0 fv1 fv2 fv3 fx0 fx1 fx2 fx3 fy0 fy1 fy2 fy3
     replace hF:=hF.call hb3
     clear hb3
     obtain ⟨u0,u1,u2,u3⟩:=zac hF.ur
     obtain ⟨v0,v1,v2,v3⟩:=zac hF.vr
     obtain ⟨x0,x1,x2,x3⟩:=zac hF.xr
     obtain ⟨y0,y1,y2,y3⟩:=zac hF.yr
     obtain ⟨m0,m1,m2,m3⟩:=zac hF.mr
     obtain ⟨fu0,fu1,fu2,fu3⟩:=zaf hF.ur
     obtain ⟨fv0,fv1,fv2,fv3⟩:=zaf hF.vr
     obtain ⟨fx0,fx1,fx2,fx3⟩:=zaf hF.xr
     obtain ⟨fy0,fy1,fy2,fy3⟩:=zaf hF.yr
     go_upto_region 8 with (fail)
     clear u0 u1 u2 u3 v0 v1 v2 v3 x0 x1 x2 x3 y0 y1 y2 y3 m0 m1 m2 m3 fu0 fu1 fu2 fu3 fv0 fv1 fv2 fv3 fx0 fx1 fx2 fx3 fy0 fy1 fy2 fy3
     replace hF:=hF.putX K
     generalize (((w3.setCell ⟨w.heap.size + 1 + 1 + 1 + 1 + 1,0,none⟩ (.int .u64 (wd K 0))).setCell ⟨w.heap.size + 1 + 1 + 1 + 1 + 1,1,none⟩ (.int .u64 (wd K 1))).setCell ⟨w.heap.size + 1 + 1 + 1 + 1 + 1,2,none⟩ (.int .u64 (wd K 2))).setCell ⟨w.heap.size + 1 + 1 + 1 + 1 + 1,3,none⟩ (.int .u64 (wd K 3)) = v3 at *
     go_wp2
     go_roundw
     case rel => exact ⟨r + 1,D,v,K,y,by go_num,HN.out,hF⟩
     case measure => simp [intOf]; omega
def x3 (U T X1 X2 : Nat) : Nat:=((U * T % Pt.pp * (U * T % Pt.pp) % Pt.pp + Pt.pp - X1) % Pt.pp + Pt.pp - X2) % Pt.pp
def y3 (U T X1 Y1 X2 : Nat) : Nat:=(U * T % Pt.pp * ((X1 + Pt.pp - x3 U T X1 X2) % Pt.pp) % Pt.pp + Pt.pp - Y1) % Pt.pp
theorem pp_one : 1 < Pt.pp:=by decide +kernel
theorem pp_odd : Pt.pp % 2 = 1:=by decide +kernel
theorem radd_else (X1 Y1 X2 Y2 U Dn : Nat) (hX1 : X1 < Pt.pp) (hY1 : Y1 < Pt.pp) (hX2 : X2 < Pt.pp) (hY2 : Y2 < Pt.pp) (hn : ¬ (X1 = X2 ∧ Y1 = (0 + Pt.pp - Y2) % Pt.pp)) (hs : ¬ (X1 = X2 ∧ Y1 = Y2)) (hU : U = (Y2 + Pt.pp - Y1) % Pt.pp) (hD : Dn = (X2 + Pt.pp - X1) % Pt.pp) (w : World) :
  Calls Tryz.prog 102 #[.agg #[vI vU (wd X1 0),vI vU (wd X1 1),vI vU (wd X1 2),vI vU (wd X1 3),vI vU (wd Y1 0),vI vU (wd Y1 1),vI vU (wd Y1 2),vI vU (wd Y1 3),.bool (false)],.agg #[vI vU (wd X2 0),vI vU (wd X2 1),vI vU (wd X2 2),vI vU (wd X2 3),vI vU (wd Y2 0),vI vU (wd Y2 1),vI vU (wd Y2 2),vI vU (wd Y2 3),.bool (false)]] w fun e w' => ∃ T,T < Pt.pp ∧ (Nat.gcd Dn Pt.pp = 1 → Dn * T % Pt.pp = 1) ∧ e = .returned (.agg #[vI vU (wd (x3 U T X1 X2) 0),vI vU (wd (x3 U T X1 X2) 1),vI vU (wd (x3 U T X1 X2) 2),vI vU (wd (x3 U T X1 X2) 3),vI vU (wd (y3 U T X1 Y1 X2) 0),vI vU (wd (y3 U T X1 Y1 X2) 1),vI vU (wd (y3 U T X1 Y1 X2) 2),vI vU (wd (y3 U T X1 Y1 X2) 3),.bool (false)]) ∧ Below w.heap.size w w':=by
 have hA : (((w.alloc (.cells #[vI vU (wd X1 0),vI vU (wd X1 1),vI vU (wd X1 2),vI vU (wd X1 3),vI vU (wd Y1 0),vI vU (wd Y1 1),vI vU (wd Y1 2),vI vU (wd Y1 3),.bool (false)] 29)).alloc (.cells #[vI vU (wd X2 0),vI vU (wd X2 1),vI vU (wd X2 2),vI vU (wd X2 3),vI vU (wd Y2 0),vI vU (wd Y2 1),vI vU (wd Y2 2),vI vU (wd Y2 3),.bool (false)] 29)).alloc (.cells #[vI vU 0,vI vU 0,vI vU 0,vI vU 0,vI vU 0,vI vU 0,vI vU 0,vI vU 0,.bool false] 29)).rowIs w.heap.size 29 9 (pc X1 Y1 false):=((zdj X1 Y1 false rfl).alloc _).alloc _
 have hC : (((w.alloc (.cells #[vI vU (wd X1 0),vI vU (wd X1 1),vI vU (wd X1 2),vI vU (wd X1 3),vI vU (wd Y1 0),vI vU (wd Y1 1),vI vU (wd Y1 2),vI vU (wd Y1 3),.bool (false)] 29)).alloc (.cells #[vI vU (wd X2 0),vI vU (wd X2 1),vI vU (wd X2 2),vI vU (wd X2 3),vI vU (wd Y2 0),vI vU (wd Y2 1),vI vU (wd Y2 2),vI vU (wd Y2 3),.bool (false)] 29)).alloc (.cells #[vI vU 0,vI vU 0,vI vU 0,vI vU 0,vI vU 0,vI vU 0,vI vU 0,vI vU 0,.bool false] 29)).rowIs (w.heap.size + 1) 29 9 (pc X2 Y2 false):=(zdj X2 Y2 false (by simp)).alloc _
 have hR : (((w.alloc (.cells #[vI vU (wd X1 0),vI vU (wd X1 1),vI vU (wd X1 2),vI vU (wd X1 3),vI vU (wd Y1 0),vI vU (wd Y1 1),vI vU (wd Y1 2),vI vU (wd Y1 3),.bool (false)] 29)).alloc (.cells #[vI vU (wd X2 0),vI vU (wd X2 1),vI vU (wd X2 2),vI vU (wd X2 3),vI vU (wd Y2 0),vI vU (wd Y2 1),vI vU (wd Y2 2),vI vU (wd Y2 3),.bool (false)] 29)).alloc (.cells #[vI vU 0,vI vU 0,vI vU 0,vI vU 0,vI vU 0,vI vU 0,vI vU 0,vI vU 0,.bool false] 29)).rowIs (w.heap.size + 1 + 1) 29 9 (pc 0 0 false):=zez (by simp)
 have hB : Below w.heap.size w (((w.alloc (.cells #[vI vU (wd X1 0),vI vU (wd X1 1),vI vU (wd X1 2),vI vU (wd X1 3),vI vU (wd Y1 0),vI vU (wd Y1 1),vI vU (wd Y1 2),vI vU (wd Y1 3),.bool (false)] 29)).alloc (.cells #[vI vU (wd X2 0),vI vU (wd X2 1),vI vU (wd X2 2),vI vU (wd X2 3),vI vU (wd Y2 0),vI vU (wd Y2 1),vI vU (wd Y2 2),vI vU (wd Y2 3),.bool (false)] 29)).alloc (.cells #[vI vU 0,vI vU 0,vI vU 0,vI vU 0,vI vU 0,vI vU 0,vI vU 0,vI vU 0,.bool false] 29)):=(((Below.refl _ _).alloc (by simp) _).alloc (by simp) _).alloc (by simp; omega) _
 obtain ⟨Z,hZ⟩ : ∃ Z,Z = (0 + Pt.pp - Y2) % Pt.pp:=⟨_,rfl⟩
 have HN:=veil (show ∀ W,Calls Tryz.prog 135 #[.agg #[vI vU (wd X2 0),vI vU (wd X2 1),vI vU (wd X2 2),vI vU (wd X2 3),vI vU (wd Y2 0),vI vU (wd Y2 1),vI vU (wd Y2 2),vI vU (wd Y2 3),.bool (false)]] W fun e W' => e = .returned (.agg #[vI vU (wd X2 0),vI vU (wd X2 1),vI vU (wd X2 2),vI vU (wd X2 3),vI vU (wd Z 0),vI vU (wd Z 1),vI vU (wd Z 2),vI vU (wd Z 3),.bool (false)]) ∧ Below W.heap.size W W' from fun W => rneg_is X2 Y2 Z false hY2 hZ W)
 have lZ : Z < top:=by rw [hZ]; exact Nat.lt_trans (Nat.mod_lt _ zgj) zbb
 have kq : ∀ W,(binOp .eql 29 (.agg #[vI vU (wd X1 0),vI vU (wd X1 1),vI vU (wd X1 2),vI vU (wd X1 3),vI vU (wd Y1 0),vI vU (wd Y1 1),vI vU (wd Y1 2),vI vU (wd Y1 3),.bool (false)]) (.agg #[vI vU (wd X2 0),vI vU (wd X2 1),vI vU (wd X2 2),vI vU (wd X2 3),vI vU (wd Z 0),vI vU (wd Z 1),vI vU (wd Z 2),vI vU (wd Z 3),.bool (false)])).run Tryz.prog W = .ok (.bool false) W:=fun W => by
  rw [eql_pt (Nat.lt_trans hX1 zbb) (Nat.lt_trans hY1 zbb) (Nat.lt_trans hX2 zbb) lZ false false W,decide_eq_false fun h => hn ⟨h.1,by rw [← hZ]; exact h.2.1⟩]
 have ks : ∀ W,(binOp .eql 29 (.agg #[vI vU (wd X1 0),vI vU (wd X1 1),vI vU (wd X1 2),vI vU (wd X1 3),vI vU (wd Y1 0),vI vU (wd Y1 1),vI vU (wd Y1 2),vI vU (wd Y1 3),.bool (false)]) (.agg #[vI vU (wd X2 0),vI vU (wd X2 1),vI vU (wd X2 2),vI vU (wd X2 3),vI vU (wd Y2 0),vI vU (wd Y2 1),vI vU (wd Y2 2),vI vU (wd Y2 3),.bool (false)])).run Tryz.prog W = .ok (.bool false) W:=fun W => by
  rw [eql_pt (Nat.lt_trans hX1 zbb) (Nat.lt_trans hY1 zbb) (Nat.lt_trans hX2 zbb) (Nat.lt_trans hY2 zbb) false false W,decide_eq_false fun h => hs ⟨h.1,h.2.1⟩]
 obtain ⟨M,hM⟩ : ∃ M,M = Pt.pp:=⟨_,rfl⟩
 have lU : U < Pt.pp:=by rw [hU]; exact Nat.mod_lt _ zgj
 have lD : Dn < Pt.pp:=by rw [hD]; exact Nat.mod_lt _ zgj
 have HP:=veil (show ∀ W,Calls Tryz.prog 41 #[] W fun e W' => e = .returned (.agg #[vI vU (wd M 0),vI vU (wd M 1),vI vU (wd M 2),vI vU (wd M 3)]) ∧ Below W.heap.size W W' from fun W => by rw [hM]; exact zfx W)
 have HI:=veil (show ∀ W,Calls Tryz.prog 96 #[.agg #[vI vU (wd Dn 0),vI vU (wd Dn 1),vI vU (wd Dn 2),vI vU (wd Dn 3)],.agg #[vI vU (wd M 0),vI vU (wd M 1),vI vU (wd M 2),vI vU (wd M 3)]] W fun e W' => ∃ T,T < Pt.pp ∧ (Nat.gcd Dn Pt.pp = 1 → Dn * T % Pt.pp = 1) ∧ e = .returned (.tuple #[.agg #[vI vU (wd T 0),vI vU (wd T 1),vI vU (wd T 2),vI vU (wd T 3)],.bool (Nat.gcd Dn Pt.pp == 1)]) ∧ Below W.heap.size W W' from fun W => by rw [hM]; exact zjy Dn Pt.pp lD pp_one pp_odd zbb W)
 have HS1:=veil (show ∀ W,Calls Tryz.prog 44 #[.agg #[vI vU (wd Y2 0),vI vU (wd Y2 1),vI vU (wd Y2 2),vI vU (wd Y2 3)],.agg #[vI vU (wd Y1 0),vI vU (wd Y1 1),vI vU (wd Y1 2),vI vU (wd Y1 3)]] W fun e W' => e = .returned (.agg #[vI vU (wd U 0),vI vU (wd U 1),vI vU (wd U 2),vI vU (wd U 3)]) ∧ Below W.heap.size W W' from fun W => zcq Y2 Y1 U hY2 hY1 hU W)
 have HS2:=veil (show ∀ W,Calls Tryz.prog 44 #[.agg #[vI vU (wd X2 0),vI vU (wd X2 1),vI vU (wd X2 2),vI vU (wd X2 3)],.agg #[vI vU (wd X1 0),vI vU (wd X1 1),vI vU (wd X1 2),vI vU (wd X1 3)]] W fun e W' => e = .returned (.agg #[vI vU (wd Dn 0),vI vU (wd Dn 1),vI vU (wd Dn 2),vI vU (wd Dn 3)]) ∧ Below W.heap.size W W' from fun W => zcq X2 X1 Dn hX2 hX1 hD W)
 have HLT:=veil (And.intro hX1 (And.intro hY1 (And.intro hX2 (And.intro hY2 lU))))
 clear hZ hn hs hX1 hY1 hX2 hY2 lZ hM hU hD lU lD
 go_enter Tryz.func102,Tryz.ntmps102
 go_upto_region 1 with (fail)
 generalize (((w.alloc (.cells #[vI vU (wd X1 0),vI vU (wd X1 1),vI vU (wd X1 2),vI vU (wd X1 3),vI vU (wd Y1 0),vI vU (wd Y1 1),vI vU (wd Y1 2),vI vU (wd Y1 3),.bool (false)] 29)).alloc (.cells #[vI vU (wd X2 0),vI vU (wd X2 1),vI vU (wd X2 2),vI vU (wd X2 3),vI vU (wd Y2 0),vI vU (wd Y2 1),vI vU (wd Y2 2),vI vU (wd Y2 3),.bool (false)] 29)).alloc (.cells #[vI vU 0,vI vU 0,vI vU 0,vI vU 0,vI vU 0,vI vU 0,vI vU 0,vI vU 0,.bool false] 29)) = wz at *
 have fA:=pt_f hA
 have fC:=pt_f hC
 go_upto_region 5 with (fail)
 have lA:=hA.lt
 have lC:=hC.lt
 have sB : ∀ W,Below wz.heap.size wz W → (Below wz.heap.size wz W ∧ W.rangeAt w.heap.size 0 [.int .u64 (wd X1 0),.int .u64 (wd X1 1),.int .u64 (wd X1 2),.int .u64 (wd X1 3),.int .u64 (wd Y1 0),.int .u64 (wd Y1 1),.int .u64 (wd Y1 2),.int .u64 (wd Y1 3),.bool false] ∧ W.rangeAt (w.heap.size + 1) 0 [.int .u64 (wd X2 0),.int .u64 (wd X2 1),.int .u64 (wd X2 2),.int .u64 (wd X2 3),.int .u64 (wd Y2 0),.int .u64 (wd Y2 1),.int .u64 (wd Y2 2),.int .u64 (wd Y2 3),.bool false]):=fun W hb => ⟨hb,zcy (zgr hA) (hb.block _ lA),zcy (zgr hC) (hb.block _ lC)⟩
 have SB:=veil sB
 clear sB
 refine wp_region_held_drew (S:=fun W => (Below wz.heap.size wz W ∧ W.rangeAt w.heap.size 0 [.int .u64 (wd X1 0),.int .u64 (wd X1 1),.int .u64 (wd X1 2),.int .u64 (wd X1 3),.int .u64 (wd Y1 0),.int .u64 (wd Y1 1),.int .u64 (wd Y1 2),.int .u64 (wd Y1 3),.bool false] ∧ W.rangeAt (w.heap.size + 1) 0 [.int .u64 (wd X2 0),.int .u64 (wd X2 1),.int .u64 (wd X2 2),.int .u64 (wd X2 3),.int .u64 (wd Y2 0),.int .u64 (wd Y2 1),.int .u64 (wd Y2 2),.int .u64 (wd Y2 3),.bool false])) (by kernel_rfl) (SB.out _ (Below.refl _ wz).drew) (fun hH => ?_)
 repeat
  ((first
    | (refine wpAnyH_take (i:=0) (v:=.agg #[vI vU (wd X1 0),vI vU (wd X1 1),vI vU (wd X1 2),vI vU (wd X1 3),vI vU (wd Y1 0),vI vU (wd Y1 1),vI vU (wd Y1 2),vI vU (wd Y1 3),.bool false]) rfl (by kernel_rfl) (by kernel_rfl) (by decide +kernel) (fun _ _ _ h => h) (yieldsIf_load_mid (by rfl) _ _ rfl _ _ rfl _ _ (fun W hSw => hSw.2.1) Tryz.underlying29 rfl zbd) (by with_reducible assumption) ?_)
    | (refine wpAnyH_take (i:=1) (v:=.agg #[vI vU (wd X2 0),vI vU (wd X2 1),vI vU (wd X2 2),vI vU (wd X2 3),vI vU (wd Y2 0),vI vU (wd Y2 1),vI vU (wd Y2 2),vI vU (wd Y2 3),.bool false]) rfl (by kernel_rfl) (by kernel_rfl) (by decide +kernel) (fun _ _ _ h => h) (yieldsIf_load_mid (by rfl) _ _ rfl _ _ rfl _ _ (fun W hSw => hSw.2.2) Tryz.underlying29 rfl zbd) (by with_reducible assumption) ?_)
    | (refine wpAnyH_ready (rs:=[2]) (by decide +kernel) (by simp) ?_; refine AllReadyH.cons rfl (fun K hK => ?_) AllReadyH.nil; go_simp; (with_reducible refine (HN.out _).mono ?_); rintro e w1 ⟨rfl,hb⟩; have hb1:=hH.1.trans (hb.mono hH.1.size); clear hb; refine hK.out _ _ (SB.out _ hb1) (fun hH => ?_); clear hK K)
    | (refine wpAnyH_take (i:=3) (v:=.bool false) rfl (by kernel_rfl) (by kernel_rfl) (by decide +kernel) (fun _ _ _ h => h) (Or.inl ⟨by rfl,fun W hSw => (by dsimp only at hSw; go_simp)⟩) (by with_reducible assumption) ?_)
    | fail);
   try simp only [Act.put,List.setIfInBounds_toArray,List.set_cons_zero,List.set_cons_succ,List.getElem_toArray,List.getElem_cons_zero,List.getElem_cons_succ])
 refine wpAnyH_done (by decide +kernel) ?_ _
 clear hH fA fC kq HN SB lA lC
 have hb:=hb1
 clear hb1
 replace hA:=zaa hA hb hA.lt
 replace hC:=zaa hC hb hC.lt
 replace hR:=zaa hR hb hR.lt
 replace hB:=hB.trans (hb.mono hB.size)
 clear hb
 obtain ⟨y0,y1,y2,y3'⟩:=pt_y hA
 obtain ⟨z0,z1,z2,z3⟩:=pt_y hC
 go_wp2_with fail
 refine (HS1.out _).mono ?_
 rintro e w7 ⟨rfl,hb⟩
 clear y0 y1 y2 y3' z0 z1 z2 z3
 replace hA:=zaa hA hb hA.lt
 replace hC:=zaa hC hb hC.lt
 replace hR:=zaa hR hb hR.lt
 replace hB:=hB.trans (hb.mono hB.size)
 clear hb
 go_upto_region 8 with (fail)
 replace hA:=hA.alloc (.cells #[vI vU (wd U 0),vI vU (wd U 1),vI vU (wd U 2),vI vU (wd U 3)] 27)
 replace hC:=hC.alloc (.cells #[vI vU (wd U 0),vI vU (wd U 1),vI vU (wd U 2),vI vU (wd U 3)] 27)
 replace hR:=hR.alloc (.cells #[vI vU (wd U 0),vI vU (wd U 1),vI vU (wd U 2),vI vU (wd U 3)] 27)
 have hU : (w7.alloc (.cells #[vI vU (wd U 0),vI vU (wd U 1),vI vU (wd U 2),vI vU (wd U 3)] 27)).rowIs w7.heap.size 27 4 (fun j => .int .u64 (wd U j)):=zae (n:=4) rfl rfl (arr4 fun j => .int .u64 (wd U j))
 replace hB:=hB.alloc hB.size (.cells #[vI vU (wd U 0),vI vU (wd U 1),vI vU (wd U 2),vI vU (wd U 3)] 27)
 generalize w7.alloc (.cells #[vI vU (wd U 0),vI vU (wd U 1),vI vU (wd U 2),vI vU (wd U 3)] 27) = w8 at *
 generalize w7.heap.size = g5 at *
 obtain ⟨y0,y1,y2,y3'⟩:=pt_x hA
 obtain ⟨z0,z1,z2,z3⟩:=pt_x hC
 go_wp2_with fail
 refine (HS2.out _).mono ?_
 rintro e w9 ⟨rfl,hb⟩
 clear y0 y1 y2 y3' z0 z1 z2 z3
 replace hA:=zaa hA hb hA.lt
 replace hC:=zaa hC hb hC.lt
 replace hR:=zaa hR hb hR.lt
 replace hU:=zaa hU hb hU.lt
 replace hB:=hB.trans (hb.mono hB.size)
 clear hb
 go_upto_region 9 with (fail)
 replace hA:=hA.alloc (.cells #[vI vU (wd Dn 0),vI vU (wd Dn 1),vI vU (wd Dn 2),vI vU (wd Dn 3)] 27)
 replace hC:=hC.alloc (.cells #[vI vU (wd Dn 0),vI vU (wd Dn 1),vI vU (wd Dn 2),vI vU (wd Dn 3)] 27)
 replace hR:=hR.alloc (.cells #[vI vU (wd Dn 0),vI vU (wd Dn 1),vI vU (wd Dn 2),vI vU (wd Dn 3)] 27)
 replace hU:=hU.alloc (.cells #[vI vU (wd Dn 0),vI vU (wd Dn 1),vI vU (wd Dn 2),vI vU (wd Dn 3)] 27)
 have hD : (w9.alloc (.cells #[vI vU (wd Dn 0),vI vU (wd Dn 1),vI vU (wd Dn 2),vI vU (wd Dn 3)] 27)).rowIs w9.heap.size 27 4 (fun j => .int .u64 (wd Dn j)):=zae (n:=4) rfl rfl (arr4 fun j => .int .u64 (wd Dn j))
 replace hB:=hB.alloc hB.size (.cells #[vI vU (wd Dn 0),vI vU (wd Dn 1),vI vU (wd Dn 2),vI vU (wd Dn 3)] 27)
 generalize w9.alloc (.cells #[vI vU (wd Dn 0),vI vU (wd Dn 1),vI vU (wd Dn 2),vI vU (wd Dn 3)] 27) = wq at *
 generalize w9.heap.size = g6 at *
 have HA:=veil (blk9 hA)
 have HC:=veil (blk9 hC)
 go_upto_region 12 with (first
  | ((with_reducible refine zas 32 ?_); refine wpList_load_row rfl 29 _ rfl w.heap.size rfl 29 #[vI vU (wd X1 0),vI vU (wd X1 1),vI vU (wd X1 2),vI vU (wd X1 3),vI vU (wd Y1 0),vI vU (wd Y1 1),vI vU (wd Y1 2),vI vU (wd Y1 3),.bool (false)] (0,0) _ HA.out Tryz.underlying29 rfl zbd ?_)
  | ((with_reducible refine zas 33 ?_); refine wpList_load_row rfl 29 _ rfl (w.heap.size + 1) rfl 29 #[vI vU (wd X2 0),vI vU (wd X2 1),vI vU (wd X2 2),vI vU (wd X2 3),vI vU (wd Y2 0),vI vU (wd Y2 1),vI vU (wd Y2 2),vI vU (wd Y2 3),.bool (false)] (0,0) _ HC.out Tryz.underlying29 rfl zbd ?_))
 clear HA HC ks HS1 HS2
 obtain ⟨d0,d1,d2,d3⟩:=zac hD
 have m6:=hD.lt
 go_cut [7,8] from 50 to 55 (fun v7 v8 wx => ∃ (T g : Nat) (b : Bool),v7 = .pointer (some ⟨g,0,none⟩) ∧ v8 = .bool b ∧ T < Pt.pp ∧ (Nat.gcd Dn Pt.pp = 1 → Dn * T % Pt.pp = 1) ∧ wq.heap.size ≤ g ∧ wx.rowIs g 27 4 (fun j => .int .u64 (wd T j)) ∧ Below wq.heap.size wq wx)
 case first =>
  clear hA hC hR hU hD hB
  go_region_held3 (fun w' => (∀ b o,b < wq.heap.size → w'.cell? ⟨b,o,none⟩ = wq.cell? ⟨b,o,none⟩) ∧ Below wq.heap.size wq w')
   (first
    | (with_reducible assumption)
    | (with_reducible exact zcm _)
    | (with_reducible exact zem _)
    | (with_reducible exact zdw _ (by assumption))
    | ((with_reducible refine zfr (by assumption) ?_); first | exact Nat.le_refl _ | exact hb1.size | exact (Nat.le_trans hb1.size hb2.size))
    | ((with_reducible refine zfs ?_ (by assumption)); first | exact Nat.le_refl _ | exact hb1.size | exact (Nat.le_trans hb1.size hb2.size))
    | (with_reducible exact zct (by assumption) (by assumption))
    | (fail))
   (first
    | (go_at_call 41; ((with_reducible refine (HP.out _).mono ?_); rintro e v1 ⟨rfl,hb1⟩; obtain ⟨hc1,hf1,hl1⟩:=zbu hb1))
    | (go_at_call 96; ((with_reducible refine (HI.out _).mono ?_); rintro e v2 ⟨T,hT1,hT2,rfl,hb2⟩; have HT:=veil (And.intro hT1 hT2); clear hT1 hT2; obtain ⟨hc2,hf2,hl2⟩:=zbu hb2)))
  all_goals rename (_ ∧ Below wq.heap.size wq _) => hH
  ·
   go_wp2
   go_meet
   exact ⟨_,_,_,rfl,rfl,HT.out.1,HT.out.2,(Nat.le_trans hb1.size hb2.size),zae (n:=4) rfl rfl (arr4 fun j => .int .u64 (wd T j)),hH.2⟩
  ·
   go_wp2
   go_meet
   exact ⟨_,_,_,rfl,rfl,HT.out.1,HT.out.2,hb1.size,put4 (zaa (zae (n:=4) (f:=fun _ => .int .u64 0) rfl rfl (arr4 fun _ => .int .u64 0)) hb2 (by simp)) (fun j => .int .u64 (wd T j)),hH.2⟩
  ·
   go_wp2
   go_meet
   exact ⟨_,_,_,rfl,rfl,HT.out.1,HT.out.2,Nat.le_refl _,put4 (zaa (zaa (zae (n:=4) (f:=fun _ => .int .u64 0) rfl rfl (arr4 fun _ => .int .u64 0)).drew hb1 (by simp)) hb2 (Nat.lt_of_lt_of_le (by simp) hb1.size)) (fun j => .int .u64 (wd T j)),hH.2⟩
 case rest =>
  obtain ⟨T,g7,bi,rfl,rfl,hT1,hT2,_,hT,hb⟩:=hcut
  clear d0 d1 d2 d3 m6 HP HI
  replace hA:=zaa hA hb hA.lt
  replace hC:=zaa hC hb hC.lt
  replace hR:=zaa hR hb hR.lt
  replace hU:=zaa hU hb hU.lt
  replace hB:=hB.trans (hb.mono hB.size)
  clear hb
  clear hD
  obtain ⟨L,hL⟩ : ∃ L,L = U * T % Pt.pp:=⟨_,rfl⟩
  obtain ⟨Q,hQ⟩ : ∃ Q,Q = L * L % Pt.pp:=⟨_,rfl⟩
  obtain ⟨R1,hR1⟩ : ∃ R,R = (Q + Pt.pp - X1) % Pt.pp:=⟨_,rfl⟩
  obtain ⟨X3,hX3⟩ : ∃ R,R = (R1 + Pt.pp - X2) % Pt.pp:=⟨_,rfl⟩
  obtain ⟨E1,hE1⟩ : ∃ R,R = (X1 + Pt.pp - X3) % Pt.pp:=⟨_,rfl⟩
  obtain ⟨F1,hF1⟩ : ∃ R,R = L * E1 % Pt.pp:=⟨_,rfl⟩
  obtain ⟨Y3,hY3⟩ : ∃ R,R = (F1 + Pt.pp - Y1) % Pt.pp:=⟨_,rfl⟩
  have hx : x3 U T X1 X2 = X3:=by unfold x3; rw [← hL,← hQ,← hR1,← hX3]
  have hy : y3 U T X1 Y1 X2 = Y3:=by unfold y3; rw [hx,← hL,← hE1,← hF1,← hY3]
  have hmod : ∀ a,a % Pt.pp < Pt.pp:=fun a => Nat.mod_lt _ zgj
  have lt : T < top:=Nat.lt_trans hT1 zbb
  have lL : L < Pt.pp:=by rw [hL]; exact hmod _
  have lQ : Q < Pt.pp:=by rw [hQ]; exact hmod _
  have lR1 : R1 < Pt.pp:=by rw [hR1]; exact hmod _
  have lX3 : X3 < Pt.pp:=by rw [hX3]; exact hmod _
  have lE1 : E1 < Pt.pp:=by rw [hE1]; exact hmod _
  have lF1 : F1 < Pt.pp:=by rw [hF1]; exact hmod _
  have J1:=veil (show ∀ W,Calls Tryz.prog 42 #[.agg #[vI vU (wd U 0),vI vU (wd U 1),vI vU (wd U 2),vI vU (wd U 3)],.agg #[vI vU (wd T 0),vI vU (wd T 1),vI vU (wd T 2),vI vU (wd T 3)]] W fun e W' => e = .returned (.agg #[vI vU (wd L 0),vI vU (wd L 1),vI vU (wd L 2),vI vU (wd L 3)]) ∧ Below W.heap.size W W' from fun W => zdq U T L HLT.out.2.2.2.2 lt hL W)
  have J2:=veil (show ∀ W,Calls Tryz.prog 42 #[.agg #[vI vU (wd L 0),vI vU (wd L 1),vI vU (wd L 2),vI vU (wd L 3)],.agg #[vI vU (wd L 0),vI vU (wd L 1),vI vU (wd L 2),vI vU (wd L 3)]] W fun e W' => e = .returned (.agg #[vI vU (wd Q 0),vI vU (wd Q 1),vI vU (wd Q 2),vI vU (wd Q 3)]) ∧ Below W.heap.size W W' from fun W => zdq L L Q lL (Nat.lt_trans lL zbb) hQ W)
  have J3:=veil (show ∀ W,Calls Tryz.prog 44 #[.agg #[vI vU (wd Q 0),vI vU (wd Q 1),vI vU (wd Q 2),vI vU (wd Q 3)],.agg #[vI vU (wd X1 0),vI vU (wd X1 1),vI vU (wd X1 2),vI vU (wd X1 3)]] W fun e W' => e = .returned (.agg #[vI vU (wd R1 0),vI vU (wd R1 1),vI vU (wd R1 2),vI vU (wd R1 3)]) ∧ Below W.heap.size W W' from fun W => zcq Q X1 R1 lQ HLT.out.1 hR1 W)
  have J4:=veil (show ∀ W,Calls Tryz.prog 44 #[.agg #[vI vU (wd R1 0),vI vU (wd R1 1),vI vU (wd R1 2),vI vU (wd R1 3)],.agg #[vI vU (wd X2 0),vI vU (wd X2 1),vI vU (wd X2 2),vI vU (wd X2 3)]] W fun e W' => e = .returned (.agg #[vI vU (wd X3 0),vI vU (wd X3 1),vI vU (wd X3 2),vI vU (wd X3 3)]) ∧ Below W.heap.size W W' from fun W => zcq R1 X2 X3 lR1 HLT.out.2.2.1 hX3 W)
  have J5:=veil (show ∀ W,Calls Tryz.prog 44 #[.agg #[vI vU (wd X1 0),vI vU (wd X1 1),vI vU (wd X1 2),vI vU (wd X1 3)],.agg #[vI vU (wd X3 0),vI vU (wd X3 1),vI vU (wd X3 2),vI vU (wd X3 3)]] W fun e W' => e = .returned (.agg #[vI vU (wd E1 0),vI vU (wd E1 1),vI vU (wd E1 2),vI vU (wd E1 3)]) ∧ Below W.heap.size W W' from fun W => zcq X1 X3 E1 HLT.out.1 lX3 hE1 W)
  have J6:=veil (show ∀ W,Calls Tryz.prog 42 #[.agg #[vI vU (wd L 0),vI vU (wd L 1),vI vU (wd L 2),vI vU (wd L 3)],.agg #[vI vU (wd E1 0),vI vU (wd E1 1),vI vU (wd E1 2),vI vU (wd E1 3)]] W fun e W' => e = .returned (.agg #[vI vU (wd F1 0),vI vU (wd F1 1),vI vU (wd F1 2),vI vU (wd F1 3)]) ∧ Below W.heap.size W W' from fun W => zdq L E1 F1 lL (Nat.lt_trans lE1 zbb) hF1 W)
  have J7:=veil (show ∀ W,Calls Tryz.prog 44 #[.agg #[vI vU (wd F1 0),vI vU (wd F1 1),vI vU (wd F1 2),vI vU (wd F1 3)],.agg #[vI vU (wd Y1 0),vI vU (wd Y1 1),vI vU (wd Y1 2),vI vU (wd Y1 3)]] W fun e W' => e = .returned (.agg #[vI vU (wd Y3 0),vI vU (wd Y3 1),vI vU (wd Y3 2),vI vU (wd Y3 3)]) ∧ Below W.heap.size W W' from fun W => zcq F1 Y1 Y3 lF1 HLT.out.2.1 hY3 W)
  have HXY:=veil (And.intro hx (And.intro hy (And.intro hT1 hT2)))
  clear hL hQ hR1 hX3 hE1 hF1 hY3 hx hy hmod lt lL lQ lR1 lX3 lE1 lF1 hT1 hT2
  obtain ⟨u0,u1,u2,u3⟩:=zac hU
  obtain ⟨t0,t1,t2,t3⟩:=zac hT
  go_wp2_with fail
  refine (J1.out _).mono ?_
  rintro e w13 ⟨rfl,hb⟩
  clear u0 u1 u2 u3 t0 t1 t2 t3 hU hT
  replace hA:=zaa hA hb hA.lt
  replace hC:=zaa hC hb hC.lt
  replace hR:=zaa hR hb hR.lt
  replace hB:=hB.trans (hb.mono hB.size)
  clear hb
  go_upto_region 14 with (fail)
  have n9:=hR.lt
  replace hA:=hA.alloc (.cells #[vI vU (wd L 0),vI vU (wd L 1),vI vU (wd L 2),vI vU (wd L 3)] 27)
  replace hC:=hC.alloc (.cells #[vI vU (wd L 0),vI vU (wd L 1),vI vU (wd L 2),vI vU (wd L 3)] 27)
  replace hR:=hR.alloc (.cells #[vI vU (wd L 0),vI vU (wd L 1),vI vU (wd L 2),vI vU (wd L 3)] 27)
  have hL : (w13.alloc (.cells #[vI vU (wd L 0),vI vU (wd L 1),vI vU (wd L 2),vI vU (wd L 3)] 27)).rowIs w13.heap.size 27 4 (fun j => .int .u64 (wd L j)):=zae (n:=4) rfl rfl (arr4 fun j => .int .u64 (wd L j))
  replace hB:=hB.alloc hB.size (.cells #[vI vU (wd L 0),vI vU (wd L 1),vI vU (wd L 2),vI vU (wd L 3)] 27)
  generalize w13.alloc (.cells #[vI vU (wd L 0),vI vU (wd L 1),vI vU (wd L 2),vI vU (wd L 3)] 27) = w14 at *
  generalize w13.heap.size = g9 at *
  obtain ⟨l0,l1,l2,l3⟩:=zac hL
  obtain ⟨x0,x1,x2,x3'⟩:=pt_x hA
  obtain ⟨c0,c1,c2,c3⟩:=pt_x hC
  have m1:=hA.lt
  have m2:=hC.lt
  have m3:=hL.lt
  go_cut [10] from 59 to 67 (fun v10 wx => ∃ g : Nat,v10 = .pointer (some ⟨g,0,none⟩) ∧ w14.heap.size ≤ g ∧ wx.rowIs g 27 4 (fun j => .int .u64 (wd X3 j)) ∧ Below w14.heap.size w14 wx)
  case first =>
   clear hA hC hR hL hB
   go_region_held3 (fun w' => (∀ b o,b < w14.heap.size → w'.cell? ⟨b,o,none⟩ = w14.cell? ⟨b,o,none⟩) ∧ Below w14.heap.size w14 w')
    (first
     | (with_reducible assumption)
     | (with_reducible exact zcm _)
     | (with_reducible exact zem _)
     | (with_reducible exact zdw _ (by assumption))
     | ((with_reducible refine zfr (by assumption) ?_); first | exact Nat.le_refl _ | exact hb1.size | exact (Nat.le_trans hb1.size hb2.size) | exact (Nat.le_trans (Nat.le_trans hb1.size hb2.size) hb3.size))
     | ((with_reducible refine zfs ?_ (by assumption)); first | exact Nat.le_refl _ | exact hb1.size | exact (Nat.le_trans hb1.size hb2.size) | exact (Nat.le_trans (Nat.le_trans hb1.size hb2.size) hb3.size))
     | (with_reducible exact zct (by assumption) (by assumption))
     | (fail))
    (first
     | (go_at_call 42; ((with_reducible refine (J2.out _).mono ?_); rintro e v1 ⟨rfl,hb1⟩; obtain ⟨hc1,hf1,hl1⟩:=zbu hb1))
     | (go_at_call 44; first | ((with_reducible refine (J3.out _).mono ?_); rintro e v2 ⟨rfl,hb2⟩; obtain ⟨hc2,hf2,hl2⟩:=zbu hb2; try have hl2':=fun b h => hl2 b (hl1 b h)) | ((with_reducible refine (J4.out _).mono ?_); rintro e v3 ⟨rfl,hb3⟩; obtain ⟨hc3,hf3,hl3⟩:=zbu hb3)))
   all_goals rename (_ ∧ Below w14.heap.size w14 _) => hH
   ·
    go_wp2
    go_meet
    exact ⟨_,rfl,(Nat.le_trans (Nat.le_trans hb1.size hb2.size) hb3.size),zae (n:=4) rfl rfl (arr4 fun j => .int .u64 (wd X3 j)),hH.2⟩
   ·
    go_wp2
    go_meet
    exact ⟨_,rfl,(Nat.le_trans hb1.size hb2.size),put4 (zaa (zae (n:=4) (f:=fun _ => .int .u64 0) rfl rfl (arr4 fun _ => .int .u64 0)) hb3 (by simp)) (fun j => .int .u64 (wd X3 j)),hH.2⟩
   ·
    go_wp2
    go_meet
    exact ⟨_,rfl,hb1.size,put4 (zaa (zaa (zae (n:=4) (f:=fun _ => .int .u64 0) rfl rfl (arr4 fun _ => .int .u64 0)) hb2 (by simp)) hb3 (Nat.lt_of_lt_of_le (by simp) hb2.size)) (fun j => .int .u64 (wd X3 j)),hH.2⟩
   ·
    go_wp2
    go_meet
    exact ⟨_,rfl,Nat.le_refl _,put4 (zaa (zaa (zaa (zae (n:=4) (f:=fun _ => .int .u64 0) rfl rfl (arr4 fun _ => .int .u64 0)).drew hb1 (by simp)) hb2 (Nat.lt_of_lt_of_le (by simp) hb1.size)) hb3 (Nat.lt_of_lt_of_le (Nat.lt_of_lt_of_le (by simp) hb1.size) hb2.size)) (fun j => .int .u64 (wd X3 j)),hH.2⟩
  case rest =>
   obtain ⟨g10,rfl,n10,hX,hb⟩:=hcut
   clear l0 l1 l2 l3 x0 x1 x2 x3' c0 c1 c2 c3 m1 m2 m3
   have nR:=hR.lt
   replace hA:=zaa hA hb hA.lt
   replace hL:=zaa hL hb hL.lt
   replace hR:=zaa hR hb hR.lt
   replace hB:=hB.trans (hb.mono hB.size)
   clear hb
   clear hC
   go_upto_region 15 with (fail)
   obtain ⟨l0,l1,l2,l3⟩:=zac hL
   obtain ⟨x0,x1,x2,x3'⟩:=pt_x hA
   obtain ⟨y0,y1,y2,y3'⟩:=pt_y hA
   obtain ⟨k0,k1,k2,k3⟩:=zac hX
   have m1:=hA.lt
   have m2:=hL.lt
   have m3:=hX.lt
   have sB : ∀ W,Bt (w.heap.size + 1 + 1) 29 9 wc W → (Bt (w.heap.size + 1 + 1) 29 9 wc W ∧ W.cell? ⟨g10,0,none⟩ = some (vI vU (wd X3 0)) ∧ W.cell? ⟨g10,1,none⟩ = some (vI vU (wd X3 1)) ∧ W.cell? ⟨g10,2,none⟩ = some (vI vU (wd X3 2)) ∧ W.cell? ⟨g10,3,none⟩ = some (vI vU (wd X3 3)) ∧ W.cell? ⟨g9,0,none⟩ = some (vI vU (wd L 0)) ∧ W.cell? ⟨g9,1,none⟩ = some (vI vU (wd L 1)) ∧ W.cell? ⟨g9,2,none⟩ = some (vI vU (wd L 2)) ∧ W.cell? ⟨g9,3,none⟩ = some (vI vU (wd L 3)) ∧ W.cell? ⟨w.heap.size,0,none⟩ = some (vI vU (wd X1 0)) ∧ W.cell? ⟨w.heap.size,1,none⟩ = some (vI vU (wd X1 1)) ∧ W.cell? ⟨w.heap.size,2,none⟩ = some (vI vU (wd X1 2)) ∧ W.cell? ⟨w.heap.size,3,none⟩ = some (vI vU (wd X1 3)) ∧ W.cell? ⟨w.heap.size,4,none⟩ = some (vI vU (wd Y1 0)) ∧ W.cell? ⟨w.heap.size,5,none⟩ = some (vI vU (wd Y1 1)) ∧ W.cell? ⟨w.heap.size,6,none⟩ = some (vI vU (wd Y1 2)) ∧ W.cell? ⟨w.heap.size,7,none⟩ = some (vI vU (wd Y1 3))):=fun W hB => ⟨hB,(hB.cell m3 (by omega)).trans k0,(hB.cell m3 (by omega)).trans k1,(hB.cell m3 (by omega)).trans k2,(hB.cell m3 (by omega)).trans k3,(hB.cell m2 (by omega)).trans l0,(hB.cell m2 (by omega)).trans l1,(hB.cell m2 (by omega)).trans l2,(hB.cell m2 (by omega)).trans l3,(hB.cell m1 (by omega)).trans x0,(hB.cell m1 (by omega)).trans x1,(hB.cell m1 (by omega)).trans x2,(hB.cell m1 (by omega)).trans x3',(hB.cell m1 (by omega)).trans y0,(hB.cell m1 (by omega)).trans y1,(hB.cell m1 (by omega)).trans y2,(hB.cell m1 (by omega)).trans y3'⟩
   have hS0:=sB wc (.of hR (But.refl _ _))
   have SB:=veil sB
   have HBB:=veil hB
   clear sB hB hA hL hX hR
   refine wp_region_held_drew (S:=fun W => Bt (w.heap.size + 1 + 1) 29 9 wc W ∧ W.cell? ⟨g10,0,none⟩ = some (vI vU (wd X3 0)) ∧ W.cell? ⟨g10,1,none⟩ = some (vI vU (wd X3 1)) ∧ W.cell? ⟨g10,2,none⟩ = some (vI vU (wd X3 2)) ∧ W.cell? ⟨g10,3,none⟩ = some (vI vU (wd X3 3)) ∧ W.cell? ⟨g9,0,none⟩ = some (vI vU (wd L 0)) ∧ W.cell? ⟨g9,1,none⟩ = some (vI vU (wd L 1)) ∧ W.cell? ⟨g9,2,none⟩ = some (vI vU (wd L 2)) ∧ W.cell? ⟨g9,3,none⟩ = some (vI vU (wd L 3)) ∧ W.cell? ⟨w.heap.size,0,none⟩ = some (vI vU (wd X1 0)) ∧ W.cell? ⟨w.heap.size,1,none⟩ = some (vI vU (wd X1 1)) ∧ W.cell? ⟨w.heap.size,2,none⟩ = some (vI vU (wd X1 2)) ∧ W.cell? ⟨w.heap.size,3,none⟩ = some (vI vU (wd X1 3)) ∧ W.cell? ⟨w.heap.size,4,none⟩ = some (vI vU (wd Y1 0)) ∧ W.cell? ⟨w.heap.size,5,none⟩ = some (vI vU (wd Y1 1)) ∧ W.cell? ⟨w.heap.size,6,none⟩ = some (vI vU (wd Y1 2)) ∧ W.cell? ⟨w.heap.size,7,none⟩ = some (vI vU (wd Y1 3))) (by kernel_rfl) (SB.out _ hS0.1.drew) (fun hH => ?_)
   repeat
    ((first
      | (refine wpAnyH_take (i:=0) (v:=.agg #[vI vU (wd X3 0),vI vU (wd X3 1),vI vU (wd X3 2),vI vU (wd X3 3)]) rfl (by kernel_rfl) (by kernel_rfl) (by decide +kernel) (fun _ _ _ h => h) (Or.inl ⟨by rfl,fun W hSw => (by dsimp only at hSw; go_simp)⟩) (by with_reducible assumption) ?_)
      | (refine wpAnyH_take (i:=1) (v:=.agg #[vI vU (wd L 0),vI vU (wd L 1),vI vU (wd L 2),vI vU (wd L 3)]) rfl (by kernel_rfl) (by kernel_rfl) (by decide +kernel) (fun _ _ _ h => h) (Or.inl ⟨by rfl,fun W hSw => (by dsimp only at hSw; go_simp)⟩) (by with_reducible assumption) ?_)
      | (refine wpAnyH_take (i:=2) (v:=.pointer (some ⟨w.heap.size,0,none⟩)) rfl (by kernel_rfl) (by kernel_rfl) (by decide +kernel) (fun _ _ _ h => h) (Or.inl ⟨by rfl,fun W hSw => (by dsimp only at hSw; go_simp)⟩) (by with_reducible assumption) ?_)
      | (refine wpAnyH_take (i:=3) (v:=.agg #[vI vU (wd X1 0),vI vU (wd X1 1),vI vU (wd X1 2),vI vU (wd X1 3)]) rfl (by kernel_rfl) (by kernel_rfl) (by decide +kernel) (fun _ _ _ h => h) (Or.inl ⟨by rfl,fun W hSw => (by dsimp only at hSw; go_simp)⟩) (by with_reducible assumption) ?_)
      | (refine wpAnyH_take (i:=4) (v:=.agg #[vI vU (wd X3 0),vI vU (wd X3 1),vI vU (wd X3 2),vI vU (wd X3 3)]) rfl (by kernel_rfl) (by kernel_rfl) (by decide +kernel) (fun _ _ _ h => h) (Or.inl ⟨by rfl,fun W hSw => (by dsimp only at hSw; go_simp)⟩) (by with_reducible assumption) ?_)
      | (refine wpAnyH_ready (rs:=[5]) (by decide +kernel) (by simp) ?_; refine AllReadyH.cons rfl (fun K hK => ?_) AllReadyH.nil; go_simp; (with_reducible refine (J5.out _).mono ?_); rintro e w15 ⟨rfl,hb⟩; have hb1:=hS0.1.drew.call hb; clear hb; refine hK.out _ _ (SB.out _ hb1) (fun hH => ?_); clear hK K)
      | (refine wpAnyH_ready (rs:=[6]) (by decide +kernel) (by simp) ?_; refine AllReadyH.cons rfl (fun K hK => ?_) AllReadyH.nil; go_simp; (with_reducible refine (J6.out _).mono ?_); rintro e w16 ⟨rfl,hb⟩; have hb2:=hb1.call hb; clear hb; refine hK.out _ _ (SB.out _ hb2) (fun hH => ?_); clear hK K)
      | (refine wpAnyH_take (i:=7) (v:=.pointer (some ⟨w.heap.size,4,none⟩)) rfl (by kernel_rfl) (by kernel_rfl) (by decide +kernel) (fun _ _ _ h => h) (Or.inl ⟨by rfl,fun W hSw => (by dsimp only at hSw; go_simp)⟩) (by with_reducible assumption) ?_)
      | (refine wpAnyH_take (i:=8) (v:=.agg #[vI vU (wd Y1 0),vI vU (wd Y1 1),vI vU (wd Y1 2),vI vU (wd Y1 3)]) rfl (by kernel_rfl) (by kernel_rfl) (by decide +kernel) (fun _ _ _ h => h) (Or.inl ⟨by rfl,fun W hSw => (by dsimp only at hSw; go_simp)⟩) (by with_reducible assumption) ?_)
      | (refine wpAnyH_ready (rs:=[9]) (by decide +kernel) (by simp) ?_; refine AllReadyH.cons rfl (fun K hK => ?_) AllReadyH.nil; go_simp; (with_reducible refine (J7.out _).mono ?_); rintro e w17 ⟨rfl,hb⟩; have hb3:=hb2.call hb; clear hb; obtain ⟨fz,hz⟩:=hb3.2; have HZ:=veil (blkOf hz); clear hz; refine hK.out _ _ (SB.out _ hb3) (fun hH => ?_); clear hK K)
      | (refine wpAnyH_take (i:=10) (v:=.agg #[vI vU (wd X3 0),vI vU (wd X3 1),vI vU (wd X3 2),vI vU (wd X3 3),vI vU (wd Y3 0),vI vU (wd Y3 1),vI vU (wd Y3 2),vI vU (wd Y3 3),.bool (false)]) rfl (by kernel_rfl) (by kernel_rfl) (by decide +kernel) (fun _ _ _ h => h) (Or.inl ⟨by rfl,fun W hSw => (by dsimp only at hSw; go_simp)⟩) (by with_reducible assumption) ?_)
      | (refine wpAnyH_ready (rs:=[11]) (by decide +kernel) (by simp) ?_; refine AllReadyH.cons rfl (fun K hK => ?_) AllReadyH.nil; refine zfv rfl 29 _ _ rfl (w.heap.size + 1 + 1) #[vI vU (wd X3 0),vI vU (wd X3 1),vI vU (wd X3 2),vI vU (wd X3 3),vI vU (wd Y3 0),vI vU (wd Y3 1),vI vU (wd Y3 2),vI vU (wd Y3 3),.bool (false)] rfl rfl 29 _ HZ.out zbd (by rw [zaz]; rfl) (one9 X3 Y3 false) ?_; refine hK.out _ _ (SB.out _ (hb3.setRow rfl)) (fun hH => ?_); clear hK K)
      | fail);
     try simp only [Act.put,List.setIfInBounds_toArray,List.set_cons_zero,List.set_cons_succ,List.getElem_toArray,List.getElem_cons_zero,List.getElem_cons_succ])
   refine wpAnyH_done (by decide +kernel) ?_ _
   have HFIN:=veil (setRow_heap _ (w.heap.size + 1 + 1) _ #[vI vU (wd X3 0),vI vU (wd X3 1),vI vU (wd X3 2),vI vU (wd X3 3),vI vU (wd Y3 0),vI vU (wd Y3 1),vI vU (wd Y3 2),vI vU (wd Y3 3),.bool (false)] 29 (0,0) HZ.out)
   clear hH
   go_wp2
   exact bodyPost_ret (results_cell_row rfl _ _ (w.heap.size + 1 + 1) 29 #[vI vU (wd X3 0),vI vU (wd X3 1),vI vU (wd X3 2),vI vU (wd X3 3),vI vU (wd Y3 0),vI vU (wd Y3 1),vI vU (wd Y3 2),vI vU (wd Y3 3),.bool (false)] (0,0) _ rfl HFIN.out Tryz.underlying29 rfl zbd) rfl ⟨T,HXY.out.2.2.1,HXY.out.2.2.2,by rw [HXY.out.1,HXY.out.2.1],HBB.out.trans ((hb3.setRow (cs:=#[vI vU (wd X3 0),vI vU (wd X3 1),vI vU (wd X3 2),vI vU (wd X3 3),vI vU (wd Y3 0),vI vU (wd Y3 1),vI vU (wd Y3 2),vI vU (wd Y3 3),.bool (false)]) rfl).below (by omega) HBB.out.size)⟩
end Go.Proofs.YthlbemnbmbmjhaaGreatDoor
