/-
  Of G9 Q3 Q4 Bit Len RBit RLen Q12 G6 G7a PS NL NR1 RBytes.
-/
import Derived.BigQuiet
import Derived.Deep.Cut
import Derived.Deep.CutRange
import Derived.Deep.MidRow
import Derived.Laws.OwnMore
import Derived.Deep.AppendLies
import Derived.Deep.RegionHeld3
import Derived.Test.YtmfjigcdhijkjaaGreatDoorZS1
import Derived.Test.YtmfjigcdhijkjaaGreatDoorZS5
import Derived.Test.YtmfjigcdhijkjaaGreatDoorZS2
import Derived.Test.YtmfjigcdhijkjaaGreatDoorZS3
import Derived.Test.YtmfjigcdhijkjaaGreatDoorZS4
set_option maxRecDepth 1000000
set_option maxHeartbeats 20000000
namespace Go.Proofs.YtmfjigcdhijkjaaGreatDoor
open Go.RowKit
open Go.Value renaming int → vI
open Go.IntKind renaming u64 → vU
open Go.Act renaming put → aP
open List renaming setIfInBounds_toArray → lA, set_cons_zero → lZ, set_cons_succ → lS
theorem gcd_even (u v : Nat) (hu : u % 2 = 0) (hv : v % 2 = 1) : Nat.gcd (u / 2) v = Nat.gcd u v:=by
 have hc : Nat.Coprime 2 v:=by
  unfold Nat.Coprime
  rw [Nat.gcd_rec,hv]; rfl
 have e : u = 2 * (u / 2):=by omega
 conv => rhs; rw [e]
 exact (Nat.Coprime.gcd_mul_left_cancel (u / 2) hc).symm
theorem gcd_less (u v : Nat) (h : u ≤ v) : Nat.gcd (v - u) u = Nat.gcd u v:=by
 rw [Nat.gcd_comm u v]
 have e : v = (v - u) + u:=by omega
 conv => rhs; rw [e,Nat.gcd_add_self_left]
theorem cut_twice {M A B : Nat} (hM : M % 2 = 1) (h : 2 * A % M = 2 * B % M) : A % M = B % M:=by
 have hM0 : 0 < M:=by omega
 rw [Nat.mul_mod,← Nat.mul_mod_mod,Nat.mod_mul_mod] at h
 rw [Nat.mul_mod 2 B,← Nat.mul_mod_mod,Nat.mod_mul_mod] at h
 have ha:=Nat.mod_lt A hM0
 have hb:=Nat.mod_lt B hM0
 simp only [Nat.mod_mod] at h
 generalize A % M = a at *
 generalize B % M = b at *
 have e : ∀ c,c < M → 2 * c % M = if 2 * c < M then 2 * c else 2 * c - M:=by
  intro c hc
  split
  ·
   exact Nat.mod_eq_of_lt (by assumption)
  ·
   rw [Nat.mod_eq_sub_mod (by omega),Nat.mod_eq_of_lt (by omega)]
 rw [e a ha,e b hb] at h
 split at h <;> split at h <;> omega
theorem cut_add {M A B C : Nat} (hM0 : 0 < M) (h : (A + C) % M = (B + C) % M) : A % M = B % M:=by
 rw [Nat.add_mod,Nat.add_mod B] at h
 have ha:=Nat.mod_lt A hM0
 have hb:=Nat.mod_lt B hM0
 have hc:=Nat.mod_lt C hM0
 generalize A % M = a at *
 generalize B % M = b at *
 generalize C % M = c at *
 have e : ∀ d,d < M → (d + c) % M = if d + c < M then d + c else d + c - M:=by
  intro d hd
  split
  ·
   exact Nat.mod_eq_of_lt (by assumption)
  ·
   rw [Nat.mod_eq_sub_mod (by omega),Nat.mod_eq_of_lt (by omega)]
 rw [e a ha,e b hb] at h
 split at h <;> split at h <;> omega
structure Inv (a M r u v x y : Nat) : Prop where
 hx : x < M
 hy : y < M
 hu : u < top
 hv : v < top
 odd : v % 2 = 1
 ex : a * x % M = u % M
 ey : a * y % M = v % M
 g : Nat.gcd u v = Nat.gcd a M
 left : ∃ p q,u < 2 ^ p ∧ v < 2 ^ q ∧ r + 2 * (p + q) + u % 2 ≤ 1025
theorem inv_start {a M : Nat} (ha : a < M) (hM : M < top) (hM1 : 1 < M) (hodd : M % 2 = 1) : Inv a M 0 a M 1 0 :=
 ⟨hM1,by omega,by omega,hM,hodd,by rw [Nat.mul_one],by rw [Nat.mul_zero,Nat.zero_mod,Nat.mod_self],rfl,256,256,by show a < top; omega,hM,by omega⟩
theorem inv_even {a M r u v x y : Nat} (h : Inv a M r u v x y) (hodd : M % 2 = 1) (hu : u % 2 = 0) (h0 : u ≠ 0) : Inv a M (r + 1) (u / 2) v (hf x M) y:=by
 obtain ⟨hx,hy,hut,hvt,odd,ex,ey,g,p,q,hp,hq,hl⟩:=h
 refine ⟨hf_lt hx,hy,by omega,hvt,odd,?_,ey,by rw [gcd_even u v hu odd]; exact g,p - 1,q,?_,hq,?_⟩
 ·
  apply cut_twice hodd
  rw [show 2 * (u / 2) = u by omega,← ex]
  unfold hf
  split
  ·
   rw [Nat.mul_left_comm,show 2 * (x / 2) = x by omega]
  ·
   rw [Nat.mul_left_comm,show 2 * ((x + M) / 2) = x + M by omega,Nat.mul_add,Nat.add_mul_mod_self_right]
 ·
  cases p with
  | zero => simp at hp; omega
  | succ p => rw [Nat.pow_succ] at hp; simp only [Nat.add_sub_cancel]; omega
 ·
  cases p with
  | zero => simp at hp; omega
  | succ p => simp only [Nat.add_sub_cancel]; omega
theorem inv_more {a M r u v x y : Nat} (h : Inv a M r u v x y) (hu : u % 2 = 1) (hle : v ≤ u) : Inv a M (r + 1) (u - v) v ((x + M - y) % M) y:=by
 obtain ⟨hx,hy,hut,hvt,odd,ex,ey,g,p,q,hp,hq,hl⟩:=h
 have hM0 : 0 < M:=by omega
 refine ⟨Nat.mod_lt _ hM0,hy,by omega,hvt,odd,?_,ey,by rw [gcd_less v u hle,Nat.gcd_comm]; exact g,p,q,by omega,hq,by omega⟩
 apply cut_add (C:=v) hM0
 rw [Nat.sub_add_cancel hle,← ex,Nat.add_mod,← ey,← Nat.add_mod,Nat.add_mod,Nat.mul_mod,Nat.mod_mod,← Nat.mul_mod,← Nat.add_mod,← Nat.mul_add,show x + M - y + y = x + M by omega,Nat.mul_add,Nat.add_mul_mod_self_right]
theorem inv_less {a M r u v x y : Nat} (h : Inv a M r u v x y) (hu : u % 2 = 1) (hlt : u < v) : Inv a M (r + 1) (v - u) u ((y + M - x) % M) x:=by
 obtain ⟨hx,hy,hut,hvt,odd,ex,ey,g,p,q,hp,hq,hl⟩:=h
 have h2 : Inv a M r v u y x:=⟨hy,hx,hvt,hut,hu,ey,ex,by rw [Nat.gcd_comm]; exact g,q,p,hq,hp,by omega⟩
 exact inv_more h2 odd (by omega)
structure Fr (w wr : World) (M : Nat) (fu : Nat → Value) (v x y : Nat) : Prop where
 mr : wr.rowIs (w.heap.size + 1) 24 4 (fun j => .int .u64 (wd M j))
 rr : wr.rowIs (w.heap.size + 1 + 1) 24 4 (fun _ => .int .u64 0)
 ur : wr.rowIs (w.heap.size + 1 + 1 + 1) 24 4 fu
 vr : wr.rowIs (w.heap.size + 1 + 1 + 1 + 1) 24 4 (fun j => .int .u64 (wd v j))
 xr : wr.rowIs (w.heap.size + 1 + 1 + 1 + 1 + 1) 24 4 (fun j => .int .u64 (wd x j))
 yr : wr.rowIs (w.heap.size + 1 + 1 + 1 + 1 + 1 + 1) 24 4 (fun j => .int .u64 (wd y j))
 zr : wr.rowIs (w.heap.size + 1 + 1 + 1 + 1 + 1 + 1 + 1) 24 4 (fun _ => .int .u64 0)
 b : Below w.heap.size w wr
theorem Fr.call {w wr : World} {M : Nat} {fu : Nat → Value} {v x y : Nat} {w' : World} (h : Fr w wr M fu v x y) (hb : Below wr.heap.size wr w') : Fr w w' M fu v x y :=
 ⟨zab h.mr hb h.mr.lt,zab h.rr hb h.rr.lt,zab h.ur hb h.ur.lt,zab h.vr hb h.vr.lt,zab h.xr hb h.xr.lt,zab h.yr hb h.yr.lt,zab h.zr hb h.zr.lt,h.b.trans (hb.mono h.b.size)⟩
theorem Fr.alloc {w wr : World} {M : Nat} {fu : Nat → Value} {v x y : Nat} (h : Fr w wr M fu v x y) (o : Obj) : Fr w (wr.alloc o) M fu v x y :=
 ⟨h.mr.alloc o,h.rr.alloc o,h.ur.alloc o,h.vr.alloc o,h.xr.alloc o,h.yr.alloc o,h.zr.alloc o,h.b.alloc h.b.size o⟩
theorem Fr.putU {w wr : World} {M : Nat} {fu : Nat → Value} {v x y : Nat} (h : Fr w wr M fu v x y) (k : Nat) : Fr w ((((wr.setCell ⟨w.heap.size + 1 + 1 + 1,0,none⟩ (.int .u64 (wd k 0))).setCell ⟨w.heap.size + 1 + 1 + 1,1,none⟩ (.int .u64 (wd k 1))).setCell ⟨w.heap.size + 1 + 1 + 1,2,none⟩ (.int .u64 (wd k 2))).setCell ⟨w.heap.size + 1 + 1 + 1,3,none⟩ (.int .u64 (wd k 3))) M (fun j => .int .u64 (wd k j)) v x y :=
 ⟨zam h.mr (by omega) _ _ _ _,zam h.rr (by omega) _ _ _ _,put4 h.ur (fun j => .int .u64 (wd k j)),zam h.vr (by omega) _ _ _ _,zam h.xr (by omega) _ _ _ _,zam h.yr (by omega) _ _ _ _,zam h.zr (by omega) _ _ _ _,zap h.b (by omega) _ _ _ _⟩
theorem Fr.putV {w wr : World} {M : Nat} {fu : Nat → Value} {v x y : Nat} (h : Fr w wr M fu v x y) (k : Nat) : Fr w ((((wr.setCell ⟨w.heap.size + 1 + 1 + 1 + 1,0,none⟩ (.int .u64 (wd k 0))).setCell ⟨w.heap.size + 1 + 1 + 1 + 1,1,none⟩ (.int .u64 (wd k 1))).setCell ⟨w.heap.size + 1 + 1 + 1 + 1,2,none⟩ (.int .u64 (wd k 2))).setCell ⟨w.heap.size + 1 + 1 + 1 + 1,3,none⟩ (.int .u64 (wd k 3))) M fu k x y :=
 ⟨zam h.mr (by omega) _ _ _ _,zam h.rr (by omega) _ _ _ _,zam h.ur (by omega) _ _ _ _,put4 h.vr (fun j => .int .u64 (wd k j)),zam h.xr (by omega) _ _ _ _,zam h.yr (by omega) _ _ _ _,zam h.zr (by omega) _ _ _ _,zap h.b (by omega) _ _ _ _⟩
theorem Fr.putX {w wr : World} {M : Nat} {fu : Nat → Value} {v x y : Nat} (h : Fr w wr M fu v x y) (k : Nat) : Fr w ((((wr.setCell ⟨w.heap.size + 1 + 1 + 1 + 1 + 1,0,none⟩ (.int .u64 (wd k 0))).setCell ⟨w.heap.size + 1 + 1 + 1 + 1 + 1,1,none⟩ (.int .u64 (wd k 1))).setCell ⟨w.heap.size + 1 + 1 + 1 + 1 + 1,2,none⟩ (.int .u64 (wd k 2))).setCell ⟨w.heap.size + 1 + 1 + 1 + 1 + 1,3,none⟩ (.int .u64 (wd k 3))) M fu v k y :=
 ⟨zam h.mr (by omega) _ _ _ _,zam h.rr (by omega) _ _ _ _,zam h.ur (by omega) _ _ _ _,zam h.vr (by omega) _ _ _ _,put4 h.xr (fun j => .int .u64 (wd k j)),zam h.yr (by omega) _ _ _ _,zam h.zr (by omega) _ _ _ _,zap h.b (by omega) _ _ _ _⟩
theorem Fr.putY {w wr : World} {M : Nat} {fu : Nat → Value} {v x y : Nat} (h : Fr w wr M fu v x y) (k : Nat) : Fr w ((((wr.setCell ⟨w.heap.size + 1 + 1 + 1 + 1 + 1 + 1,0,none⟩ (.int .u64 (wd k 0))).setCell ⟨w.heap.size + 1 + 1 + 1 + 1 + 1 + 1,1,none⟩ (.int .u64 (wd k 1))).setCell ⟨w.heap.size + 1 + 1 + 1 + 1 + 1 + 1,2,none⟩ (.int .u64 (wd k 2))).setCell ⟨w.heap.size + 1 + 1 + 1 + 1 + 1 + 1,3,none⟩ (.int .u64 (wd k 3))) M fu v x k :=
 ⟨zam h.mr (by omega) _ _ _ _,zam h.rr (by omega) _ _ _ _,zam h.ur (by omega) _ _ _ _,zam h.vr (by omega) _ _ _ _,zam h.xr (by omega) _ _ _ _,put4 h.yr (fun j => .int .u64 (wd k j)),zam h.zr (by omega) _ _ _ _,zap h.b (by omega) _ _ _ _⟩
theorem Fr.putT {w wr : World} {M : Nat} {fu : Nat → Value} {v x y : Nat} {g : Nat} (h : Fr w wr M fu v x y) (hg : w.heap.size + 1 + 1 + 1 + 1 + 1 + 1 + 1 < g) (k : Nat) : Fr w ((((wr.setCell ⟨g,0,none⟩ (.int .u64 (wd k 0))).setCell ⟨g,1,none⟩ (.int .u64 (wd k 1))).setCell ⟨g,2,none⟩ (.int .u64 (wd k 2))).setCell ⟨g,3,none⟩ (.int .u64 (wd k 3))) M fu v x y :=
 ⟨zam h.mr (by omega) _ _ _ _,zam h.rr (by omega) _ _ _ _,zam h.ur (by omega) _ _ _ _,zam h.vr (by omega) _ _ _ _,zam h.xr (by omega) _ _ _ _,zam h.yr (by omega) _ _ _ _,zam h.zr (by omega) _ _ _ _,zap h.b (by omega) _ _ _ _⟩
theorem Fr.setU {w wr : World} {M : Nat} {fu : Nat → Value} {v x y : Nat} (h : Fr w wr M fu v x y) (i : Nat) (k : Value) : Fr w (wr.setCell ⟨w.heap.size + 1 + 1 + 1,i,none⟩ k) M (fun j => if j = i then k else fu j) v x y :=
 ⟨zay h.mr (by omega) _,zay h.rr (by omega) _,h.ur.set i k,zay h.vr (by omega) _,zay h.xr (by omega) _,zay h.yr (by omega) _,zay h.zr (by omega) _,zas h.b (by omega) _⟩
theorem Fr.congrU {w wr : World} {M : Nat} {fu : Nat → Value} {v x y : Nat} {gu : Nat → Value} (h : Fr w wr M fu v x y) (e : ∀ j,j < 4 → fu j = gu j) : Fr w wr M gu v x y:=⟨h.mr,h.rr,h.ur.congr e,h.vr,h.xr,h.yr,h.zr,h.b⟩
theorem neq4 (f g : Nat → Int) (w : World) : (binOp .neq 24 (.agg #[vI vU (f 0),vI vU (f 1),vI vU (f 2),vI vU (f 3)]) (.agg #[vI vU (g 0),vI vU (g 1),vI vU (g 2),vI vU (g 3)])).run Tryz.prog w = .ok (.bool (!((List.range 4).all fun i => f i == g i))) w:=by
 obtain ⟨i,hi⟩ : ∃ i,Tryz.prog.info? 22 = some i:=Option.isSome_iff_exists.1 (by kernel_rfl)
 have hc : Tryz.prog.cellsOf 22 = 1:=by kernel_rfl
 rw [run_neq_struct,run_equalIn_array (P:=Tryz.prog) w 9999 _ _ Tryz.underlying24 hi,hc]
 rw [run_items 9998 _ _ f g w _ (fun j hj => arr4 (fun j => .int .u64 (f j)) j (by simpa using hj)) (fun j hj => arr4 (fun j => .int .u64 (g j)) j (by simpa using hj))]
 rfl
theorem neq_zero {X : Nat} (hX : X < top) (w : World) : (binOp .neq 24 (.agg #[vI vU (wd X 0),vI vU (wd X 1),vI vU (wd X 2),vI vU (wd X 3)]) (.agg #[vI vU 0,vI vU 0,vI vU 0,vI vU 0])).run Tryz.prog w = .ok (.bool (!decide (X = 0))) w:=by
 have h:=neq4 (wd X) (wd 0) w
 rw [all_wd 4 X 0] at h
 have e : (X % w64 ^ 4 = 0 % w64 ^ 4) = (X = 0):=by rw [Nat.mod_eq_of_lt (show X < w64 ^ 4 from hX),Nat.zero_mod]
 rw [decide_eq_decide.2 (iff_of_eq e)] at h
 have e0 : ∀ i,wd 0 i = 0:=by intro i; unfold wd dg; simp
 simpa [e0] using h
theorem eql_one {X : Nat} (hX : X < top) (w : World) : (binOp .eql 24 (.agg #[vI vU (wd X 0),vI vU (wd X 1),vI vU (wd X 2),vI vU (wd X 3)]) (.agg #[vI vU 1,vI vU 0,vI vU 0,vI vU 0])).run Tryz.prog w = .ok (.bool (decide (X = 1))) w:=by
 have h:=zit hX (show 1 < top by decide) w
 have o0 : wd 1 0 = 1:=by decide
 have o1 : wd 1 1 = 0:=by decide
 have o2 : wd 1 2 = 0:=by decide
 have o3 : wd 1 3 = 0:=by decide
 rw [o0,o1,o2,o3] at h
 exact h
theorem zhz (X M : Nat) (hX : X < M) (hM1 : 1 < M) (hodd : M % 2 = 1) (hM : M < top) (w : World) :
  Calls Tryz.prog 27 #[.agg #[vI vU (wd X 0),vI vU (wd X 1),vI vU (wd X 2),vI vU (wd X 3)],.agg #[vI vU (wd M 0),vI vU (wd M 1),vI vU (wd M 2),vI vU (wd M 3)]] w fun e w' => ∃ y,y < M ∧ (Nat.gcd X M = 1 → X * y % M = 1) ∧ e = .returned (.tuple #[.agg #[vI vU (wd y 0),vI vU (wd y 1),vI vU (wd y 2),vI vU (wd y 3)],.bool (Nat.gcd X M == 1)]) ∧ Below w.heap.size w w':=by
 have hF0 : Fr w ((((((((w.alloc (.cells #[vI vU (wd X 0),vI vU (wd X 1),vI vU (wd X 2),vI vU (wd X 3)] 24)).alloc (.cells #[vI vU (wd M 0),vI vU (wd M 1),vI vU (wd M 2),vI vU (wd M 3)] 24)).alloc (.cells #[vI vU 0,vI vU 0,vI vU 0,vI vU 0] 24)).alloc (.cells #[vI vU (wd X 0),vI vU (wd X 1),vI vU (wd X 2),vI vU (wd X 3)] 24)).alloc (.cells #[vI vU (wd M 0),vI vU (wd M 1),vI vU (wd M 2),vI vU (wd M 3)] 24)).alloc (.cells #[vI vU 1,vI vU 0,vI vU 0,vI vU 0] 24)).alloc (.cells #[vI vU 0,vI vU 0,vI vU 0,vI vU 0] 24)).alloc (.cells #[vI vU 0,vI vU 0,vI vU 0,vI vU 0] 24)) M (fun j => .int .u64 (wd X j)) M 1 0:=⟨(((((((zag (n:=4) (f:=(fun j => .int .u64 (wd M j))) (by simp) rfl (fun i hi => by match i,hi with | 0,_ => rfl | 1,_ => rfl | 2,_ => rfl | 3,_ => rfl)).alloc _).alloc _).alloc _).alloc _).alloc _).alloc _),
  ((((((zag (n:=4) (f:=(fun _ => .int .u64 0)) (by simp) rfl (fun i hi => by match i,hi with | 0,_ => rfl | 1,_ => rfl | 2,_ => rfl | 3,_ => rfl)).alloc _).alloc _).alloc _).alloc _).alloc _),
  (((((zag (n:=4) (f:=(fun j => .int .u64 (wd X j))) (by simp) rfl (fun i hi => by match i,hi with | 0,_ => rfl | 1,_ => rfl | 2,_ => rfl | 3,_ => rfl)).alloc _).alloc _).alloc _).alloc _),
  ((((zag (n:=4) (f:=(fun j => .int .u64 (wd M j))) (by simp) rfl (fun i hi => by match i,hi with | 0,_ => rfl | 1,_ => rfl | 2,_ => rfl | 3,_ => rfl)).alloc _).alloc _).alloc _),
  (((zag (n:=4) (f:=(fun j => .int .u64 (wd 1 j))) (by simp) rfl (fun i hi => by match i,hi with | 0,_ => rfl | 1,_ => rfl | 2,_ => rfl | 3,_ => rfl)).alloc _).alloc _),
  ((zag (n:=4) (f:=(fun j => .int .u64 (wd 0 j))) (by simp) rfl (fun i hi => by match i,hi with | 0,_ => rfl | 1,_ => rfl | 2,_ => rfl | 3,_ => rfl)).alloc _),
  (zag (n:=4) (f:=(fun _ => .int .u64 0)) (by simp) rfl (fun i hi => by match i,hi with | 0,_ => rfl | 1,_ => rfl | 2,_ => rfl | 3,_ => rfl)),
  (((((((((Below.refl _ _).alloc (by simp) _).alloc (by simp) _).alloc (by simp; omega) _).alloc (by simp; omega) _).alloc (by simp; omega) _).alloc (by simp; omega) _).alloc (by simp; omega) _).alloc (by simp; omega) _)⟩
 have hI0:=inv_start hX hM hM1 hodd
 have HM:=veil (And.intro hM1 hodd)
 clear hX hM1 hodd
 go_enter Tryz.func27,Tryz.ntmps27
 go_wp2_with fail
 generalize ((((((((w.alloc (.cells #[vI vU (wd X 0),vI vU (wd X 1),vI vU (wd X 2),vI vU (wd X 3)] 24)).alloc (.cells #[vI vU (wd M 0),vI vU (wd M 1),vI vU (wd M 2),vI vU (wd M 3)] 24)).alloc (.cells #[vI vU 0,vI vU 0,vI vU 0,vI vU 0] 24)).alloc (.cells #[vI vU (wd X 0),vI vU (wd X 1),vI vU (wd X 2),vI vU (wd X 3)] 24)).alloc (.cells #[vI vU (wd M 0),vI vU (wd M 1),vI vU (wd M 2),vI vU (wd M 3)] 24)).alloc (.cells #[vI vU 1,vI vU 0,vI vU 0,vI vU 0] 24)).alloc (.cells #[vI vU 0,vI vU 0,vI vU 0,vI vU 0] 24)).alloc (.cells #[vI vU 0,vI vU 0,vI vU 0,vI vU 0] 24)) = w0 at *
 go_loopw [11] (fun i wr => ∃ r u v x y : Nat,i = .int .i64 (r : Int) ∧ Inv X M r u v x y ∧ Fr w wr M (fun j => .int .u64 (wd u j)) v x y)
  (fun i _ => 1100 - (intOf i).toNat)
 case atStart => exact ⟨0,X,M,1,0,rfl,hI0,hF0⟩
 case round =>
  obtain ⟨r,u,v,x,y,rfl,hI,hF⟩:=hrel
  clear hF0 hI0
  have hr : (r : Int) < 1100:=by obtain ⟨p,q,_,_,h⟩:=hI.left; omega
  obtain ⟨u0,u1,u2,u3⟩:=zae hF.ur
  obtain ⟨z0,z1,z2,z3⟩:=zae hF.zr
  have kz:=fun W => neq_zero hI.hu W
  by_cases hu0 : u = 0
  ·
   rw [show decide (u = 0) = true by simpa using hu0] at kz
   have HU:=veil hu0
   clear hu0
   have hgv : Nat.gcd X M = v:=by rw [← hI.g,HU.out,Nat.gcd_zero_left]
   obtain ⟨bb,hbb⟩ : ∃ bb,bb = decide (v = 1):=⟨_,rfl⟩
   have k1:=fun W => eql_one hI.hv W
   rw [← hbb] at k1
   have HB:=veil hbb
   have HG:=veil hgv
   clear hbb hgv
   go_wp2_with fail
   obtain ⟨y0,y1,y2,y3⟩:=zae hF.yr
   obtain ⟨v0,v1,v2,v3⟩:=zae hF.vr
   obtain ⟨r0,r1,r2,r3⟩:=zae hF.rr
   obtain ⟨f0,f1,f2,f3⟩:=zaj hF.rr
   go_region_held3 (fun w' => w'.cell? ⟨w.heap.size + 1 + 1 + 1 + 1 + 1 + 1,0,none⟩ = some (vI vU (wd y 0)) ∧ w'.cell? ⟨w.heap.size + 1 + 1 + 1 + 1 + 1 + 1,1,none⟩ = some (vI vU (wd y 1)) ∧ w'.cell? ⟨w.heap.size + 1 + 1 + 1 + 1 + 1 + 1,2,none⟩ = some (vI vU (wd y 2)) ∧ w'.cell? ⟨w.heap.size + 1 + 1 + 1 + 1 + 1 + 1,3,none⟩ = some (vI vU (wd y 3)) ∧ w'.cell? ⟨w.heap.size + 1 + 1 + 1 + 1,0,none⟩ = some (vI vU (wd v 0)) ∧ w'.cell? ⟨w.heap.size + 1 + 1 + 1 + 1,1,none⟩ = some (vI vU (wd v 1)) ∧ w'.cell? ⟨w.heap.size + 1 + 1 + 1 + 1,2,none⟩ = some (vI vU (wd v 2)) ∧ w'.cell? ⟨w.heap.size + 1 + 1 + 1 + 1,3,none⟩ = some (vI vU (wd v 3)))
    (go_keep)
    (fail)
   go_wp2
   refine bodyPost_ret (zcb rfl _ _ (w.heap.size + 1 + 1) 24 #[vI vU (wd y 0),vI vU (wd y 1),vI vU (wd y 2),vI vU (wd y 3)] (0,0) 4 22 rfl (blk4 (put4 hF.rr fun j => .int .u64 (wd y j)).drew) Tryz.underlying24 (by kernel_rfl)) rfl ⟨y,hI.hy,?_,?_,(zap hF.b (by omega) _ _ _ _).drew⟩
   ·
    intro hg
    rw [hI.ey,← HG.out,hg,Nat.mod_eq_of_lt HM.out.1]
   ·
    show Ending.returned (.tuple #[.agg #[vI vU (wd y 0),vI vU (wd y 1),vI vU (wd y 2),vI vU (wd y 3)],.bool bb]) = .returned (.tuple #[.agg #[vI vU (wd y 0),vI vU (wd y 1),vI vU (wd y 2),vI vU (wd y 3)],.bool (Nat.gcd X M == 1)])
    rw [HB.out,HG.out]
    rfl
  ·
   rw [show decide (u = 0) = false by simpa using hu0] at kz
   have HU:=veil hu0
   clear hu0
   have hp0:=wd_lo u 0
   by_cases hpar : u % 2 = 0
   ·
    have hp : wd u 0 % 2 = 0:=by rw [wd_par,hpar]; rfl
    have HP:=veil hpar
    clear hpar
    obtain ⟨K,hK⟩ : ∃ K,K = hf x M:=⟨_,rfl⟩
    have h1:=fun W => ghalf_calls x M hI.hx hM W
    rw [← hK] at h1
    have H1:=veil h1
    have HK:=veil hK
    clear h1 hK
    clear u0 u1 u2 u3
    obtain ⟨u0,u1,u2,u3⟩:=zae hF.ur
    obtain ⟨v0,v1,v2,v3⟩:=zae hF.vr
    obtain ⟨x0,x1,x2,x3⟩:=zae hF.xr
    obtain ⟨y0,y1,y2,y3⟩:=zae hF.yr
    obtain ⟨m0,m1,m2,m3⟩:=zae hF.mr
    obtain ⟨fu0,fu1,fu2,fu3⟩:=zaj hF.ur
    obtain ⟨fv0,fv1,fv2,fv3⟩:=zaj hF.vr
    obtain ⟨fx0,fx1,fx2,fx3⟩:=zaj hF.xr
    obtain ⟨fy0,fy1,fy2,fy3⟩:=zaj hF.yr
    go_wp2_with fail
    refine (H1.out _).mono ?_
    rintro e w1 ⟨rfl,hb1⟩
    clear u0 u1 u2 u3 v0 v1 v2 v3 x0 x1 x2 x3 y0 y1 y2 y3 m0 m1 m2 m3 fu0 fu1 fu2 fu3 fv0 fv1 fv2 fv3 fx0 fx1 fx2 fx3 fy0 fy1 fy2 fy3
    clear z0 z1 z2 z3
    replace hF:=hF.call hb1
    clear hb1 kz hp hp0
    obtain ⟨u0,u1,u2,u3⟩:=zae hF.ur
    obtain ⟨v0,v1,v2,v3⟩:=zae hF.vr
    obtain ⟨x0,x1,x2,x3⟩:=zae hF.xr
    obtain ⟨y0,y1,y2,y3⟩:=zae hF.yr
    obtain ⟨m0,m1,m2,m3⟩:=zae hF.mr
    obtain ⟨fu0,fu1,fu2,fu3⟩:=zaj hF.ur
    obtain ⟨fv0,fv1,fv2,fv3⟩:=zaj hF.vr
    obtain ⟨fx0,fx1,fx2,fx3⟩:=zaj hF.xr
    obtain ⟨fy0,fy1,fy2,fy3⟩:=zaj hF.yr
    go_upto_region 11 with (fail)
    clear u0 u1 u2 u3 v0 v1 v2 v3 x0 x1 x2 x3 y0 y1 y2 y3 m0 m1 m2 m3 fu0 fu1 fu2 fu3 fv0 fv1 fv2 fv3 fx0 fx1 fx2 fx3 fy0 fy1 fy2 fy3
    replace hF:=hF.putX K
    generalize (((w1.setCell ⟨w.heap.size + 1 + 1 + 1 + 1 + 1,0,none⟩ (.int .u64 (wd K 0))).setCell ⟨w.heap.size + 1 + 1 + 1 + 1 + 1,1,none⟩ (.int .u64 (wd K 1))).setCell ⟨w.heap.size + 1 + 1 + 1 + 1 + 1,2,none⟩ (.int .u64 (wd K 2))).setCell ⟨w.heap.size + 1 + 1 + 1 + 1 + 1,3,none⟩ (.int .u64 (wd K 3)) = v1 at *
    go_wp2_with fail
    go_loopw [12] (fun i wr => ∃ k : Nat,k ≤ 4 ∧ i = .int .i64 (k : Int) ∧ Fr w wr M (fun j => .int .u64 (if j < k then wd (u / 2) j else wd u j)) v K y)
     (fun i _ => 4 - (intOf i).toNat)
    case atStart => exact ⟨0,by omega,rfl,hF.congrU (fun j _ => by simp)⟩
    case round =>
     obtain ⟨k,hk,rfl,hF⟩:=hrel
     by_cases hlt : k < 4
     ·
      have c1:=hF.ur.cell hlt
      rw [if_neg (by omega)] at c1
      have f1:=hF.ur.frozen k
      have l1:=wd_lo u k
      have u1:=wd_le u k
      by_cases h3 : k < 3
      ·
       have c2:=hF.ur.cell (show k + 1 < 4 by omega)
       rw [if_neg (by omega)] at c2
       have h3i : (k : Int) < 3:=by omega
       have l2:=wd_lo u (k + 1)
       by_cases hb : wd u (k + 1) % 2 = 1
       ·
        have HC:=veil (zfq u k hb)
        go_wp2
        go_roundw
        case rel =>
         rw [HC.out]
         exact ⟨k + 1,by omega,by go_num,((hF.setU k _).setU k _).congrU (zii hlt)⟩
        case measure => simp [intOf]; omega
       ·
        have hb0 : wd u (k + 1) % 2 = 0:=by omega
        have HC:=veil (zdx u k hb0)
        clear hb
        go_wp2
        go_roundw
        case rel =>
         rw [HC.out]
         exact ⟨k + 1,by omega,by go_num,(hF.setU k _).congrU (zen hlt)⟩
        case measure => simp [intOf]; omega
      ·
       obtain rfl : k = 3:=by omega
       have HC:=veil (zfp u hI.hu)
       go_wp2
       go_roundw
       case rel =>
        rw [HC.out]
        exact ⟨4,by omega,by go_num,(hF.setU 3 _).congrU (zen (by omega))⟩
       case measure => simp [intOf]
     ·
      obtain rfl : k = 4:=by omega
      go_wp2
      go_roundw
      case rel => exact ⟨r + 1,u / 2,v,K,y,by go_num,by rw [HK.out]; exact inv_even hI HM.out.2 HP.out HU.out,hF.congrU (fun j hj => by rw [if_pos hj])⟩
      case measure => simp [intOf]; omega
   ·
    have hp : wd u 0 % 2 = 1:=by rw [wd_par,show u % 2 = 1 by omega]; rfl
    have HP:=veil (show u % 2 = 1 by omega)
    clear hpar
    clear u0 u1 u2 u3
    by_cases hlt : u < v
    ·
     have hD : (v + top - u) % top = v - u:=by
      have:=hI.hu; have:=hI.hv
      rw [show v + top - u = (v - u) + top by omega,Nat.add_mod_right,Nat.mod_eq_of_lt (by omega)]
     obtain ⟨D,hDD⟩ : ∃ D,D = v - u:=⟨_,rfl⟩
     rw [← hDD] at hD
     have H2:=veil (fun W => zgd v u D hD hI.hv hI.hu W)
     obtain ⟨K,hK⟩ : ∃ K,K = (y + M - x) % M:=⟨_,rfl⟩
     have h3:=fun W => zhy y x M hI.hy hI.hx hM W
     rw [← hK] at h3
     have H3:=veil h3
     have H1:=veil (fun W => zft u v true (by simpa using hlt) hI.hu hI.hv W)
     have HN:=veil (inv_less hI HP.out hlt)
     rw [← hDD,← hK] at HN
     clear hD hDD hK h3 hlt
     obtain ⟨u0,u1,u2,u3⟩:=zae hF.ur
     obtain ⟨v0,v1,v2,v3⟩:=zae hF.vr
     obtain ⟨x0,x1,x2,x3⟩:=zae hF.xr
     obtain ⟨y0,y1,y2,y3⟩:=zae hF.yr
     obtain ⟨m0,m1,m2,m3⟩:=zae hF.mr
     obtain ⟨fu0,fu1,fu2,fu3⟩:=zaj hF.ur
     obtain ⟨fv0,fv1,fv2,fv3⟩:=zaj hF.vr
     obtain ⟨fx0,fx1,fx2,fx3⟩:=zaj hF.xr
     obtain ⟨fy0,fy1,fy2,fy3⟩:=zaj hF.yr
     go_wp2_with fail
     refine (H1.out _).mono ?_
     rintro e w1 ⟨rfl,hb1⟩
     clear u0 u1 u2 u3 v0 v1 v2 v3 x0 x1 x2 x3 y0 y1 y2 y3 m0 m1 m2 m3 fu0 fu1 fu2 fu3 fv0 fv1 fv2 fv3 fx0 fx1 fx2 fx3 fy0 fy1 fy2 fy3
     clear z0 z1 z2 z3
     replace hF:=hF.call hb1
     clear hb1 kz hp hp0
     obtain ⟨u0,u1,u2,u3⟩:=zae hF.ur
     obtain ⟨v0,v1,v2,v3⟩:=zae hF.vr
     obtain ⟨x0,x1,x2,x3⟩:=zae hF.xr
     obtain ⟨y0,y1,y2,y3⟩:=zae hF.yr
     obtain ⟨m0,m1,m2,m3⟩:=zae hF.mr
     obtain ⟨fu0,fu1,fu2,fu3⟩:=zaj hF.ur
     obtain ⟨fv0,fv1,fv2,fv3⟩:=zaj hF.vr
     obtain ⟨fx0,fx1,fx2,fx3⟩:=zaj hF.xr
     obtain ⟨fy0,fy1,fy2,fy3⟩:=zaj hF.yr
     go_upto_region 18 with (fail)
     go_upto_region 19 with (fail)
     clear u0 u1 u2 u3 v0 v1 v2 v3 x0 x1 x2 x3 y0 y1 y2 y3 m0 m1 m2 m3 fu0 fu1 fu2 fu3 fv0 fv1 fv2 fv3 fx0 fx1 fx2 fx3 fy0 fy1 fy2 fy3
     have hg:=hF.zr.lt
     have hT : (w1.alloc (.cells #[vI vU (wd u 0),vI vU (wd u 1),vI vU (wd u 2),vI vU (wd u 3)] 24)).rowIs w1.heap.size 24 4 (fun j => .int .u64 (wd u j)):=zag (n:=4) rfl rfl (arr4 fun j => .int .u64 (wd u j))
     replace hF:=hF.alloc (.cells #[vI vU (wd u 0),vI vU (wd u 1),vI vU (wd u 2),vI vU (wd u 3)] 24)
     generalize w1.heap.size = g at *
     generalize w1.alloc (.cells #[vI vU (wd u 0),vI vU (wd u 1),vI vU (wd u 2),vI vU (wd u 3)] 24) = v1 at *
     obtain ⟨u0,u1,u2,u3⟩:=zae hF.ur
     obtain ⟨v0,v1,v2,v3⟩:=zae hF.vr
     obtain ⟨x0,x1,x2,x3⟩:=zae hF.xr
     obtain ⟨y0,y1,y2,y3⟩:=zae hF.yr
     obtain ⟨m0,m1,m2,m3⟩:=zae hF.mr
     obtain ⟨fu0,fu1,fu2,fu3⟩:=zaj hF.ur
     obtain ⟨fv0,fv1,fv2,fv3⟩:=zaj hF.vr
     obtain ⟨fx0,fx1,fx2,fx3⟩:=zaj hF.xr
     obtain ⟨fy0,fy1,fy2,fy3⟩:=zaj hF.yr
     obtain ⟨t0,t1,t2,t3⟩:=zae hT
     obtain ⟨ft0,ft1,ft2,ft3⟩:=zaj hT
     go_upto_region 20 with (fail)
     clear u0 u1 u2 u3 v0 v1 v2 v3 x0 x1 x2 x3 y0 y1 y2 y3 m0 m1 m2 m3 fu0 fu1 fu2 fu3 fv0 fv1 fv2 fv3 fx0 fx1 fx2 fx3 fy0 fy1 fy2 fy3 t0 t1 t2 t3 ft0 ft1 ft2 ft3
     replace hF:=hF.putU v
     replace hT:=zam hT (b':=w.heap.size + 1 + 1 + 1) (by omega) (.int .u64 (wd v 0)) (.int .u64 (wd v 1)) (.int .u64 (wd v 2)) (.int .u64 (wd v 3))
     generalize (((v1.setCell ⟨w.heap.size + 1 + 1 + 1,0,none⟩ (.int .u64 (wd v 0))).setCell ⟨w.heap.size + 1 + 1 + 1,1,none⟩ (.int .u64 (wd v 1))).setCell ⟨w.heap.size + 1 + 1 + 1,2,none⟩ (.int .u64 (wd v 2))).setCell ⟨w.heap.size + 1 + 1 + 1,3,none⟩ (.int .u64 (wd v 3)) = v2 at *
     obtain ⟨u0,u1,u2,u3⟩:=zae hF.ur
     obtain ⟨v0,v1,v2,v3⟩:=zae hF.vr
     obtain ⟨x0,x1,x2,x3⟩:=zae hF.xr
     obtain ⟨y0,y1,y2,y3⟩:=zae hF.yr
     obtain ⟨m0,m1,m2,m3⟩:=zae hF.mr
     obtain ⟨fu0,fu1,fu2,fu3⟩:=zaj hF.ur
     obtain ⟨fv0,fv1,fv2,fv3⟩:=zaj hF.vr
     obtain ⟨fx0,fx1,fx2,fx3⟩:=zaj hF.xr
     obtain ⟨fy0,fy1,fy2,fy3⟩:=zaj hF.yr
     obtain ⟨t0,t1,t2,t3⟩:=zae hT
     obtain ⟨ft0,ft1,ft2,ft3⟩:=zaj hT
     go_upto_region 21 with (fail)
     clear u0 u1 u2 u3 v0 v1 v2 v3 x0 x1 x2 x3 y0 y1 y2 y3 m0 m1 m2 m3 fu0 fu1 fu2 fu3 fv0 fv1 fv2 fv3 fx0 fx1 fx2 fx3 fy0 fy1 fy2 fy3 t0 t1 t2 t3 ft0 ft1 ft2 ft3
     replace hF:=hF.putV u
     replace hT:=zam hT (b':=w.heap.size + 1 + 1 + 1 + 1) (by omega) (.int .u64 (wd u 0)) (.int .u64 (wd u 1)) (.int .u64 (wd u 2)) (.int .u64 (wd u 3))
     generalize (((v2.setCell ⟨w.heap.size + 1 + 1 + 1 + 1,0,none⟩ (.int .u64 (wd u 0))).setCell ⟨w.heap.size + 1 + 1 + 1 + 1,1,none⟩ (.int .u64 (wd u 1))).setCell ⟨w.heap.size + 1 + 1 + 1 + 1,2,none⟩ (.int .u64 (wd u 2))).setCell ⟨w.heap.size + 1 + 1 + 1 + 1,3,none⟩ (.int .u64 (wd u 3)) = v3 at *
     obtain ⟨u0,u1,u2,u3⟩:=zae hF.ur
     obtain ⟨v0,v1,v2,v3⟩:=zae hF.vr
     obtain ⟨x0,x1,x2,x3⟩:=zae hF.xr
     obtain ⟨y0,y1,y2,y3⟩:=zae hF.yr
     obtain ⟨m0,m1,m2,m3⟩:=zae hF.mr
     obtain ⟨fu0,fu1,fu2,fu3⟩:=zaj hF.ur
     obtain ⟨fv0,fv1,fv2,fv3⟩:=zaj hF.vr
     obtain ⟨fx0,fx1,fx2,fx3⟩:=zaj hF.xr
     obtain ⟨fy0,fy1,fy2,fy3⟩:=zaj hF.yr
     obtain ⟨t0,t1,t2,t3⟩:=zae hT
     obtain ⟨ft0,ft1,ft2,ft3⟩:=zaj hT
     go_upto_region 22 with (fail)
     clear u0 u1 u2 u3 v0 v1 v2 v3 x0 x1 x2 x3 y0 y1 y2 y3 m0 m1 m2 m3 fu0 fu1 fu2 fu3 fv0 fv1 fv2 fv3 fx0 fx1 fx2 fx3 fy0 fy1 fy2 fy3 t0 t1 t2 t3 ft0 ft1 ft2 ft3
     replace hT:=put4 hT (fun j => .int .u64 (wd x j))
     replace hF:=hF.putT hg x
     generalize (((v3.setCell ⟨g,0,none⟩ (.int .u64 (wd x 0))).setCell ⟨g,1,none⟩ (.int .u64 (wd x 1))).setCell ⟨g,2,none⟩ (.int .u64 (wd x 2))).setCell ⟨g,3,none⟩ (.int .u64 (wd x 3)) = v4 at *
     obtain ⟨u0,u1,u2,u3⟩:=zae hF.ur
     obtain ⟨v0,v1,v2,v3⟩:=zae hF.vr
     obtain ⟨x0,x1,x2,x3⟩:=zae hF.xr
     obtain ⟨y0,y1,y2,y3⟩:=zae hF.yr
     obtain ⟨m0,m1,m2,m3⟩:=zae hF.mr
     obtain ⟨fu0,fu1,fu2,fu3⟩:=zaj hF.ur
     obtain ⟨fv0,fv1,fv2,fv3⟩:=zaj hF.vr
     obtain ⟨fx0,fx1,fx2,fx3⟩:=zaj hF.xr
     obtain ⟨fy0,fy1,fy2,fy3⟩:=zaj hF.yr
     obtain ⟨t0,t1,t2,t3⟩:=zae hT
     obtain ⟨ft0,ft1,ft2,ft3⟩:=zaj hT
     go_upto_region 23 with (fail)
     clear u0 u1 u2 u3 v0 v1 v2 v3 x0 x1 x2 x3 y0 y1 y2 y3 m0 m1 m2 m3 fu0 fu1 fu2 fu3 fv0 fv1 fv2 fv3 fx0 fx1 fx2 fx3 fy0 fy1 fy2 fy3 t0 t1 t2 t3 ft0 ft1 ft2 ft3
     replace hF:=hF.putX y
     replace hT:=zam hT (b':=w.heap.size + 1 + 1 + 1 + 1 + 1) (by omega) (.int .u64 (wd y 0)) (.int .u64 (wd y 1)) (.int .u64 (wd y 2)) (.int .u64 (wd y 3))
     generalize (((v4.setCell ⟨w.heap.size + 1 + 1 + 1 + 1 + 1,0,none⟩ (.int .u64 (wd y 0))).setCell ⟨w.heap.size + 1 + 1 + 1 + 1 + 1,1,none⟩ (.int .u64 (wd y 1))).setCell ⟨w.heap.size + 1 + 1 + 1 + 1 + 1,2,none⟩ (.int .u64 (wd y 2))).setCell ⟨w.heap.size + 1 + 1 + 1 + 1 + 1,3,none⟩ (.int .u64 (wd y 3)) = v5 at *
     obtain ⟨u0,u1,u2,u3⟩:=zae hF.ur
     obtain ⟨v0,v1,v2,v3⟩:=zae hF.vr
     obtain ⟨x0,x1,x2,x3⟩:=zae hF.xr
     obtain ⟨y0,y1,y2,y3⟩:=zae hF.yr
     obtain ⟨m0,m1,m2,m3⟩:=zae hF.mr
     obtain ⟨fu0,fu1,fu2,fu3⟩:=zaj hF.ur
     obtain ⟨fv0,fv1,fv2,fv3⟩:=zaj hF.vr
     obtain ⟨fx0,fx1,fx2,fx3⟩:=zaj hF.xr
     obtain ⟨fy0,fy1,fy2,fy3⟩:=zaj hF.yr
     obtain ⟨t0,t1,t2,t3⟩:=zae hT
     obtain ⟨ft0,ft1,ft2,ft3⟩:=zaj hT
     go_upto_region 24 with (fail)
     clear u0 u1 u2 u3 v0 v1 v2 v3 x0 x1 x2 x3 y0 y1 y2 y3 m0 m1 m2 m3 fu0 fu1 fu2 fu3 fv0 fv1 fv2 fv3 fx0 fx1 fx2 fx3 fy0 fy1 fy2 fy3 t0 t1 t2 t3 ft0 ft1 ft2 ft3
     replace hF:=hF.putY x
     replace hT:=zam hT (b':=w.heap.size + 1 + 1 + 1 + 1 + 1 + 1) (by omega) (.int .u64 (wd x 0)) (.int .u64 (wd x 1)) (.int .u64 (wd x 2)) (.int .u64 (wd x 3))
     generalize (((v5.setCell ⟨w.heap.size + 1 + 1 + 1 + 1 + 1 + 1,0,none⟩ (.int .u64 (wd x 0))).setCell ⟨w.heap.size + 1 + 1 + 1 + 1 + 1 + 1,1,none⟩ (.int .u64 (wd x 1))).setCell ⟨w.heap.size + 1 + 1 + 1 + 1 + 1 + 1,2,none⟩ (.int .u64 (wd x 2))).setCell ⟨w.heap.size + 1 + 1 + 1 + 1 + 1 + 1,3,none⟩ (.int .u64 (wd x 3)) = v6 at *
     clear hT hg
     obtain ⟨u0,u1,u2,u3⟩:=zae hF.ur
     obtain ⟨v0,v1,v2,v3⟩:=zae hF.vr
     obtain ⟨x0,x1,x2,x3⟩:=zae hF.xr
     obtain ⟨y0,y1,y2,y3⟩:=zae hF.yr
     obtain ⟨m0,m1,m2,m3⟩:=zae hF.mr
     obtain ⟨fu0,fu1,fu2,fu3⟩:=zaj hF.ur
     obtain ⟨fv0,fv1,fv2,fv3⟩:=zaj hF.vr
     obtain ⟨fx0,fx1,fx2,fx3⟩:=zaj hF.xr
     obtain ⟨fy0,fy1,fy2,fy3⟩:=zaj hF.yr
     go_wp2_with fail
     refine (H2.out _).mono ?_
     rintro e w2 ⟨rfl,hb2⟩
     clear u0 u1 u2 u3 v0 v1 v2 v3 x0 x1 x2 x3 y0 y1 y2 y3 m0 m1 m2 m3 fu0 fu1 fu2 fu3 fv0 fv1 fv2 fv3 fx0 fx1 fx2 fx3 fy0 fy1 fy2 fy3
     replace hF:=hF.call hb2
     clear hb2
     obtain ⟨u0,u1,u2,u3⟩:=zae hF.ur
     obtain ⟨v0,v1,v2,v3⟩:=zae hF.vr
     obtain ⟨x0,x1,x2,x3⟩:=zae hF.xr
     obtain ⟨y0,y1,y2,y3⟩:=zae hF.yr
     obtain ⟨m0,m1,m2,m3⟩:=zae hF.mr
     obtain ⟨fu0,fu1,fu2,fu3⟩:=zaj hF.ur
     obtain ⟨fv0,fv1,fv2,fv3⟩:=zaj hF.vr
     obtain ⟨fx0,fx1,fx2,fx3⟩:=zaj hF.xr
     obtain ⟨fy0,fy1,fy2,fy3⟩:=zaj hF.yr
     go_upto_region 25 with (fail)
     clear u0 u1 u2 u3 v0 v1 v2 v3 x0 x1 x2 x3 y0 y1 y2 y3 m0 m1 m2 m3 fu0 fu1 fu2 fu3 fv0 fv1 fv2 fv3 fx0 fx1 fx2 fx3 fy0 fy1 fy2 fy3
     replace hF:=hF.putU D
     generalize (((w2.setCell ⟨w.heap.size + 1 + 1 + 1,0,none⟩ (.int .u64 (wd D 0))).setCell ⟨w.heap.size + 1 + 1 + 1,1,none⟩ (.int .u64 (wd D 1))).setCell ⟨w.heap.size + 1 + 1 + 1,2,none⟩ (.int .u64 (wd D 2))).setCell ⟨w.heap.size + 1 + 1 + 1,3,none⟩ (.int .u64 (wd D 3)) = v7 at *
     obtain ⟨u0,u1,u2,u3⟩:=zae hF.ur
     obtain ⟨v0,v1,v2,v3⟩:=zae hF.vr
     obtain ⟨x0,x1,x2,x3⟩:=zae hF.xr
     obtain ⟨y0,y1,y2,y3⟩:=zae hF.yr
     obtain ⟨m0,m1,m2,m3⟩:=zae hF.mr
     obtain ⟨fu0,fu1,fu2,fu3⟩:=zaj hF.ur
     obtain ⟨fv0,fv1,fv2,fv3⟩:=zaj hF.vr
     obtain ⟨fx0,fx1,fx2,fx3⟩:=zaj hF.xr
     obtain ⟨fy0,fy1,fy2,fy3⟩:=zaj hF.yr
     go_wp2_with fail
     refine (H3.out _).mono ?_
     rintro e w3 ⟨rfl,hb3⟩
     clear u0 u1 u2 u3 v0 v1 v2 v3 x0 x1 x2 x3 y0 y1 y2 y3 m0 m1 m2 m3 fu0 fu1 fu2 fu3 fv0 fv1 fv2 fv3 fx0 fx1 fx2 fx3 fy0 fy1 fy2 fy3
     replace hF:=hF.call hb3
     clear hb3
     obtain ⟨u0,u1,u2,u3⟩:=zae hF.ur
     obtain ⟨v0,v1,v2,v3⟩:=zae hF.vr
     obtain ⟨x0,x1,x2,x3⟩:=zae hF.xr
     obtain ⟨y0,y1,y2,y3⟩:=zae hF.yr
     obtain ⟨m0,m1,m2,m3⟩:=zae hF.mr
     obtain ⟨fu0,fu1,fu2,fu3⟩:=zaj hF.ur
     obtain ⟨fv0,fv1,fv2,fv3⟩:=zaj hF.vr
     obtain ⟨fx0,fx1,fx2,fx3⟩:=zaj hF.xr
     obtain ⟨fy0,fy1,fy2,fy3⟩:=zaj hF.yr
     go_upto_region 8 with (fail)
     clear u0 u1 u2 u3 v0 v1 v2 v3 x0 x1 x2 x3 y0 y1 y2 y3 m0 m1 m2 m3 fu0 fu1 fu2 fu3 fv0 fv1 fv2 fv3 fx0 fx1 fx2 fx3 fy0 fy1 fy2 fy3
     replace hF:=hF.putX K
     generalize (((w3.setCell ⟨w.heap.size + 1 + 1 + 1 + 1 + 1,0,none⟩ (.int .u64 (wd K 0))).setCell ⟨w.heap.size + 1 + 1 + 1 + 1 + 1,1,none⟩ (.int .u64 (wd K 1))).setCell ⟨w.heap.size + 1 + 1 + 1 + 1 + 1,2,none⟩ (.int .u64 (wd K 2))).setCell ⟨w.heap.size + 1 + 1 + 1 + 1 + 1,3,none⟩ (.int .u64 (wd K 3)) = v8 at *
     go_wp2
     go_roundw
     case rel => exact ⟨r + 1,D,u,K,x,by go_num,HN.out,hF⟩
     case measure => simp [intOf]; omega
    ·
     have hD : (u + top - v) % top = u - v:=by
      have:=hI.hu; have:=hI.hv
      rw [show u + top - v = (u - v) + top by omega,Nat.add_mod_right,Nat.mod_eq_of_lt (by omega)]
     obtain ⟨D,hDD⟩ : ∃ D,D = u - v:=⟨_,rfl⟩
     rw [← hDD] at hD
     have H2:=veil (fun W => zgd u v D hD hI.hu hI.hv W)
     obtain ⟨K,hK⟩ : ∃ K,K = (x + M - y) % M:=⟨_,rfl⟩
     have h3:=fun W => zhy x y M hI.hx hI.hy hM W
     rw [← hK] at h3
     have H3:=veil h3
     have H1:=veil (fun W => zft u v false (by simpa using hlt) hI.hu hI.hv W)
     have HN:=veil (inv_more hI HP.out (by omega))
     rw [← hDD,← hK] at HN
     clear hD hDD hK h3 hlt
     obtain ⟨u0,u1,u2,u3⟩:=zae hF.ur
     obtain ⟨v0,v1,v2,v3⟩:=zae hF.vr
     obtain ⟨x0,x1,x2,x3⟩:=zae hF.xr
     obtain ⟨y0,y1,y2,y3⟩:=zae hF.yr
     obtain ⟨m0,m1,m2,m3⟩:=zae hF.mr
     obtain ⟨fu0,fu1,fu2,fu3⟩:=zaj hF.ur
     obtain ⟨fv0,fv1,fv2,fv3⟩:=zaj hF.vr
     obtain ⟨fx0,fx1,fx2,fx3⟩:=zaj hF.xr
     obtain ⟨fy0,fy1,fy2,fy3⟩:=zaj hF.yr
     go_wp2_with fail
     refine (H1.out _).mono ?_
     rintro e w1 ⟨rfl,hb1⟩
     clear u0 u1 u2 u3 v0 v1 v2 v3 x0 x1 x2 x3 y0 y1 y2 y3 m0 m1 m2 m3 fu0 fu1 fu2 fu3 fv0 fv1 fv2 fv3 fx0 fx1 fx2 fx3 fy0 fy1 fy2 fy3
     clear z0 z1 z2 z3
     replace hF:=hF.call hb1
     clear hb1 kz hp hp0
     obtain ⟨u0,u1,u2,u3⟩:=zae hF.ur
     obtain ⟨v0,v1,v2,v3⟩:=zae hF.vr
     obtain ⟨x0,x1,x2,x3⟩:=zae hF.xr
     obtain ⟨y0,y1,y2,y3⟩:=zae hF.yr
     obtain ⟨m0,m1,m2,m3⟩:=zae hF.mr
     obtain ⟨fu0,fu1,fu2,fu3⟩:=zaj hF.ur
     obtain ⟨fv0,fv1,fv2,fv3⟩:=zaj hF.vr
     obtain ⟨fx0,fx1,fx2,fx3⟩:=zaj hF.xr
     obtain ⟨fy0,fy1,fy2,fy3⟩:=zaj hF.yr
     go_wp2_with fail
     refine (H2.out _).mono ?_
     rintro e w2 ⟨rfl,hb2⟩
     clear u0 u1 u2 u3 v0 v1 v2 v3 x0 x1 x2 x3 y0 y1 y2 y3 m0 m1 m2 m3 fu0 fu1 fu2 fu3 fv0 fv1 fv2 fv3 fx0 fx1 fx2 fx3 fy0 fy1 fy2 fy3
     replace hF:=hF.call hb2
     clear hb2
     obtain ⟨u0,u1,u2,u3⟩:=zae hF.ur
     obtain ⟨v0,v1,v2,v3⟩:=zae hF.vr
     obtain ⟨x0,x1,x2,x3⟩:=zae hF.xr
     obtain ⟨y0,y1,y2,y3⟩:=zae hF.yr
     obtain ⟨m0,m1,m2,m3⟩:=zae hF.mr
     obtain ⟨fu0,fu1,fu2,fu3⟩:=zaj hF.ur
     obtain ⟨fv0,fv1,fv2,fv3⟩:=zaj hF.vr
     obtain ⟨fx0,fx1,fx2,fx3⟩:=zaj hF.xr
     obtain ⟨fy0,fy1,fy2,fy3⟩:=zaj hF.yr
     go_upto_region 25 with (fail)
     clear u0 u1 u2 u3 v0 v1 v2 v3 x0 x1 x2 x3 y0 y1 y2 y3 m0 m1 m2 m3 fu0 fu1 fu2 fu3 fv0 fv1 fv2 fv3 fx0 fx1 fx2 fx3 fy0 fy1 fy2 fy3
     replace hF:=hF.putU D
     generalize (((w2.setCell ⟨w.heap.size + 1 + 1 + 1,0,none⟩ (.int .u64 (wd D 0))).setCell ⟨w.heap.size + 1 + 1 + 1,1,none⟩ (.int .u64 (wd D 1))).setCell ⟨w.heap.size + 1 + 1 + 1,2,none⟩ (.int .u64 (wd D 2))).setCell ⟨w.heap.size + 1 + 1 + 1,3,none⟩ (.int .u64 (wd D 3)) = v2 at *
     obtain ⟨u0,u1,u2,u3⟩:=zae hF.ur
     obtain ⟨v0,v1,v2,v3⟩:=zae hF.vr
     obtain ⟨x0,x1,x2,x3⟩:=zae hF.xr
     obtain ⟨y0,y1,y2,y3⟩:=zae hF.yr
     obtain ⟨m0,m1,m2,m3⟩:=zae hF.mr
     obtain ⟨fu0,fu1,fu2,fu3⟩:=zaj hF.ur
     obtain ⟨fv0,fv1,fv2,fv3⟩:=zaj hF.vr
     obtain ⟨fx0,fx1,fx2,fx3⟩:=zaj hF.xr
     obtain ⟨fy0,fy1,fy2,fy3⟩:=zaj hF.yr
     go_wp2_with fail
     refine (H3.out _).mono ?_
     rintro e w3 ⟨rfl,hb3⟩
     clear u0 u1 u2 u3 v0 v1 v2 v3 x0 x1 x2 x3 y0 y1 y2 y3 m0 m1 m2 m3 fu0 fu1 fu2 fu3 fv0 fv1 fv2 fv3 fx0 fx1 fx2 fx3 fy0 fy1 fy2 fy3
     replace hF:=hF.call hb3
     clear hb3
     obtain ⟨u0,u1,u2,u3⟩:=zae hF.ur
     obtain ⟨v0,v1,v2,v3⟩:=zae hF.vr
     obtain ⟨x0,x1,x2,x3⟩:=zae hF.xr
     obtain ⟨y0,y1,y2,y3⟩:=zae hF.yr
     obtain ⟨m0,m1,m2,m3⟩:=zae hF.mr
     obtain ⟨fu0,fu1,fu2,fu3⟩:=zaj hF.ur
     obtain ⟨fv0,fv1,fv2,fv3⟩:=zaj hF.vr
     obtain ⟨fx0,fx1,fx2,fx3⟩:=zaj hF.xr
     obtain ⟨fy0,fy1,fy2,fy3⟩:=zaj hF.yr
     go_upto_region 8 with (fail)
     clear u0 u1 u2 u3 v0 v1 v2 v3 x0 x1 x2 x3 y0 y1 y2 y3 m0 m1 m2 m3 fu0 fu1 fu2 fu3 fv0 fv1 fv2 fv3 fx0 fx1 fx2 fx3 fy0 fy1 fy2 fy3
     replace hF:=hF.putX K
     generalize (((w3.setCell ⟨w.heap.size + 1 + 1 + 1 + 1 + 1,0,none⟩ (.int .u64 (wd K 0))).setCell ⟨w.heap.size + 1 + 1 + 1 + 1 + 1,1,none⟩ (.int .u64 (wd K 1))).setCell ⟨w.heap.size + 1 + 1 + 1 + 1 + 1,2,none⟩ (.int .u64 (wd K 2))).setCell ⟨w.heap.size + 1 + 1 + 1 + 1 + 1,3,none⟩ (.int .u64 (wd K 3)) = v3 at *
     go_wp2
     go_roundw
     case rel => exact ⟨r + 1,D,v,K,y,by go_num,HN.out,hF⟩
     case measure => simp [intOf]; omega
def rightN (X : Nat) : Nat:=((X * X % Pt.pp * X % Pt.pp + Pt.pp - 3 * X % Pt.pp) % Pt.pp + Pt.bb) % Pt.pp
def onB (X Y : Nat) (f : Bool) : Bool:=if f then decide (X = 0) && decide (Y = 0) else decide (X < Pt.pp) && (decide (Y < Pt.pp) && decide (Y * Y % Pt.pp = rightN X))
theorem eql_zero {X : Nat} (hX : X < top) (w : World) : (binOp .eql 24 (.agg #[vI vU (wd X 0),vI vU (wd X 1),vI vU (wd X 2),vI vU (wd X 3)]) (.agg #[vI vU 0,vI vU 0,vI vU 0,vI vU 0])).run Tryz.prog w = .ok (.bool (decide (X = 0))) w:=by
 have h:=zit hX (show 0 < top by decide) w
 have e0 : ∀ i,wd 0 i = 0:=by intro i; unfold wd dg; simp
 simp only [e0] at h
 exact h
theorem lits3 : wd 3 0 = 3 ∧ wd 3 1 = 0 ∧ wd 3 2 = 0 ∧ wd 3 3 = 0:=by decide
theorem three_lt : 3 < Pt.pp:=by decide +kernel
theorem bb_lt : Pt.bb < Pt.pp:=by decide +kernel
def bit (X n : Nat) : Bool:=X / 2 ^ n % 2 == 1
theorem w64_two : w64 = 2 ^ 64:=by decide
theorem w16_two : w16 = 2 ^ 16:=by decide
theorem bit_dg (a n r m : Nat) (hr : r < m) : a / (2 ^ m) ^ n % 2 ^ m / 2 ^ r % 2 = a / 2 ^ (m * n + r) % 2:=by
 have h:=zdj (B:=2) (a / (2 ^ m) ^ n) m r hr
 unfold dg at h
 rw [h,← Nat.pow_mul,Nat.div_div_eq_div_mul,← Nat.pow_add]
theorem bit_word (X n : Nat) : (bits BinOp.and IntKind.u64 (wd X (n / 64) / 2 ^ (n % 64)) 1 == 1) = bit X n:=by
 have e : wd X (n / 64) / 2 ^ (n % 64) = ((dg w64 X (n / 64) / 2 ^ (n % 64) : Nat) : Int):=by
  unfold wd
  rw [Int.natCast_ediv]
  simp
 have hlt : dg w64 X (n / 64) / 2 ^ (n % 64) < 18446744073709551616:=Nat.lt_of_le_of_lt (Nat.div_le_self _ _) (dg_lt zbf X _)
 rw [e,show (1 : Int) = ((1 : Nat) : Int) from rfl,u64_and_nat _ _ hlt (by omega),Nat.and_one_is_mod]
 have h:=bit_dg X (n / 64) (n % 64) 64 (Nat.mod_lt _ (by omega))
 rw [Nat.div_add_mod] at h
 unfold bit dg
 rw [w64_two,h]
 rw [Bool.eq_iff_iff]
 simp only [beq_iff_eq]
 omega
def ph (X q k : Nat) : Int:=((dg w16 X q / 2 ^ k : Nat) : Int)
theorem ph_lo (X q k : Nat) : 0 ≤ ph X q k:=Int.natCast_nonneg _
theorem ph_lt (X q k : Nat) : ph X q k < 65536:=by
 have h : dg w16 X q / 2 ^ k < 65536:=Nat.lt_of_le_of_lt (Nat.div_le_self _ _) (dg_lt zhf X q)
 unfold ph; omega
theorem ph_zero (X q : Nat) : ph X q 0 = pt X q:=by simp [ph,pt]
theorem ph_succ (X q k : Nat) : ph X q (k + 1) = ph X q k / 2:=by
 unfold ph
 rw [Nat.pow_succ,← Nat.div_div_eq_div_mul,Int.natCast_ediv]
 rfl
theorem ph_bit (X n : Nat) : (ph X (n / 16) (n % 16) % 2 == 1) = bit X n:=by
 have h:=bit_dg X (n / 16) (n % 16) 16 (Nat.mod_lt _ (by omega))
 rw [Nat.div_add_mod] at h
 unfold bit ph dg
 rw [w16_two,← h]
 rw [Bool.eq_iff_iff]
 simp only [beq_iff_eq]
 omega
theorem bit_in (X n : Nat) (hn : n < 256) (w : World) :
  Calls Tryz.prog 53 #[.agg #[vI vU (wd X 0),vI vU (wd X 1),vI vU (wd X 2),vI vU (wd X 3)],.int .i64 (n : Int)] w fun e w' => e = .returned (.bool (bit X n)) ∧ Below w.heap.size w w':=by
 have hq : n / 64 < 4:=by omega
 have h0 : ¬ (n : Int) < 0:=by omega
 have h1 : ¬ (256 : Int) ≤ (n : Int):=by omega
 have hR : (w.alloc (.cells #[vI vU (wd X 0),vI vU (wd X 1),vI vU (wd X 2),vI vU (wd X 3)] 24)).rowIs w.heap.size 24 4 (fun j => .int .u64 (wd X j)):=zag (n:=4) (by simp) rfl (arr4 fun j => .int .u64 (wd X j))
 have c1:=hR.cell hq
 have l1:=wd_lo X (n / 64)
 have u1:=wd_le X (n / 64)
 clear hR
 go_enter Tryz.func53,Tryz.ntmps53
 go_wp2
 go_ret
 rw [← bit_word]
 exact ⟨rfl,(Below.refl _ _).alloc (Nat.le_refl _) _⟩
theorem zfa {a b : Int} (h : a = b) : Ending.returned (.int .i64 a) = .returned (.int .i64 b):=by rw [h]
theorem zer (k i : Nat) (hi : i < 256) (hk : k ≤ 56) : wrap64 ((k : Int) + wrap64 (bitLen i : Int)) = ((k + bitLen i : Nat) : Int):=by
 have:=bitLen_le8 i hi
 rw [IntWalk.wrap64_in (bitLen i : Int) (by omega),IntWalk.wrap64_in _ (by omega)]
 omega
theorem zdw (x b : Nat) (h : 2 ^ b ≤ x) : bitLen x = b + bitLen (x / 2 ^ b) :=
 bitLen_shift x b (by have:=Nat.div_pos h (Nat.two_pow_pos b); omega)
theorem len64_0 (x : Int) (hl : 0 ≤ x) (hu : x ≤ 255) (w : World) : Calls Tryz.prog 99 #[vI vU x] w fun e w' => e = .returned (.int .i64 (bitLen x.toNat)) ∧ w' = w:=by
 have h1 : x ≤ 4294967295:=by omega
 have h2 : x ≤ 65535:=by omega
 have h3 : x ≤ 255:=by omega
 have h0 : 0 ≤ x:=by omega
 clear hu hl
 go_enter Tryz.func99,Tryz.ntmps99
 go_wp2
 go_ret
 refine ⟨zfa ?_,rfl⟩
 rw [len8tab_get]
 have h:=zer 0 x.toNat (by omega) (by omega)
 simpa using h
theorem len64_8 (x : Int) (hl : 256 ≤ x) (hu : x ≤ 65535) (w : World) : Calls Tryz.prog 99 #[vI vU x] w fun e w' => e = .returned (.int .i64 (bitLen x.toNat)) ∧ w' = w:=by
 have h1 : x ≤ 4294967295:=by omega
 have h2 : x ≤ 65535:=by omega
 have h3 : (256 : Int) ≤ x:=by omega
 have h4 : x / 256 ≤ 255:=by omega
 have h0 : 0 ≤ x:=by omega
 clear hu hl
 go_enter Tryz.func99,Tryz.ntmps99
 go_wp2
 go_ret
 refine ⟨zfa ?_,rfl⟩
 rw [len8tab_get]
 have e : (x / 256).toNat = x.toNat / 2 ^ 8:=by show _ = x.toNat / 256; omega
 rw [e,zdw x.toNat 8 (by show 256 ≤ x.toNat; omega)]
 exact zer 8 _ (by rw [← e]; omega) (by omega)
theorem len64_16 (x : Int) (hl : 65536 ≤ x) (hu : x ≤ 16777215) (w : World) : Calls Tryz.prog 99 #[vI vU x] w fun e w' => e = .returned (.int .i64 (bitLen x.toNat)) ∧ w' = w:=by
 have h1 : x ≤ 4294967295:=by omega
 have h2 : (65536 : Int) ≤ x:=by omega
 have h3 : x / 65536 ≤ 255:=by omega
 have h0 : 0 ≤ x:=by omega
 clear hu hl
 go_enter Tryz.func99,Tryz.ntmps99
 go_wp2
 go_ret
 refine ⟨zfa ?_,rfl⟩
 rw [len8tab_get]
 have e : (x / 65536).toNat = x.toNat / 2 ^ 16:=by show _ = x.toNat / 65536; omega
 rw [e,zdw x.toNat 16 (by show 65536 ≤ x.toNat; omega)]
 exact zer 16 _ (by rw [← e]; omega) (by omega)
theorem len64_24 (x : Int) (hl : 16777216 ≤ x) (hu : x ≤ 4294967295) (w : World) : Calls Tryz.prog 99 #[vI vU x] w fun e w' => e = .returned (.int .i64 (bitLen x.toNat)) ∧ w' = w:=by
 have h1 : x ≤ 4294967295:=by omega
 have h2 : (65536 : Int) ≤ x:=by omega
 have h3 : (256 : Int) ≤ x / 65536:=by omega
 have h4 : x / 65536 / 256 ≤ 255:=by omega
 have h0 : 0 ≤ x:=by omega
 clear hu hl
 go_enter Tryz.func99,Tryz.ntmps99
 go_wp2
 go_ret
 refine ⟨zfa ?_,rfl⟩
 rw [len8tab_get]
 have e : (x / 65536 / 256).toNat = x.toNat / 2 ^ 24:=by show _ = x.toNat / 16777216; omega
 rw [e,zdw x.toNat 24 (by show 16777216 ≤ x.toNat; omega)]
 exact zer 24 _ (by rw [← e]; omega) (by omega)
theorem len64_32 (x : Int) (hl : 4294967296 ≤ x) (hu : x ≤ 1099511627775) (w : World) : Calls Tryz.prog 99 #[vI vU x] w fun e w' => e = .returned (.int .i64 (bitLen x.toNat)) ∧ w' = w:=by
 have h1 : (4294967296 : Int) ≤ x:=by omega
 have h2 : x / 4294967296 ≤ 65535:=by omega
 have h3 : x / 4294967296 ≤ 255:=by omega
 have h0 : 0 ≤ x:=by omega
 clear hu hl
 go_enter Tryz.func99,Tryz.ntmps99
 go_wp2
 go_ret
 refine ⟨zfa ?_,rfl⟩
 rw [len8tab_get]
 have e : (x / 4294967296).toNat = x.toNat / 2 ^ 32:=by show _ = x.toNat / 4294967296; omega
 rw [e,zdw x.toNat 32 (by show 4294967296 ≤ x.toNat; omega)]
 exact zer 32 _ (by rw [← e]; omega) (by omega)
theorem len64_40 (x : Int) (hl : 1099511627776 ≤ x) (hu : x ≤ 281474976710655) (w : World) : Calls Tryz.prog 99 #[vI vU x] w fun e w' => e = .returned (.int .i64 (bitLen x.toNat)) ∧ w' = w:=by
 have h1 : (4294967296 : Int) ≤ x:=by omega
 have h2 : x / 4294967296 ≤ 65535:=by omega
 have h3 : (256 : Int) ≤ x / 4294967296:=by omega
 have h4 : x / 4294967296 / 256 ≤ 255:=by omega
 have h0 : 0 ≤ x:=by omega
 clear hu hl
 go_enter Tryz.func99,Tryz.ntmps99
 go_wp2
 go_ret
 refine ⟨zfa ?_,rfl⟩
 rw [len8tab_get]
 have e : (x / 4294967296 / 256).toNat = x.toNat / 2 ^ 40:=by show _ = x.toNat / 1099511627776; omega
 rw [e,zdw x.toNat 40 (by show 1099511627776 ≤ x.toNat; omega)]
 exact zer 40 _ (by rw [← e]; omega) (by omega)
theorem len64_48 (x : Int) (hl : 281474976710656 ≤ x) (hu : x ≤ 72057594037927935) (w : World) : Calls Tryz.prog 99 #[vI vU x] w fun e w' => e = .returned (.int .i64 (bitLen x.toNat)) ∧ w' = w:=by
 have h1 : (4294967296 : Int) ≤ x:=by omega
 have h2 : (65536 : Int) ≤ x / 4294967296:=by omega
 have h3 : x / 4294967296 / 65536 ≤ 255:=by omega
 have h0 : 0 ≤ x:=by omega
 clear hu hl
 go_enter Tryz.func99,Tryz.ntmps99
 go_wp2
 go_ret
 refine ⟨zfa ?_,rfl⟩
 rw [len8tab_get]
 have e : (x / 4294967296 / 65536).toNat = x.toNat / 2 ^ 48:=by show _ = x.toNat / 281474976710656; omega
 rw [e,zdw x.toNat 48 (by show 281474976710656 ≤ x.toNat; omega)]
 exact zer 48 _ (by rw [← e]; omega) (by omega)
theorem len64_56 (x : Int) (hl : 72057594037927936 ≤ x) (hu : x ≤ 18446744073709551615) (w : World) : Calls Tryz.prog 99 #[vI vU x] w fun e w' => e = .returned (.int .i64 (bitLen x.toNat)) ∧ w' = w:=by
 have h1 : (4294967296 : Int) ≤ x:=by omega
 have h2 : (65536 : Int) ≤ x / 4294967296:=by omega
 have h3 : (256 : Int) ≤ x / 4294967296 / 65536:=by omega
 have h4 : x / 4294967296 / 65536 / 256 ≤ 255:=by omega
 have h0 : 0 ≤ x:=by omega
 clear hu hl
 go_enter Tryz.func99,Tryz.ntmps99
 go_wp2
 go_ret
 refine ⟨zfa ?_,rfl⟩
 rw [len8tab_get]
 have e : (x / 4294967296 / 65536 / 256).toNat = x.toNat / 2 ^ 56:=by show _ = x.toNat / 72057594037927936; omega
 rw [e,zdw x.toNat 56 (by show 72057594037927936 ≤ x.toNat; omega)]
 exact zer 56 _ (by rw [← e]; omega) (by omega)
theorem len64_calls (x : Int) (h0 : 0 ≤ x) (h1 : x ≤ 18446744073709551615) (w : World) : Calls Tryz.prog 99 #[vI vU x] w fun e w' => e = .returned (.int .i64 (bitLen x.toNat)) ∧ w' = w:=by
 by_cases a : x ≤ 4294967295
 ·
  by_cases b : x ≤ 65535
  ·
   by_cases c : x ≤ 255
   ·
    exact len64_0 x (by omega) (by omega) w
   ·
    exact len64_8 x (by omega) (by omega) w
  ·
   by_cases c : x ≤ 16777215
   ·
    exact len64_16 x (by omega) (by omega) w
   ·
    exact len64_24 x (by omega) (by omega) w
 ·
  by_cases b : x ≤ 281474976710655
  ·
   by_cases c : x ≤ 1099511627775
   ·
    exact len64_32 x (by omega) (by omega) w
   ·
    exact len64_40 x (by omega) (by omega) w
  ·
   by_cases c : x ≤ 72057594037927935
   ·
    exact len64_48 x (by omega) (by omega) w
   ·
    exact len64_56 x (by omega) (by omega) w
theorem high_zero {X m : Nat} (hX : X < top) (h : ∀ j,m ≤ j → j < 4 → dg w64 X j = 0) : X < w64 ^ m:=by
 have hp : 0 < w64 ^ m:=Nat.pow_pos zbf
 have e : X % w64 ^ 4 = X % w64 ^ m % w64 ^ 4:=ziu zbf 4 fun i hi => by
  by_cases hlt : i < m
  ·
   rw [zdj X m i hlt]
  ·
   rw [h i (by omega) hi]
   unfold dg
   rw [Nat.div_eq_of_lt (Nat.lt_of_lt_of_le (Nat.mod_lt _ hp) (Nat.pow_le_pow_right zbf (by omega)))]
   rfl
 rw [Nat.mod_eq_of_lt (show X < w64 ^ 4 from hX)] at e
 have h1:=Nat.mod_le (X % w64 ^ m) (w64 ^ 4)
 have h2:=Nat.mod_lt X hp
 omega
theorem len_word {X m : Nat} (hX : X < top) (h : ∀ j,m + 1 ≤ j → j < 4 → dg w64 X j = 0) (hne : dg w64 X m ≠ 0) : bitLen X = 64 * m + bitLen (dg w64 X m):=by
 have hlt:=high_zero hX h
 have hd : X / w64 ^ m = dg w64 X m:=by
  rw [dg,Nat.mod_eq_of_lt]
  rw [Nat.div_lt_iff_lt_mul (Nat.pow_pos zbf),Nat.mul_comm,← Nat.pow_succ]
  exact hlt
 have e : 2 ^ (64 * m) = w64 ^ m:=by rw [w64_two,← Nat.pow_mul]
 rw [← hd] at hne ⊢
 have h1:=bitLen_shift X (64 * m) (by rw [e]; exact hne)
 rw [e] at h1
 exact h1
theorem wd_toNat (X i : Nat) : (wd X i).toNat = dg w64 X i:=by unfold wd; omega
theorem bitLen_le64 (X i : Nat) : bitLen (dg w64 X i) ≤ 64:=by
 unfold bitLen
 split
 ·
  omega
 ·
  rename_i h
  have:=(Nat.log2_lt h).2 (show dg w64 X i < 2 ^ 64 from dg_lt zbf X i)
  omega
theorem len_calls (X : Nat) (hX : X < top) (w : World) :
  Calls Tryz.prog 51 #[.agg #[vI vU (wd X 0),vI vU (wd X 1),vI vU (wd X 2),vI vU (wd X 3)]] w fun e w' => e = .returned (.int .i64 (bitLen X)) ∧ Below w.heap.size w w':=by
 go_enter Tryz.func51,Tryz.ntmps51
 go_wp2
 go_loopw [3] (fun i wr => ∃ k : Nat,k ≤ 4 ∧ i = .int .i64 ((k : Int) - 1) ∧ (∀ j,k ≤ j → j < 4 → dg w64 X j = 0) ∧ wr.rowIs w.heap.size 24 4 (fun j => .int .u64 (wd X j)) ∧ Below w.heap.size w wr)
  (fun i _ => (intOf i + 1).toNat)
 case atStart => exact ⟨4,by omega,rfl,by intro j h1 h2; omega,zag (n:=4) (by simp) rfl (arr4 fun j => .int .u64 (wd X j)),(Below.refl _ _).alloc (by simp) _⟩
 case round =>
  obtain ⟨k,hk,hi,hall,hR,hbel⟩:=hrel
  have HALL:=veil hall
  clear hall
  cases k with
  | zero =>
   subst hi
   have h1:=high_zero hX HALL.out
   have hX0 : X = 0:=by simpa using h1
   have HX:=veil hX0
   clear hX0 h1
   go_wp2
   go_ret
   rw [show bitLen X = 0 by rw [HX.out]; rfl]
   exact ⟨rfl,hbel⟩
  | succ m =>
   obtain rfl : _ = Value.int .i64 (m : Int):=hi.trans (by congr 1; omega)
   have hm : m < 4:=by omega
   clear hi
   have c1:=hR.cell hm
   have l1:=wd_lo X m
   have u1:=wd_le X m
   by_cases h : dg w64 X m = 0
   ·
    have hz : (wd X m != 0) = false:=by unfold wd; rw [h]; rfl
    go_wp2
    go_roundw
    case rel => exact ⟨m,by omega,rfl,fun j h1 h2 => by
     by_cases e : j = m
     ·
      rw [e]; exact h
     ·
      exact HALL.out j (by omega) h2,hR,hbel⟩
    case measure => simp [intOf]
   ·
    have hz : (wd X m != 0) = true:=by rw [bne_iff_ne]; unfold wd; omega
    have hw:=len_word hX HALL.out h
    have hb:=bitLen_le64 X m
    have ht:=wd_toNat X m
    have HW:=veil hw
    have HT:=veil ht
    clear hw h ht
    go_wp2_with (go_at_call 99; refine (len64_calls _ l1 u1 _).mono ?_; rintro e w' ⟨rfl,rfl⟩)
    rw [HT.out]
    go_wp2
    go_ret
    rw [HW.out]
    exact ⟨zfa (by rw [IntWalk.wrap64_in _ (by omega)]; omega),hbel⟩
theorem top_two : top = 2 ^ 256:=by unfold top; rw [w64_two,← Nat.pow_mul]
theorem rbit_in (X n : Nat) (hn : n < 256) (w : World) :
  Calls Tryz.prog 66 #[.agg #[vI vU (wd X 0),vI vU (wd X 1),vI vU (wd X 2),vI vU (wd X 3)],.int .i64 (n : Int)] w fun e w' => e = .returned (.bool (bit X n)) ∧ Below w.heap.size w w':=by
 have hq : n / 16 < 16:=by omega
 have h0 : ¬ (n : Int) < 0:=by omega
 have h1 : ¬ (255 : Int) < (n : Int):=by omega
 have hB0 : Below w.heap.size w (w.alloc (.cells #[vI vU (wd X 0),vI vU (wd X 1),vI vU (wd X 2),vI vU (wd X 3)] 24)):=(Below.refl _ _).alloc (Nat.le_refl _) _
 go_enter Tryz.func66,Tryz.ntmps66
 go_wp2_with fail
 refine (zfs X _).mono ?_
 rintro e w1 ⟨g1,cap1,rfl,hg1,hp1,hb1⟩
 have hB1:=hB0.trans (hb1.mono (by simp))
 have c1:=hp1.cell hq
 simp only [ptv] at c1
 clear hB0 hb1 hg1 hp1
 go_wp2
 go_loop [5,6] (fun p i => ∃ k : Nat,k ≤ n % 16 ∧ i = .int .i64 k ∧ p = .int .i64 (ph X (n / 16) k)) (fun _ i => n % 16 - (intOf i).toNat)
 case atStart => exact ⟨0,Nat.zero_le _,rfl,by rw [ph_zero]⟩
 case round =>
  obtain ⟨k,hk,rfl,rfl⟩:=hrel
  by_cases hlt : k < n % 16
  ·
   have l1:=ph_lo X (n / 16) k
   have u1 : ph X (n / 16) k ≤ 65535:=by have:=ph_lt X (n / 16) k; omega
   go_wp2
   go_round
   case rel => exact ⟨k + 1,by omega,by go_num,by rw [ph_succ]⟩
   case measure => simp [intOf]; omega
  ·
   have hk' : k = n % 16:=by omega
   have HK:=veil hk'
   clear hk'
   go_wp2
   have l1:=ph_lo X (n / 16) k
   go_ret
   rw [← ph_bit,← HK.out]
   exact ⟨rfl,hB1⟩
theorem bitLen_one {i v : Nat} (h1 : 2 ^ i ≤ v) (h2 : v < 2 ^ (i + 1)) : bitLen v = i + 1:=by
 rw [zdw v i h1]
 have : v / 2 ^ i = 1:=by
  have hp:=Nat.two_pow_pos i
  apply Nat.le_antisymm
  ·
   have:=(Nat.div_lt_iff_lt_mul hp (x:=v) (y:=2)).2 (by rw [Nat.pow_succ] at h2; omega)
   omega
  ·
   exact (Nat.le_div_iff_mul_le hp).2 (by omega)
 rw [this]
 rfl
theorem bitLen_succ (X i : Nat) : bitLen (X % 2 ^ (i + 1)) = if bit X i = true then i + 1 else bitLen (X % 2 ^ i):=by
 have h:=zdc 2 X i
 have hb : bit X i = (dg 2 X i == 1):=rfl
 have hd:=dg_lt (B:=2) (by omega) X i
 have hm:=Nat.mod_lt X (Nat.two_pow_pos i)
 rw [hb,h]
 by_cases e : dg 2 X i = 1
 ·
  rw [e]
  simp only [BEq.rfl,if_true,Nat.mul_one]
  exact bitLen_one (by omega) (by rw [Nat.pow_succ]; omega)
 ·
  have e0 : dg 2 X i = 0:=by omega
  rw [e0]
  simp
def lenK (X i : Nat) : Int:=(bitLen (X % 2 ^ i) : Nat)
theorem lenK_zero (X : Nat) : lenK X 0 = 0:=by simp [lenK,Nat.mod_one,bitLen]
theorem lenK_yes {X i : Nat} (h : bit X i = true) : lenK X (i + 1) = (i : Int) + 1:=by unfold lenK; rw [bitLen_succ,if_pos h]; omega
theorem lenK_no {X i : Nat} (h : bit X i = false) : lenK X (i + 1) = lenK X i:=by unfold lenK; rw [bitLen_succ,h]; rfl
theorem lenK_top {X : Nat} (hX : X < top) : lenK X 256 = (bitLen X : Nat):=by
 rw [top_two] at hX
 unfold lenK
 rw [Nat.mod_eq_of_lt hX]
theorem rlen_calls (X : Nat) (hX : X < top) (w : World) :
  Calls Tryz.prog 65 #[.agg #[vI vU (wd X 0),vI vU (wd X 1),vI vU (wd X 2),vI vU (wd X 3)]] w fun e w' => e = .returned (.int .i64 (bitLen X)) ∧ Below w.heap.size w w':=by
 go_enter Tryz.func65,Tryz.ntmps65
 go_wp2
 go_loopw [3,4] (fun n i wr => ∃ k : Nat,k ≤ 256 ∧ i = .int .i64 k ∧ n = .int .i64 (lenK X k) ∧ wr.rowIs w.heap.size 24 4 (fun j => .int .u64 (wd X j)) ∧ Below w.heap.size w wr)
  (fun _ i _ => 256 - (intOf i).toNat)
 case atStart => exact ⟨0,by omega,rfl,by rw [lenK_zero],zag (n:=4) (by simp) rfl (arr4 fun j => .int .u64 (wd X j)),(Below.refl _ _).alloc (by simp) _⟩
 case round =>
  obtain ⟨k,hk,rfl,rfl,hR,hbel⟩:=hrel
  by_cases hlt : k < 256
  ·
   obtain ⟨c0,c1,c2,c3⟩:=zae hR
   have hle : (k : Int) ≤ 255:=by omega
   have HLT:=veil hlt
   clear hlt hk
   go_wp2_with fail
   refine (rbit_in X k HLT.out _).mono ?_
   rintro e w1 ⟨rfl,hb1⟩
   have hR1:=zab hR hb1 hR.lt
   have hB1:=hbel.trans (hb1.mono hbel.size)
   clear hR hbel hb1 c0 c1 c2 c3
   cases hb : bit X k with
   | true =>
    go_wp2
    go_roundw
    case rel => exact ⟨k + 1,HLT.out,by go_num,by rw [lenK_yes hb],hR1,hB1⟩
    case measure => simp [intOf]; omega
   | false =>
    go_wp2
    go_roundw
    case rel => exact ⟨k + 1,HLT.out,by go_num,by rw [lenK_no hb],hR1,hB1⟩
    case measure => simp [intOf]; omega
  ·
   obtain rfl : k = 256:=by omega
   go_wp2
   go_ret
   rw [← lenK_top hX]
   exact ⟨rfl,hbel⟩
theorem rbase_calls (w : World) : Calls Tryz.prog 25 #[] w fun e w' => e = .returned (.agg #[vI vU (wd (Pt.gx) 0),vI vU (wd (Pt.gx) 1),vI vU (wd (Pt.gx) 2),vI vU (wd (Pt.gx) 3),vI vU (wd (Pt.gy) 0),vI vU (wd (Pt.gy) 1),vI vU (wd (Pt.gy) 2),vI vU (wd (Pt.gy) 3),.bool (false)]) ∧ Below w.heap.size w w':=by
 obtain ⟨l0,l1,l2,l3⟩:=gx_lits
 obtain ⟨m0,m1,m2,m3⟩:=gy_lits
 rw [l0,l1,l2,l3,m0,m1,m2,m3]
 clear l0 l1 l2 l3 m0 m1 m2 m3
 have hR : (((w.alloc (.cells #[vI vU 0,vI vU 0,vI vU 0,vI vU 0,vI vU 0,vI vU 0,vI vU 0,vI vU 0,.bool false] 29)).alloc (.cells #[vI vU 17627433388654248598,vI vU 8575836109218198432,vI vU 17923454489921339634,vI vU 7716867327612699207] 24)).alloc (.cells #[vI vU 14678990851816772085,vI vU 3156516839386865358,vI vU 10297457778147434006,vI vU 5756518291402817435] 24)).rowIs w.heap.size 29 9 (pc 0 0 false):=((zeq rfl).alloc _).alloc _
 have hB : Below w.heap.size w (((w.alloc (.cells #[vI vU 0,vI vU 0,vI vU 0,vI vU 0,vI vU 0,vI vU 0,vI vU 0,vI vU 0,.bool false] 29)).alloc (.cells #[vI vU 17627433388654248598,vI vU 8575836109218198432,vI vU 17923454489921339634,vI vU 7716867327612699207] 24)).alloc (.cells #[vI vU 14678990851816772085,vI vU 3156516839386865358,vI vU 10297457778147434006,vI vU 5756518291402817435] 24)):=(((Below.refl _ _).alloc (by simp) _).alloc (by simp) _).alloc (by simp; omega) _
 have HR:=veil (blkOf hR)
 clear hR
 go_enter Tryz.func25,Tryz.ntmps25
 go_wp2_with ((with_reducible refine zbh ?_); refine wpList_store_row rfl 29 _ _ rfl w.heap.size #[vI vU 17627433388654248598,vI vU 8575836109218198432,vI vU 17923454489921339634,vI vU 7716867327612699207,vI vU 14678990851816772085,vI vU 3156516839386865358,vI vU 10297457778147434006,vI vU 5756518291402817435,.bool false] rfl rfl 29 _ HR.out zbg (by rw [zaw]; rfl) (by simp [Value.oneCell']) ?_)
 exact bodyPost_ret (results_cell_row rfl _ _ w.heap.size 29 #[vI vU 17627433388654248598,vI vU 8575836109218198432,vI vU 17923454489921339634,vI vU 7716867327612699207,vI vU 14678990851816772085,vI vU 3156516839386865358,vI vU 10297457778147434006,vI vU 5756518291402817435,.bool false] (0,0) _ rfl (setRow_heap _ w.heap.size _ #[vI vU 17627433388654248598,vI vU 8575836109218198432,vI vU 17923454489921339634,vI vU 7716867327612699207,vI vU 14678990851816772085,vI vU 3156516839386865358,vI vU 10297457778147434006,vI vU 5756518291402817435,.bool false] 29 (0,0) HR.out) Tryz.underlying29 rfl zbg) rfl ⟨rfl,zbp hB (Nat.le_refl _) _⟩
theorem gin_small (X M : Nat) (hX : X < M) (hM : M < top) (w : World) :
  Calls Tryz.prog 26 #[.agg #[vI vU (wd X 0),vI vU (wd X 1),vI vU (wd X 2),vI vU (wd X 3)],.agg #[vI vU (wd M 0),vI vU (wd M 1),vI vU (wd M 2),vI vU (wd M 3)]] w fun e w' => e = .returned (.agg #[vI vU (wd X 0),vI vU (wd X 1),vI vU (wd X 2),vI vU (wd X 3)]) ∧ Below w.heap.size w w':=by
 have HL:=veil (show decide (X < M) = true by simpa using hX)
 have hXt : X < top:=by omega
 have hX0 : (((w.alloc (.cells #[vI vU (wd X 0),vI vU (wd X 1),vI vU (wd X 2),vI vU (wd X 3)] 24)).alloc (.cells #[vI vU (wd M 0),vI vU (wd M 1),vI vU (wd M 2),vI vU (wd M 3)] 24)).alloc (.cells #[vI vU 0,vI vU 0,vI vU 0,vI vU 0] 24)).rowIs w.heap.size 24 4 (fun j => .int .u64 (wd X j)):=((zag (n:=4) (by simp) rfl (arr4 fun j => .int .u64 (wd X j))).alloc _).alloc _
 have hM0 : (((w.alloc (.cells #[vI vU (wd X 0),vI vU (wd X 1),vI vU (wd X 2),vI vU (wd X 3)] 24)).alloc (.cells #[vI vU (wd M 0),vI vU (wd M 1),vI vU (wd M 2),vI vU (wd M 3)] 24)).alloc (.cells #[vI vU 0,vI vU 0,vI vU 0,vI vU 0] 24)).rowIs (w.heap.size + 1) 24 4 (fun j => .int .u64 (wd M j)):=(zag (n:=4) (by simp) rfl (arr4 fun j => .int .u64 (wd M j))).alloc _
 have hR0 : (((w.alloc (.cells #[vI vU (wd X 0),vI vU (wd X 1),vI vU (wd X 2),vI vU (wd X 3)] 24)).alloc (.cells #[vI vU (wd M 0),vI vU (wd M 1),vI vU (wd M 2),vI vU (wd M 3)] 24)).alloc (.cells #[vI vU 0,vI vU 0,vI vU 0,vI vU 0] 24)).rowIs (w.heap.size + 1 + 1) 24 4 (fun _ => .int .u64 0):=zag (n:=4) (by simp) rfl (arr4 fun _ => .int .u64 0)
 have hb0 : Below w.heap.size w (((w.alloc (.cells #[vI vU (wd X 0),vI vU (wd X 1),vI vU (wd X 2),vI vU (wd X 3)] 24)).alloc (.cells #[vI vU (wd M 0),vI vU (wd M 1),vI vU (wd M 2),vI vU (wd M 3)] 24)).alloc (.cells #[vI vU 0,vI vU 0,vI vU 0,vI vU 0] 24)):=(((Below.refl _ _).alloc (by simp) _).alloc (by simp) _).alloc (by simp; omega) _
 go_enter Tryz.func26,Tryz.ntmps26
 obtain ⟨a0,a1,a2,a3⟩:=zae hX0
 obtain ⟨c0,c1,c2,c3⟩:=zae hM0
 go_wp2_with fail
 refine (zft X M true HL.out hXt hM _).mono ?_
 rintro e w1 ⟨rfl,hb1⟩
 clear a0 a1 a2 a3 c0 c1 c2 c3
 replace hX0:=zab hX0 hb1 hX0.lt
 replace hR0:=zab hR0 hb1 hR0.lt
 replace hb0:=hb0.trans (hb1.mono hb0.size)
 clear hb1 hM0
 obtain ⟨a0,a1,a2,a3⟩:=zae hX0
 obtain ⟨d0,d1,d2,d3⟩:=zae hR0
 obtain ⟨f0,f1,f2,f3⟩:=zaj hR0
 go_wp2
 refine bodyPost_ret (results_cell_row rfl _ _ (w.heap.size + 1 + 1) 24 #[vI vU (wd X 0),vI vU (wd X 1),vI vU (wd X 2),vI vU (wd X 3)] (0,0) _ rfl (blk4 (put4 hR0 fun j => .int .u64 (wd X j))) Tryz.underlying24 rfl (by kernel_rfl)) rfl ⟨rfl,zap hb0 (by omega) _ _ _ _⟩
def top2 : Nat:=w64 ^ 8
theorem acc_startw (X Y M n : Nat) (h : Y < w64 ^ n) : acc X Y M (64 * n) = 0:=by
 have e : (2 : Nat) ^ 64 = w64:=rfl
 unfold acc; rw [Nat.pow_mul,e,Nat.div_eq_of_lt h]; simp
theorem gin_of (X M : Nat) (a b c d : Int) (ha : wd X 0 = a) (hb : wd X 1 = b) (hc : wd X 2 = c) (hd : wd X 3 = d) (hX : X < M) (hM : M < top) (w : World) :
  Calls Tryz.prog 26 #[.agg #[vI vU a,vI vU b,vI vU c,vI vU d],.agg #[vI vU (wd M 0),vI vU (wd M 1),vI vU (wd M 2),vI vU (wd M 3)]] w fun e w' => e = .returned (.agg #[vI vU (wd X 0),vI vU (wd X 1),vI vU (wd X 2),vI vU (wd X 3)]) ∧ Below w.heap.size w w':=by
 subst ha hb hc hd; exact gin_small X M hX hM w
theorem gcut_calls (Z M : Nat) (hZ : Z < top2) (hM1 : 1 < M) (hM : M < top) (w : World) :
  Calls Tryz.prog 68 #[.agg #[vI vU (wd Z 0),vI vU (wd Z 1),vI vU (wd Z 2),vI vU (wd Z 3),vI vU (wd Z 4),vI vU (wd Z 5),vI vU (wd Z 6),vI vU (wd Z 7)],.agg #[vI vU (wd M 0),vI vU (wd M 1),vI vU (wd M 2),vI vU (wd M 3)]] w fun e w' => e = .returned (.agg #[vI vU (wd (Z % M) 0),vI vU (wd (Z % M) 1),vI vU (wd (Z % M) 2),vI vU (wd (Z % M) 3)]) ∧ Below w.heap.size w w':=by
 have hM0 : 0 < M:=by omega
 obtain ⟨U,hU⟩ : ∃ U,U = 1:=⟨_,rfl⟩
 have HZ:=veil (acc_startw U Z M 8 hZ)
 clear hZ
 have hUM : U < M:=by omega
 have h1:=fun W => gin_of U M 1 0 0 0 (by rw [hU]; decide) (by rw [hU]; decide) (by rw [hU]; decide) (by rw [hU]; decide) hUM hM W
 have H1:=veil h1
 clear h1
 obtain ⟨P,hP⟩ : ∃ P,P = Z % M:=⟨_,rfl⟩
 rw [← hP]
 have HP:=veil (show P = U * Z % M by rw [hU,Nat.one_mul,hP])
 clear hP hU
 have hB0 : ((((w.alloc (.cells #[vI vU (wd Z 0),vI vU (wd Z 1),vI vU (wd Z 2),vI vU (wd Z 3),vI vU (wd Z 4),vI vU (wd Z 5),vI vU (wd Z 6),vI vU (wd Z 7)] 103)).alloc (.cells #[vI vU (wd M 0),vI vU (wd M 1),vI vU (wd M 2),vI vU (wd M 3)] 24)).alloc (.cells #[vI vU 0,vI vU 0,vI vU 0,vI vU 0] 24)).alloc (.cells #[vI vU 0,vI vU 0,vI vU 0,vI vU 0] 24)).rowIs w.heap.size 103 8 (fun j => .int .u64 (wd Z j)):=(((zag (n:=8) (by simp) rfl (arr8 fun j => .int .u64 (wd Z j))).alloc _).alloc _).alloc _
 have hC0 : ((((w.alloc (.cells #[vI vU (wd Z 0),vI vU (wd Z 1),vI vU (wd Z 2),vI vU (wd Z 3),vI vU (wd Z 4),vI vU (wd Z 5),vI vU (wd Z 6),vI vU (wd Z 7)] 103)).alloc (.cells #[vI vU (wd M 0),vI vU (wd M 1),vI vU (wd M 2),vI vU (wd M 3)] 24)).alloc (.cells #[vI vU 0,vI vU 0,vI vU 0,vI vU 0] 24)).alloc (.cells #[vI vU 0,vI vU 0,vI vU 0,vI vU 0] 24)).rowIs (w.heap.size + 1) 24 4 (fun j => .int .u64 (wd M j)):=((zag (n:=4) (by simp) rfl (arr4 fun j => .int .u64 (wd M j))).alloc _).alloc _
 have hR0 : ((((w.alloc (.cells #[vI vU (wd Z 0),vI vU (wd Z 1),vI vU (wd Z 2),vI vU (wd Z 3),vI vU (wd Z 4),vI vU (wd Z 5),vI vU (wd Z 6),vI vU (wd Z 7)] 103)).alloc (.cells #[vI vU (wd M 0),vI vU (wd M 1),vI vU (wd M 2),vI vU (wd M 3)] 24)).alloc (.cells #[vI vU 0,vI vU 0,vI vU 0,vI vU 0] 24)).alloc (.cells #[vI vU 0,vI vU 0,vI vU 0,vI vU 0] 24)).rowIs (w.heap.size + 1 + 1) 24 4 (fun _ => .int .u64 0):=(zag (n:=4) (by simp) rfl (arr4 fun _ => .int .u64 0)).alloc _
 have hO0 : ((((w.alloc (.cells #[vI vU (wd Z 0),vI vU (wd Z 1),vI vU (wd Z 2),vI vU (wd Z 3),vI vU (wd Z 4),vI vU (wd Z 5),vI vU (wd Z 6),vI vU (wd Z 7)] 103)).alloc (.cells #[vI vU (wd M 0),vI vU (wd M 1),vI vU (wd M 2),vI vU (wd M 3)] 24)).alloc (.cells #[vI vU 0,vI vU 0,vI vU 0,vI vU 0] 24)).alloc (.cells #[vI vU 0,vI vU 0,vI vU 0,vI vU 0] 24)).rowIs (w.heap.size + 1 + 1 + 1) 24 4 (fun _ => .int .u64 0):=zag (n:=4) (by simp) rfl (arr4 fun _ => .int .u64 0)
 have hb0 : Below w.heap.size w ((((w.alloc (.cells #[vI vU (wd Z 0),vI vU (wd Z 1),vI vU (wd Z 2),vI vU (wd Z 3),vI vU (wd Z 4),vI vU (wd Z 5),vI vU (wd Z 6),vI vU (wd Z 7)] 103)).alloc (.cells #[vI vU (wd M 0),vI vU (wd M 1),vI vU (wd M 2),vI vU (wd M 3)] 24)).alloc (.cells #[vI vU 0,vI vU 0,vI vU 0,vI vU 0] 24)).alloc (.cells #[vI vU 0,vI vU 0,vI vU 0,vI vU 0] 24)):=((((Below.refl _ _).alloc (by simp) _).alloc (by simp) _).alloc (by simp; omega) _).alloc (by simp; omega) _
 have hz0 : w.heap.size + 1 + 1 + 1 < ((((w.alloc (.cells #[vI vU (wd Z 0),vI vU (wd Z 1),vI vU (wd Z 2),vI vU (wd Z 3),vI vU (wd Z 4),vI vU (wd Z 5),vI vU (wd Z 6),vI vU (wd Z 7)] 103)).alloc (.cells #[vI vU (wd M 0),vI vU (wd M 1),vI vU (wd M 2),vI vU (wd M 3)] 24)).alloc (.cells #[vI vU 0,vI vU 0,vI vU 0,vI vU 0] 24)).alloc (.cells #[vI vU 0,vI vU 0,vI vU 0,vI vU 0] 24)).heap.size:=by simp
 obtain ⟨c0,c1,c2,c3⟩:=zae hC0
 go_enter Tryz.func68,Tryz.ntmps68
 go_wp2_with fail
 refine (H1.out _).mono ?_
 rintro e w1 ⟨rfl,hb1⟩
 clear c0 c1 c2 c3
 replace hB0:=(zab hB0 hb1 hB0.lt).alloc (.cells #[vI vU (wd U 0),vI vU (wd U 1),vI vU (wd U 2),vI vU (wd U 3)] 24)
 replace hC0:=(zab hC0 hb1 hC0.lt).alloc (.cells #[vI vU (wd U 0),vI vU (wd U 1),vI vU (wd U 2),vI vU (wd U 3)] 24)
 replace hR0:=(zab hR0 hb1 hR0.lt).alloc (.cells #[vI vU (wd U 0),vI vU (wd U 1),vI vU (wd U 2),vI vU (wd U 3)] 24)
 replace hO0:=(zab hO0 hb1 hO0.lt).alloc (.cells #[vI vU (wd U 0),vI vU (wd U 1),vI vU (wd U 2),vI vU (wd U 3)] 24)
 replace hz0 : w.heap.size + 1 + 1 + 1 < w1.heap.size:=Nat.lt_of_lt_of_le hz0 hb1.size
 replace hb0:=(hb0.trans (hb1.mono hb0.size)).alloc (by omega) (.cells #[vI vU (wd U 0),vI vU (wd U 1),vI vU (wd U 2),vI vU (wd U 3)] 24)
 have hA0 : (w1.alloc (.cells #[vI vU (wd U 0),vI vU (wd U 1),vI vU (wd U 2),vI vU (wd U 3)] 24)).rowIs w1.heap.size 24 4 (fun j => .int .u64 (wd U j)):=zag (n:=4) rfl rfl (arr4 fun j => .int .u64 (wd U j))
 clear hb1
 go_wp2_with fail
 generalize w1.heap.size = g at *
 generalize w1.alloc (.cells #[vI vU (wd U 0),vI vU (wd U 1),vI vU (wd U 2),vI vU (wd U 3)] 24) = w0 at *
 go_loopw [7] (fun i wr => ∃ k : Nat,k ≤ 8 ∧ i = .int .i64 ((k : Int) - 1) ∧ wr.rowIs g 24 4 (fun j => .int .u64 (wd U j)) ∧ wr.rowIs w.heap.size 103 8 (fun j => .int .u64 (wd Z j)) ∧ wr.rowIs (w.heap.size + 1) 24 4 (fun j => .int .u64 (wd M j)) ∧ wr.rowIs (w.heap.size + 1 + 1) 24 4 (fun _ => .int .u64 0) ∧ wr.rowIs (w.heap.size + 1 + 1 + 1) 24 4 (fun j => .int .u64 (wd (acc U Z M (64 * k)) j)) ∧ Below w.heap.size w wr)
  (fun i _ => (intOf i + 1).toNat)
 case atStart => exact ⟨8,by omega,rfl,hA0,hB0,hC0,hR0,hO0.congr (fun j hj => by rw [HZ.out]; unfold wd dg; simp),hb0⟩
 case round =>
  obtain ⟨k,hk,hi,hA,hB,hC,hR,hO,hbel⟩:=hrel
  clear hA0 hB0 hC0 hR0 hO0 hb0
  cases k with
  | zero =>
   subst hi
   have hO:=hO.congr (g:=fun j => .int .u64 (wd P j)) (fun j _ => by rw [Nat.mul_zero,acc_end,← HP.out])
   obtain ⟨o0,o1,o2,o3⟩:=zae hO
   obtain ⟨d0,d1,d2,d3⟩:=zae hR
   obtain ⟨f0,f1,f2,f3⟩:=zaj hR
   go_wp2
   refine bodyPost_ret (results_cell_row rfl _ _ (w.heap.size + 1 + 1) 24 #[vI vU (wd P 0),vI vU (wd P 1),vI vU (wd P 2),vI vU (wd P 3)] (0,0) _ rfl (blk4 (put4 hR fun j => .int .u64 (wd P j))) Tryz.underlying24 rfl (by kernel_rfl)) rfl ⟨rfl,zap hbel (by omega) _ _ _ _⟩
  | succ k =>
   obtain rfl : _ = Value.int .i64 (k : Int):=hi.trans (by congr 1; omega)
   clear hi
   have hk4 : k < 8:=by omega
   have c1:=hB.cell hk4
   go_wp2
   clear c1
   obtain ⟨wo,hwo⟩ : ∃ wo : World,wo = wr:=⟨_,rfl⟩
   rw [← hwo] at hA hB hC hR hO hbel ⊢
   clear hwo
   go_loopw [8,9] (fun q kk wq => ∃ m : Nat,m ≤ 64 ∧ kk = .int .i64 m ∧ q = .int .u64 (mw Z k m : Nat) ∧ wq.rowIs g 24 4 (fun j => .int .u64 (wd U j)) ∧ wq.rowIs w.heap.size 103 8 (fun j => .int .u64 (wd Z j)) ∧ wq.rowIs (w.heap.size + 1) 24 4 (fun j => .int .u64 (wd M j)) ∧ wq.rowIs (w.heap.size + 1 + 1) 24 4 (fun _ => .int .u64 0) ∧ wq.rowIs (w.heap.size + 1 + 1 + 1) 24 4 (fun j => .int .u64 (wd (acc U Z M (64 * (k + 1) - m)) j)) ∧ Below w.heap.size w wq)
    (fun _ kk _ => 64 - (intOf kk).toNat)
   case atStart => exact ⟨0,by omega,rfl,by rw [mw_zero]; rfl,hA,hB,hC,hR,hO,hbel⟩
   case round =>
    obtain ⟨m,hm,rfl,rfl,hA,hB,hC,hR,hO,hbel⟩:=hrel
    by_cases hlt : m < 64
    ·
     have hq:=mw_lt Z k m
     have hs : IntKind.u64.wrap ((mw Z k m : Nat) + (mw Z k m : Nat)) = ((mw Z k (m + 1) : Nat) : Int):=by
      rw [IntKind.wrap_u64,← mw_succ]; generalize mw Z k m = z; omega
     have ht:=mw_top Z k m hlt
     obtain ⟨z,hz⟩ : ∃ z : Int,z = ((mw Z k m : Nat) : Int):=⟨_,rfl⟩
     rw [← hz] at hs ⊢
     have hz0 : 0 ≤ z:=by omega
     have hz1 : z < 18446744073709551616:=by omega
     obtain ⟨n,hn⟩ : ∃ n,n = 64 * k + (63 - m):=⟨_,rfl⟩
     rw [← hn] at ht
     rw [show 64 * (k + 1) - m = n + 1 by omega] at hO
     have hVM:=acc_lt (X:=U) (Y:=Z) (n:=n + 1) hM0
     have e1:=acc_twice U Z M n
     have e2:=acc_more U Z M n
     generalize acc U Z M (n + 1) = V at *
     obtain ⟨D,hD⟩ : ∃ D,D = (V + V) % M:=⟨_,rfl⟩
     rw [← hD] at e1 e2
     have hDM : D < M:=by rw [hD]; exact Nat.mod_lt _ hM0
     have h1:=fun W => zej V V M hVM hVM hM W
     rw [← hD] at h1
     have H1:=veil h1
     clear h1
     obtain ⟨o0,o1,o2,o3⟩:=zae hO
     obtain ⟨c0,c1,c2,c3⟩:=zae hC
     by_cases hbit : 9223372036854775808 ≤ mw Z k m
     ·
      have h2:=fun W => zej D U M hDM hUM hM W
      rw [e2 (ht.1 hbit)] at h2
      have H2:=veil h2
      have hbI : 9223372036854775808 ≤ z:=by omega
      clear h2 e1 e2 hD ht hq hbit hz
      have hN:=veil hn
      clear hn
      obtain ⟨T,hT⟩ : ∃ T,T = acc U Z M n:=⟨_,rfl⟩
      rw [← hT] at H2
      have HT:=veil hT
      clear hT
      go_wp2_with fail
      refine (H1.out _).mono ?_
      rintro e w1 ⟨rfl,hb1⟩
      clear o0 o1 o2 o3 c0 c1 c2 c3
      replace hA:=zab hA hb1 hA.lt
      replace hB:=zab hB hb1 hB.lt
      replace hC:=zab hC hb1 hC.lt
      replace hR:=zab hR hb1 hR.lt
      replace hO:=zab hO hb1 hO.lt
      replace hbel:=hbel.trans (hb1.mono hbel.size)
      clear hb1
      obtain ⟨o0,o1,o2,o3⟩:=zae hO
      obtain ⟨f0,f1,f2,f3⟩:=zaj hO
      go_upto_region 11 with (fail)
      replace hA:=zam hA (b':=w.heap.size + 1 + 1 + 1) (by omega) (.int .u64 (wd D 0)) (.int .u64 (wd D 1)) (.int .u64 (wd D 2)) (.int .u64 (wd D 3))
      replace hB:=zam hB (b':=w.heap.size + 1 + 1 + 1) (by omega) (.int .u64 (wd D 0)) (.int .u64 (wd D 1)) (.int .u64 (wd D 2)) (.int .u64 (wd D 3))
      replace hC:=zam hC (b':=w.heap.size + 1 + 1 + 1) (by omega) (.int .u64 (wd D 0)) (.int .u64 (wd D 1)) (.int .u64 (wd D 2)) (.int .u64 (wd D 3))
      replace hR:=zam hR (b':=w.heap.size + 1 + 1 + 1) (by omega) (.int .u64 (wd D 0)) (.int .u64 (wd D 1)) (.int .u64 (wd D 2)) (.int .u64 (wd D 3))
      replace hbel:=zap (b:=w.heap.size + 1 + 1 + 1) hbel (by omega) (.int .u64 (wd D 0)) (.int .u64 (wd D 1)) (.int .u64 (wd D 2)) (.int .u64 (wd D 3))
      replace hO:=put4 hO (fun j => .int .u64 (wd D j))
      clear o0 o1 o2 o3 f0 f1 f2 f3
      generalize (((w1.setCell ⟨w.heap.size + 1 + 1 + 1,0,none⟩ (.int .u64 (wd D 0))).setCell ⟨w.heap.size + 1 + 1 + 1,1,none⟩ (.int .u64 (wd D 1))).setCell ⟨w.heap.size + 1 + 1 + 1,2,none⟩ (.int .u64 (wd D 2))).setCell ⟨w.heap.size + 1 + 1 + 1,3,none⟩ (.int .u64 (wd D 3)) = v1 at *
      obtain ⟨o0,o1,o2,o3⟩:=zae hO
      obtain ⟨c0,c1,c2,c3⟩:=zae hC
      obtain ⟨a0,a1,a2,a3⟩:=zae hA
      go_wp2_with fail
      refine (H2.out _).mono ?_
      rintro e w2 ⟨rfl,hb2⟩
      clear o0 o1 o2 o3 c0 c1 c2 c3 a0 a1 a2 a3
      replace hA:=zab hA hb2 hA.lt
      replace hB:=zab hB hb2 hB.lt
      replace hC:=zab hC hb2 hC.lt
      replace hR:=zab hR hb2 hR.lt
      replace hO:=zab hO hb2 hO.lt
      replace hbel:=hbel.trans (hb2.mono hbel.size)
      clear hb2
      obtain ⟨o0,o1,o2,o3⟩:=zae hO
      obtain ⟨f0,f1,f2,f3⟩:=zaj hO
      go_upto_region 13 with (fail)
      replace hA:=zam hA (b':=w.heap.size + 1 + 1 + 1) (by omega) (.int .u64 (wd T 0)) (.int .u64 (wd T 1)) (.int .u64 (wd T 2)) (.int .u64 (wd T 3))
      replace hB:=zam hB (b':=w.heap.size + 1 + 1 + 1) (by omega) (.int .u64 (wd T 0)) (.int .u64 (wd T 1)) (.int .u64 (wd T 2)) (.int .u64 (wd T 3))
      replace hC:=zam hC (b':=w.heap.size + 1 + 1 + 1) (by omega) (.int .u64 (wd T 0)) (.int .u64 (wd T 1)) (.int .u64 (wd T 2)) (.int .u64 (wd T 3))
      replace hR:=zam hR (b':=w.heap.size + 1 + 1 + 1) (by omega) (.int .u64 (wd T 0)) (.int .u64 (wd T 1)) (.int .u64 (wd T 2)) (.int .u64 (wd T 3))
      replace hbel:=zap (b:=w.heap.size + 1 + 1 + 1) hbel (by omega) (.int .u64 (wd T 0)) (.int .u64 (wd T 1)) (.int .u64 (wd T 2)) (.int .u64 (wd T 3))
      replace hO:=put4 hO (fun j => .int .u64 (wd T j))
      clear o0 o1 o2 o3 f0 f1 f2 f3
      generalize (((w2.setCell ⟨w.heap.size + 1 + 1 + 1,0,none⟩ (.int .u64 (wd T 0))).setCell ⟨w.heap.size + 1 + 1 + 1,1,none⟩ (.int .u64 (wd T 1))).setCell ⟨w.heap.size + 1 + 1 + 1,2,none⟩ (.int .u64 (wd T 2))).setCell ⟨w.heap.size + 1 + 1 + 1,3,none⟩ (.int .u64 (wd T 3)) = v2 at *
      obtain ⟨o0,o1,o2,o3⟩:=zae hO
      obtain ⟨c0,c1,c2,c3⟩:=zae hC
      go_wp2
      go_roundw
      case rel => exact ⟨m + 1,by omega,by go_num,rfl,hA,hB,hC,hR,by rw [show 64 * (k + 1) - (m + 1) = n by have:=hN.out; omega,← HT.out]; exact hO,hbel⟩
      case measure => simp [intOf]; omega
     ·
      have e1:=e1 (by have:=ht.2; omega)
      have hbI : z < 9223372036854775808:=by omega
      have hN:=veil hn
      have E1:=veil e1
      clear e1 e2 hD ht hq hbit hz hn
      go_wp2_with fail
      refine (H1.out _).mono ?_
      rintro e w1 ⟨rfl,hb1⟩
      clear o0 o1 o2 o3 c0 c1 c2 c3
      replace hA:=zab hA hb1 hA.lt
      replace hB:=zab hB hb1 hB.lt
      replace hC:=zab hC hb1 hC.lt
      replace hR:=zab hR hb1 hR.lt
      replace hO:=zab hO hb1 hO.lt
      replace hbel:=hbel.trans (hb1.mono hbel.size)
      clear hb1
      obtain ⟨o0,o1,o2,o3⟩:=zae hO
      obtain ⟨f0,f1,f2,f3⟩:=zaj hO
      go_upto_region 11 with (fail)
      replace hA:=zam hA (b':=w.heap.size + 1 + 1 + 1) (by omega) (.int .u64 (wd D 0)) (.int .u64 (wd D 1)) (.int .u64 (wd D 2)) (.int .u64 (wd D 3))
      replace hB:=zam hB (b':=w.heap.size + 1 + 1 + 1) (by omega) (.int .u64 (wd D 0)) (.int .u64 (wd D 1)) (.int .u64 (wd D 2)) (.int .u64 (wd D 3))
      replace hC:=zam hC (b':=w.heap.size + 1 + 1 + 1) (by omega) (.int .u64 (wd D 0)) (.int .u64 (wd D 1)) (.int .u64 (wd D 2)) (.int .u64 (wd D 3))
      replace hR:=zam hR (b':=w.heap.size + 1 + 1 + 1) (by omega) (.int .u64 (wd D 0)) (.int .u64 (wd D 1)) (.int .u64 (wd D 2)) (.int .u64 (wd D 3))
      replace hbel:=zap (b:=w.heap.size + 1 + 1 + 1) hbel (by omega) (.int .u64 (wd D 0)) (.int .u64 (wd D 1)) (.int .u64 (wd D 2)) (.int .u64 (wd D 3))
      replace hO:=put4 hO (fun j => .int .u64 (wd D j))
      clear o0 o1 o2 o3 f0 f1 f2 f3
      generalize (((w1.setCell ⟨w.heap.size + 1 + 1 + 1,0,none⟩ (.int .u64 (wd D 0))).setCell ⟨w.heap.size + 1 + 1 + 1,1,none⟩ (.int .u64 (wd D 1))).setCell ⟨w.heap.size + 1 + 1 + 1,2,none⟩ (.int .u64 (wd D 2))).setCell ⟨w.heap.size + 1 + 1 + 1,3,none⟩ (.int .u64 (wd D 3)) = v1 at *
      obtain ⟨o0,o1,o2,o3⟩:=zae hO
      obtain ⟨c0,c1,c2,c3⟩:=zae hC
      go_wp2
      go_roundw
      case rel => exact ⟨m + 1,by omega,by go_num,rfl,hA,hB,hC,hR,by rw [show 64 * (k + 1) - (m + 1) = n by have:=hN.out; omega,← E1.out]; exact hO,hbel⟩
      case measure => simp [intOf]; omega
    ·
     obtain rfl : m = 64:=by omega
     go_wp2
     go_roundw
     case rel => exact ⟨k,by omega,by go_num,hA,hB,hC,hR,by rw [show 64 * (k + 1) - 64 = 64 * k by omega] at hO; exact hO,hbel⟩
     case measure => simp [intOf]
theorem top_le_top2 : top ≤ top2:=by
 show w64 ^ 4 ≤ w64 ^ 8
 exact Nat.pow_le_pow_right zbf (by omega)
theorem gcut_num (X M P : Nat) (hP : X % M = P) (hX : X < top) (hM1 : 1 < M) (hM : M < top) (w : World) :
  Calls Tryz.prog 68 #[.agg #[vI vU (wd X 0),vI vU (wd X 1),vI vU (wd X 2),vI vU (wd X 3),vI vU 0,vI vU 0,vI vU 0,vI vU 0],.agg #[vI vU (wd M 0),vI vU (wd M 1),vI vU (wd M 2),vI vU (wd M 3)]] w fun e w' => e = .returned (.agg #[vI vU (wd P 0),vI vU (wd P 1),vI vU (wd P 2),vI vU (wd P 3)]) ∧ Below w.heap.size w w':=by
 subst hP
 obtain ⟨e4,e5,e6,e7⟩:=num_wide X hX
 have h:=gcut_calls X M (Nat.lt_of_lt_of_le hX top_le_top2) hM1 hM w
 rw [e4,e5,e6,e7] at h
 exact h
theorem gin_big (X M P : Nat) (hP : X % M = P) (hX : X < top) (hXM : decide (X < M) = false) (hM1 : 1 < M) (hM : M < top) (w : World) :
  Calls Tryz.prog 26 #[.agg #[vI vU (wd X 0),vI vU (wd X 1),vI vU (wd X 2),vI vU (wd X 3)],.agg #[vI vU (wd M 0),vI vU (wd M 1),vI vU (wd M 2),vI vU (wd M 3)]] w fun e w' => e = .returned (.agg #[vI vU (wd P 0),vI vU (wd P 1),vI vU (wd P 2),vI vU (wd P 3)]) ∧ Below w.heap.size w w':=by
 have HL:=veil hXM
 have h2:=fun W => gcut_num X M P hP hX hM1 hM W
 have H2:=veil h2
 clear h2 hXM hP
 have hX0 : (((w.alloc (.cells #[vI vU (wd X 0),vI vU (wd X 1),vI vU (wd X 2),vI vU (wd X 3)] 24)).alloc (.cells #[vI vU (wd M 0),vI vU (wd M 1),vI vU (wd M 2),vI vU (wd M 3)] 24)).alloc (.cells #[vI vU 0,vI vU 0,vI vU 0,vI vU 0] 24)).rowIs w.heap.size 24 4 (fun j => .int .u64 (wd X j)):=((zag (n:=4) (by simp) rfl (arr4 fun j => .int .u64 (wd X j))).alloc _).alloc _
 have hM0 : (((w.alloc (.cells #[vI vU (wd X 0),vI vU (wd X 1),vI vU (wd X 2),vI vU (wd X 3)] 24)).alloc (.cells #[vI vU (wd M 0),vI vU (wd M 1),vI vU (wd M 2),vI vU (wd M 3)] 24)).alloc (.cells #[vI vU 0,vI vU 0,vI vU 0,vI vU 0] 24)).rowIs (w.heap.size + 1) 24 4 (fun j => .int .u64 (wd M j)):=(zag (n:=4) (by simp) rfl (arr4 fun j => .int .u64 (wd M j))).alloc _
 have hR0 : (((w.alloc (.cells #[vI vU (wd X 0),vI vU (wd X 1),vI vU (wd X 2),vI vU (wd X 3)] 24)).alloc (.cells #[vI vU (wd M 0),vI vU (wd M 1),vI vU (wd M 2),vI vU (wd M 3)] 24)).alloc (.cells #[vI vU 0,vI vU 0,vI vU 0,vI vU 0] 24)).rowIs (w.heap.size + 1 + 1) 24 4 (fun _ => .int .u64 0):=zag (n:=4) (by simp) rfl (arr4 fun _ => .int .u64 0)
 have hb0 : Below w.heap.size w (((w.alloc (.cells #[vI vU (wd X 0),vI vU (wd X 1),vI vU (wd X 2),vI vU (wd X 3)] 24)).alloc (.cells #[vI vU (wd M 0),vI vU (wd M 1),vI vU (wd M 2),vI vU (wd M 3)] 24)).alloc (.cells #[vI vU 0,vI vU 0,vI vU 0,vI vU 0] 24)):=(((Below.refl _ _).alloc (by simp) _).alloc (by simp) _).alloc (by simp; omega) _
 go_enter Tryz.func26,Tryz.ntmps26
 obtain ⟨a0,a1,a2,a3⟩:=zae hX0
 obtain ⟨c0,c1,c2,c3⟩:=zae hM0
 go_wp2_with fail
 refine (zft X M false HL.out hX hM _).mono ?_
 rintro e w1 ⟨rfl,hb1⟩
 clear a0 a1 a2 a3 c0 c1 c2 c3
 replace hX0:=zab hX0 hb1 hX0.lt
 replace hM0:=zab hM0 hb1 hM0.lt
 replace hR0:=zab hR0 hb1 hR0.lt
 replace hb0:=hb0.trans (hb1.mono hb0.size)
 clear hb1
 obtain ⟨a0,a1,a2,a3⟩:=zae hX0
 obtain ⟨c0,c1,c2,c3⟩:=zae hM0
 obtain ⟨d0,d1,d2,d3⟩:=zae hR0
 obtain ⟨f0,f1,f2,f3⟩:=zaj hR0
 go_wp2_with fail
 refine (H2.out _).mono ?_
 rintro e w2 ⟨rfl,hb1⟩
 clear a0 a1 a2 a3 c0 c1 c2 c3 d0 d1 d2 d3 f0 f1 f2 f3
 replace hR0:=zab hR0 hb1 hR0.lt
 replace hb0:=hb0.trans (hb1.mono hb0.size)
 clear hb1 hX0 hM0
 obtain ⟨d0,d1,d2,d3⟩:=zae hR0
 obtain ⟨f0,f1,f2,f3⟩:=zaj hR0
 go_wp2
 refine bodyPost_ret (results_cell_row rfl _ _ (w.heap.size + 1 + 1) 24 #[vI vU (wd P 0),vI vU (wd P 1),vI vU (wd P 2),vI vU (wd P 3)] (0,0) _ rfl (blk4 (put4 hR0 fun j => .int .u64 (wd P j))) Tryz.underlying24 rfl (by kernel_rfl)) rfl ⟨rfl,zap hb0 (by omega) _ _ _ _⟩
theorem gin_calls (X M : Nat) (hX : X < top) (hM1 : 1 < M) (hM : M < top) (w : World) :
  Calls Tryz.prog 26 #[.agg #[vI vU (wd X 0),vI vU (wd X 1),vI vU (wd X 2),vI vU (wd X 3)],.agg #[vI vU (wd M 0),vI vU (wd M 1),vI vU (wd M 2),vI vU (wd M 3)]] w fun e w' => e = .returned (.agg #[vI vU (wd (X % M) 0),vI vU (wd (X % M) 1),vI vU (wd (X % M) 2),vI vU (wd (X % M) 3)]) ∧ Below w.heap.size w w':=by
 by_cases h : X < M
 ·
  rw [Nat.mod_eq_of_lt h]; exact gin_small X M h hM w
 ·
  exact gin_big X M _ rfl hX (by simpa using h) hM1 hM w
end Go.Proofs.YtmfjigcdhijkjaaGreatDoor
namespace Go.Proofs.YtmfjigcdhijkjaaGreatDoor.Pt
theorem nn_big : 3 < nn:=by decide +kernel
theorem nn_root : ∃ g : Fin nn,Root g:=by
 obtain ⟨ps,hp,h⟩:=(tab_pr tab [2] two_only tab_ok (0xffffffff00000000ffffffffffffffffbce6faada7179e84f3b9cac2fc632551,7,[2,2,2,2,3,71,131,373,3407,17449,38189,187019741,622491383,1002328039319,2624747550333869278416773953]) (by decide +kernel)).2
 exact ⟨_,(row_root (n:=nn) hp h).2⟩
abbrev Ne:=Fin nn
theorem nn_one : 1 < nn:=by have:=nn_big; omega
section
variable {n : Nat} [NeZero n]
theorem uniq_inv {x y z : Fin n} (h1 : x * y = 1) (h2 : x * z = 1) : y = z:=by
 have e : y = y * (x * z):=by rw [h2,zgy]
 rw [e,← zfj,zgc y x,h1,zgb]
theorem F_vlt {a : Nat} (h : a < n) : (F a : Fin n).val = a:=Nat.mod_eq_of_lt h
theorem F_mul_one (hn : 1 < n) {a t : Nat} (h : a * t % n = 1) : (F a : Fin n) * F t = 1:=by
 rw [← F_mul]
 apply Fin.ext
 rw [val_one hn]
 exact h
def gi (x : Fin n) : Fin n:=pf x (n - 2)
theorem gi_mul (hr : ∃ g : Fin n,Root g) (hn : 1 < n) {x : Fin n} (h : x ≠ 0) : x * gi x = 1:=by
 obtain ⟨g,hg⟩:=hr
 exact zhj hg hn h
theorem gi_of (hr : ∃ g : Fin n,Root g) (hn : 1 < n) {x t : Fin n} (h : x * t = 1) : t = gi x:=by
 have hx : x ≠ 0:=by
  rintro rfl
  have e : (0 : Fin n) * t = 0:=by grobner
  rw [e] at h
  have h2:=congrArg Fin.val h
  rw [Fin.val_zero,val_one hn] at h2
  exact absurd h2 (by decide)
 exact uniq_inv h (gi_mul hr hn hx)
end
section
variable (n : Nat) [NeZero n]
def iG (a : Nat) : Nat:=(gi (F a : Fin n)).val
theorem iG_lt (a : Nat) : iG n a < n:=(gi (F a : Fin n)).isLt
theorem iG_of (hr : ∃ g : Fin n,Root g) (hn : 1 < n) {a t : Nat} (ht : t < n) (h : a * t % n = 1) : t = iG n a:=by
 have e2:=congrArg Fin.val (gi_of hr hn (F_mul_one hn h))
 rw [F_vlt ht] at e2
 exact e2
omit [NeZero n] in
theorem gcd_of (hp : ∀ d,d ∣ n → d = 1 ∨ d = n) {a : Nat} (h0 : a ≠ 0) (h : a < n) : Nat.gcd a n = 1:=by
 rcases hp _ (Nat.gcd_dvd_right a n) with h1 | h1
 ·
  exact h1
 ·
  exfalso
  have h2:=Nat.gcd_dvd_left a n
  rw [h1] at h2
  have h3:=Nat.le_of_dvd (Nat.pos_of_ne_zero h0) h2
  omega
end
theorem gcd_nn {a : Nat} (h0 : a ≠ 0) (h : a < nn) : Nat.gcd a nn = 1:=gcd_of nn nn_pr.2 h0 h
/-! ### multiples -/
/-! ### signatures -/
def rOf (k : Nat) : Nat:=pX (grp.mul k base).1 % nn
def sOf (d e k : Nat) : Nat:=iG nn k * ((e % nn + rOf k * d % nn) % nn) % nn
def inR (x : Nat) : Bool:=decide (x ≠ 0) && decide (x < nn)
theorem inR_iff (x : Nat) : inR x = true ↔ x ≠ 0 ∧ x < nn:=by simp [inR]
end Go.Proofs.YtmfjigcdhijkjaaGreatDoor.Pt
namespace Go.Proofs.YtmfjigcdhijkjaaGreatDoor
open Go.RowKit
open Go.Value renaming int → vI
open Go.IntKind renaming u64 → vU
open Go.Act renaming put → aP
open List renaming setIfInBounds_toArray → lA, set_cons_zero → lZ, set_cons_succ → lS
def cellsN : List Nat → List Value
 | [] => []
 | x :: xs => (nc x).toList ++ cellsN xs
theorem zfu : ∀ (xs ys : List Nat),cellsN (xs ++ ys) = cellsN xs ++ cellsN ys
 | [],ys => rfl
 | x :: xs,ys => by
  show (nc x).toList ++ cellsN (xs ++ ys) = ((nc x).toList ++ cellsN xs) ++ cellsN ys
  rw [zfu xs ys,List.append_assoc]
theorem cellsN_at : ∀ (xs : List Nat) (i : Nat) (x : Nat),xs[i]? = some x → ((cellsN xs).drop (i * 4)).take 4 = (nc x).toList
 | [],i,x,h => by simp at h
 | y :: xs,0,x,h => by
  obtain rfl : y = x:=by simpa using h
  rfl
 | y :: xs,i + 1,x,h => by
  have h1:=cellsN_at xs i x (by simpa using h)
  have e : (i + 1) * 4 = (nc y).toList.length + i * 4:=by
   show _ = 4 + _
   omega
  show (((nc y).toList ++ cellsN xs).drop ((i + 1) * 4)).take 4 = _
  rw [e,← List.drop_drop,List.drop_left,h1]
def OwnN (w : World) (base : Nat) (v : Value) (xs : List Nat) : Prop:=w.ownsRow base 24 4 v xs.length (cellsN xs)
section
variable {w w' : World} {base : Nat} {v : Value} {xs : List Nat}
theorem OwnN.nil (w : World) (base : Nat) : OwnN w base (.slice none 0 0) []:=World.ownsRow_nil _ _ _ _
theorem OwnN.form (o : OwnN w base v xs) : ∃ A c,v = .slice A xs.length c ∧ xs.length ≤ c:=by
 rcases o.2 with ⟨h,h0⟩ | ⟨g,cap,cur,h,_,_,hn,_⟩
 ·
  exact ⟨none,0,by rw [h,h0],by omega⟩
 ·
  exact ⟨_,cap,h,hn⟩
theorem OwnN.lt (o : OwnN w base v xs) {k : Nat} (hk : v.ownBlock = some k) : base ≤ k ∧ k < w.heap.size:=World.ownsRow.lt o k hk
theorem OwnN.keep (o : OwnN w base v xs) (h : ∀ k,v.ownBlock = some k → w'.heap[k]? = w.heap[k]?) : OwnN w' base v xs:=by
 refine ⟨o.1,?_⟩
 rcases o.2 with hn | ⟨g,cap,cur,rfl,hbg,hh,rest⟩
 ·
  exact .inl hn
 ·
  exact .inr ⟨g,cap,cur,rfl,hbg,(h g rfl).trans hh,rest⟩
theorem OwnN.ext (o : OwnN w base v xs) (h : Ext w w') : OwnN w' base v xs:=o.keep fun k hk => Below.block h k (o.lt hk).2
theorem OwnN.but {r : Nat} (o : OwnN w base v xs) (h : But r w w') (hr : r < base) : OwnN w' base v xs:=o.keep fun k hk => h.block k (o.lt hk).2 (by have:=(o.lt hk).1; intro e; injection e; omega)
theorem OwnN.base_le {base' : Nat} (o : OwnN w base v xs) (hb : base' ≤ base) : OwnN w base' v xs :=
 ⟨o.1,o.2.elim .inl fun ⟨g,cap,cur,hv,hg,r⟩ => .inr ⟨g,cap,cur,hv,Nat.le_trans hb hg,r⟩⟩
theorem OwnN.at (o : OwnN w base v xs) {i : Nat} (hi : i < xs.length) : ∃ g cap,v = .slice (some ⟨g,0,none⟩) xs.length cap ∧ base ≤ g ∧ g < w.heap.size ∧ w.rangeAt g (i * 4) (nc (xs[i]'hi)).toList:=by
 rcases o.2 with ⟨_,h0⟩ | ⟨g,cap,cur,rfl,hbg,hh,hn,hm,hs,ht⟩
 ·
  omega
 ·
  refine ⟨g,cap,rfl,hbg,(Array.getElem?_eq_some_iff.1 hh).1,fun j u hu => ?_⟩
  have hj : j < 4:=by have:=(List.getElem?_eq_some_iff.1 hu).1; exact this
  rw [cell_of_row w g _ cur _ _ hh]
  have h1:=cellsN_at xs i _ (List.getElem?_eq_getElem hi)
  rw [← h1,List.getElem?_take_of_lt hj,List.getElem?_drop,← ht,List.getElem?_take_of_lt (by omega)] at hu
  simpa using hu
end
theorem infoN32 : (Tryz.prog.info? 24).map (fun i => (i.zero,i.size,i.bytes)) = some (some (.agg #[vI vU 0,vI vU 0,vI vU 0,vI vU 0]),4,32):=by kernel_rfl
theorem zhb {i : Option TypeInfo} {z : Value} {n b : Nat} (h : i.map (fun i => (i.zero,i.size,i.bytes)) = some (some z,n,b)) : ∃ j,i = some j ∧ j.zero = some z ∧ j.size = n ∧ j.bytes = b:=by
 cases i with
 | none => simp at h
 | some j =>
  simp only [Option.map_some,Option.some.injEq,Prod.mk.injEq] at h
  exact ⟨j,rfl,h.1,h.2.1,h.2.2⟩
theorem wpl_append_num {w : World} {ops : Array Oper} {rest : List Oper} {o : Oper} {a : Act} {Q : Exit → Act → World → Prop} (hgd : o.guard = none) (s x : Operand)
  (ho : o.op = .call { callee:=.builtin .append,args:=#[s,x],argTypes:=#[50,50] })
  (base : Nat) (v : Value) (xs : List Nat) (hs : a.eval s = v) (hown : OwnN w base v xs) (g X : Nat) (hx : a.eval x = .slice (some ⟨g,0,none⟩) 1 1) (hg : w.heap[g]? = some (.cells (nc X) 24 (0,0)))
  (hn : xs.length ≤ 1000) (hbase : base ≤ w.heap.size)
  (h : ∀ v' w',OwnN w' base v' (xs ++ [X]) → w.grownBy w' v.ownBlock → wpList Tryz.prog ops Q rest (a.put o.dst v') w') : wpList Tryz.prog ops Q (o :: rest) a w:=by
 obtain ⟨i,hi,hz,hsz,hby⟩:=zhb infoN32
 refine wpList_plain hgd fun K hK => ?_
 obtain ⟨v',w',hr,h2,h3,_,_⟩:=run_append_own_at (P:=Tryz.prog) w base 50 o.type 24 i _ 4 32 Tryz.underlying50 hi hz hsz hby rfl (by decide) v xs.length (cellsN xs) hown ⟨g,0,none⟩ 1 1 (nc X).toList rfl
  (fun j u hu => by
   rw [Addr.add_mid,Nat.zero_add,cell_of_row w g j (nc X) _ _ hg]
   simpa using hu)
  (fun u hu => (Array.all_eq_true_iff_forall_mem.1 (zbe X)) u (by simpa using hu)) (by unfold maxLen; omega) (by omega) hbase
 unfold Oper.wp execOp
 simp only [ho,resolve,invoke,builtin,Sem.run_bind,Sem.run_pure,Result.andThen_ok,List.map_toArray,List.map_cons,List.map_nil,hs,hx,hr]
 refine hK _ _ (h v' w' ?_ h3)
 unfold OwnN
 rw [zfu,List.length_append]
 have e : cellsN [X] = (nc X).toList:=List.append_nil _
 rw [e]
 exact h2
def RSrc (W : World) (v : Value) (y : Nat → Nat) (ob : Option Nat) : Prop :=
 ∃ b o c,v = .slice (some ⟨b,o,none⟩) 32 c ∧ b < W.heap.size ∧ ob ≠ some b ∧ ∀ j,j < 32 → W.cell? ⟨b,o + j,none⟩ = some (.int .u8 (y j : Nat))
section
variable {W W' : World} {v : Value} {y : Nat → Nat} {ob : Option Nat}
theorem RSrc.ext (h : RSrc W v y ob) (k : Ext W W') : RSrc W' v y ob:=by
 obtain ⟨b,o,c,e,hb,hne,hc⟩:=h
 exact ⟨b,o,c,e,Nat.lt_of_lt_of_le hb (Below.size k),hne,fun j hj => (Below.cell k (p:=⟨b,o + j,none⟩) hb).trans (hc j hj)⟩
theorem RSrc.grown (h : RSrc W v y ob) (k : W.grownBy W' ob) {ob' : Option Nat} (ho : ob' = ob ∨ ob' = some W.heap.size) : RSrc W' v y ob':=by
 obtain ⟨b,o,c,e,hb,hne,hc⟩:=h
 refine ⟨b,o,c,e,Nat.lt_of_lt_of_le hb k.size,?_,fun j hj => (World.cell?_of_block (a:=⟨b,o + j,none⟩) (k.block b hb (Ne.symm hne))).trans (hc j hj)⟩
 rcases ho with rfl | rfl
 ·
  exact hne
 ·
  intro e; injection e; omega
theorem RSrc.src (h : RSrc W v y ob) : ∃ A c,v = .slice A 32 c ∧ Src W A 32 y W.heap.size:=by
 obtain ⟨b,o,c,e,hb,_,hc⟩:=h
 exact ⟨_,c,e,.inr ⟨b,o,rfl,hb,by omega,hc⟩⟩
end
theorem cat_rest (v : Nat → Nat) : cat v 32 (fun j => v (32 + j)) = v:=by
 funext i
 unfold cat
 split
 ·
  rfl
 ·
  show v (32 + (i - 32)) = v i
  congr 1; omega
theorem zgi (RS : RSum) (s : KV) (hs : s.Ok) (vk vv : Value) (ob : Option Nat) (w : World) (hk : RSrc w vk s.k ob) (hv : RSrc w vv s.v ob) (ho : ∀ b,ob = some b → b < w.heap.size) :
  Calls Tryz.prog 64 #[vk,vv,.slice none 0 0] w fun e w' => ∃ r,e = .returned r ∧ RSrc w' r (nb s.k 32 s.v 32) ob ∧ Ext w w':=by
 obtain ⟨A,cA,rfl,hA⟩:=hk.src
 obtain ⟨B,cB,rfl,hB⟩:=hv.src
 refine (code_calls RS A B none cA cB 0 0 s.k s.v (fun j => s.v (32 + j)) hs.k hs.v (fun j => hs.v _) (by decide) w hA hB (.inl rfl)).mono ?_
 rintro e w' ⟨g,rfl,hg,hr,hb⟩
 rw [cat_rest] at hr
 exact ⟨_,rfl,⟨g,0,32,rfl,hr.lt,fun e => by have:=ho g e; omega,fun j hj => by rw [Nat.zero_add]; exact hr.cell hj⟩,hb⟩
theorem code_tx (RS : RSum) (s : KV) (hs : s.Ok) (vk vv : Value) (ob : Option Nat) (b : Nat) (hb : b < 256) (t : Nat → Nat) (ht : ∀ j,t j < 256) (m : Nat) (hm : m ≤ 900) (C : Option Addr) (cC : Nat) (w : World)
  (hk : RSrc w vk s.k ob) (hv : RSrc w vv s.v ob) (hC : Src w C (1 + m) (cat (fun _ => b) 1 t) w.heap.size) (ho : ∀ b,ob = some b → b < w.heap.size) :
  Calls Tryz.prog 64 #[vk,vv,.slice C (1 + m) cC] w fun e w' => ∃ r,e = .returned r ∧ RSrc w' r (nb s.k 32 (tx s.v b t) (33 + m)) ob ∧ Ext w w':=by
 obtain ⟨A,cA,rfl,hA⟩:=hk.src
 obtain ⟨B,cB,rfl,hB⟩:=hv.src
 refine (code_calls RS A B C cA cB cC (1 + m) s.k s.v (cat (fun _ => b) 1 t) hs.k hs.v (cat_lt (fun _ => hb) ht) (by omega) w hA hB hC).mono ?_
 rintro e w' ⟨g,rfl,hg,hr,hb⟩
 rw [show 32 + (1 + m) = 33 + m by omega] at hr
 exact ⟨_,rfl,⟨g,0,32,rfl,hr.lt,fun e => by have:=ho g e; omega,fun j hj => by rw [Nat.zero_add]; exact hr.cell hj⟩,hb⟩
theorem wpl_append_num' {w : World} {ops : Array Oper} {rest : List Oper} {o : Oper} {a : Act} {Q : Exit → Act → World → Prop} (hgd : o.guard = none) (s x : Operand)
  (ho : o.op = .call { callee:=.builtin .append,args:=#[s,x],argTypes:=#[50,50] })
  (base : Nat) (v : Value) (xs : List Nat) (hs : a.eval s = v) (hown : OwnN w base v xs) (g X : Nat) (hx : a.eval x = .slice (some ⟨g,0,none⟩) 1 1) (hg : w.heap[g]? = some (.cells (nc X) 24 (0,0)))
  (hn : xs.length ≤ 1000) (hbase : base ≤ w.heap.size)
  (h : ∀ v' w',OwnN w' base v' (xs ++ [X]) → w.grownBy w' v.ownBlock → (v'.ownBlock = v.ownBlock ∨ v'.ownBlock = some w.heap.size) → wpList Tryz.prog ops Q rest (a.put o.dst v') w') : wpList Tryz.prog ops Q (o :: rest) a w:=by
 obtain ⟨i,hi,hz,hsz,hby⟩:=zhb infoN32
 refine wpList_plain hgd fun K hK => ?_
 obtain ⟨v',w',hr,h2,h3,_,h5⟩:=run_append_own_at (P:=Tryz.prog) w base 50 o.type 24 i _ 4 32 Tryz.underlying50 hi hz hsz hby rfl (by decide) v xs.length (cellsN xs) hown ⟨g,0,none⟩ 1 1 (nc X).toList rfl
  (fun j u hu => by
   rw [Addr.add_mid,Nat.zero_add,cell_of_row w g j (nc X) _ _ hg]
   simpa using hu)
  (fun u hu => (Array.all_eq_true_iff_forall_mem.1 (zbe X)) u (by simpa using hu)) (by unfold maxLen; omega) (by omega) hbase
 unfold Oper.wp execOp
 simp only [ho,resolve,invoke,builtin,Sem.run_bind,Sem.run_pure,Result.andThen_ok,List.map_toArray,List.map_cons,List.map_nil,hs,hx,hr]
 refine hK _ _ (h v' w' ?_ h3 h5)
 unfold OwnN
 rw [zfu,List.length_append]
 have e : cellsN [X] = (nc X).toList:=List.append_nil _
 rw [e]
 exact h2
theorem tx_own {w : World} {base m b : Nat} {v : Value} {t : Nat → Nat} (h : Own w base 5 v (1 + m) (fun j => if j < 1 then .int .u8 (b : Int) else .int .u8 (t (j - 1) : Nat))) : Own w base 5 v (1 + m) (fun j => .int .u8 (cat (fun _ => b) 1 t j : Nat)):=h.congr fun j _ => by
 unfold cat
 split <;> rfl
theorem src_one (w : World) (b : Nat) : Src (w.alloc (.cells #[.int .u8 (b : Int)] 5)) (some ⟨w.heap.size,0,none⟩) (1 + 0) (cat (fun _ => b) 1 none0) (w.alloc (.cells #[.int .u8 (b : Int)] 5)).heap.size :=
 .inr ⟨w.heap.size,0,rfl,by simp,by simp,fun j hj => by
  obtain rfl : j = 0:=by omega
  rw [World.cell?_alloc_mark]; rfl⟩
theorem part_bytes (X m : Nat) : pt X m / 256 = byv X (2 * m + 1) ∧ pt X m % 256 = byv X (2 * m):=by
 have h0:=dg_byte X 2 m 0 (by omega)
 have h1:=dg_byte X 2 m 1 (by omega)
 rw [← w16_bytes] at h0 h1
 have hl:=dg_lt zhf X m
 unfold pt byv
 rw [← h1,← show dg w16 X m / 256 ^ 0 % 256 = dg 256 X (2 * m) from h0]
 generalize dg w16 X m = D at *
 unfold w16 at hl
 simp only [Nat.pow_zero,Nat.pow_one,Nat.div_one]
 omega
theorem heap_alloc_drew (w : World) (o : Obj) : (w.alloc o).drew.heap[w.heap.size]? = some o:=heap_alloc_new w o
def bsv (X j : Nat) : Value:=.int .u8 (byv X (31 - j))
theorem bsL_step (X m : Nat) (hm : m < 16) : (List.range (32 - 2 * (m + 1))).map (bsv X) ++ [.int .u8 (byv X (2 * m + 1)),.int .u8 (byv X (2 * m))] = (List.range (32 - 2 * m)).map (bsv X):=by
 rw [show 32 - 2 * m = (32 - 2 * (m + 1)) + 1 + 1 by omega,List.range_succ,List.range_succ,List.map_append,List.map_append,List.append_assoc]
 simp only [List.map_cons,List.map_nil,bsv,List.cons_append,List.nil_append]
 rw [show 31 - (32 - 2 * (m + 1)) = 2 * m + 1 by omega,show 31 - (32 - 2 * (m + 1) + 1) = 2 * m by omega]
theorem conv_hi (z : Int) (h0 : 0 ≤ z) (h1 : z ≤ 65535) : IntKind.u8.wrap (IntKind.i64.wrap (z.tdiv 256)) = z / 256:=by
 have e : z.tdiv 256 = z / 256:=Int.tdiv_eq_ediv_of_nonneg h0
 have h2 : 0 ≤ z / 256:=by omega
 have h3 : z / 256 ≤ 255:=by omega
 rw [e]
 generalize z / 256 = q at *
 rw [IntWalk.i64_in q ⟨by omega,by omega⟩,IntKind.wrap_u8]
 exact Int.emod_eq_of_lt h2 (by omega)
theorem conv_lo (z : Int) (h0 : 0 ≤ z) : IntKind.u8.wrap (z.tmod 256) = z % 256:=by
 have e : z.tmod 256 = z % 256:=Int.tmod_eq_emod_of_nonneg h0
 rw [e,IntKind.wrap_u8]
 exact Int.emod_emod_of_dvd z (Int.dvd_refl 256)
theorem none_yet (X : Nat) (W : World) (base : Nat) : W.ownsRow base 5 1 (.slice none 0 0) (32 - 2 * 16) ((List.range (32 - 2 * 16)).map (bsv X)):=by
 simp only [show 32 - 2 * 16 = 0 from by omega,List.range_zero,List.map_nil]
 exact World.ownsRow_nil _ _ _ _
theorem rbytes_own (X : Nat) (w : World) :
  Calls Tryz.prog 63 #[.agg #[vI vU (wd X 0),vI vU (wd X 1),vI vU (wd X 2),vI vU (wd X 3)]] w fun e w' => ∃ g cap,e = .returned (.slice (some ⟨g,0,none⟩) 32 cap) ∧ 32 ≤ cap ∧ w.heap.size ≤ g ∧ Own w' w.heap.size 5 (.slice (some ⟨g,0,none⟩) 32 cap) 32 (bsv X) ∧ Below w.heap.size w w':=by
 obtain ⟨i0,hi,hz0,hz1,hz2⟩:=info_parts infoByte
 have hB0 : Below w.heap.size w (w.alloc (.cells #[vI vU (wd X 0),vI vU (wd X 1),vI vU (wd X 2),vI vU (wd X 3)] 24)):=(Below.refl _ _).alloc (by simp) _
 go_enter Tryz.func63,Tryz.ntmps63
 go_wp2_with fail
 refine (zfs X _).mono ?_
 rintro e w1 ⟨g1,cap1,rfl,hg1,hp1,hb1⟩
 have hB1:=hB0.trans (hb1.mono (by simp))
 have hl1:=hp1.lt
 have hsz:=hB1.size
 clear hB0 hb1 hg1
 go_wp2
 go_loopw [4,5] (fun v i wr => ∃ k : Nat,k ≤ 16 ∧ i = .int .i64 ((k : Int) - 1) ∧ wr.ownsRow w1.heap.size 5 1 v (32 - 2 * k) ((List.range (32 - 2 * k)).map (bsv X)) ∧ Pre wr g1 3 16 (ptv X) ∧ Below w.heap.size w wr ∧ w1.heap.size ≤ wr.heap.size)
  (fun _ i _ => (intOf i + 1).toNat)
 case atStart => exact ⟨16,by omega,rfl,none_yet X w1 _,hp1,hB1,Nat.le_refl _⟩
 case round =>
  clear hp1 hB1
  obtain ⟨k,hk,hii,hown,hp,hbel,hsz2⟩:=hrel
  cases k with
  | zero =>
   subst hii
   go_wp2
   go_ret
   have ho : Own wr w1.heap.size 5 _ 32 (bsv X):=hown
   obtain ⟨g,cap,rfl,hc,hg,_⟩:=ho.pre (by omega)
   exact ⟨g,cap,rfl,hc,by omega,ho.base_le hsz,hbel⟩
  | succ m =>
   obtain rfl : _ = Value.int .i64 (m : Int):=hii.trans (by congr 1; omega)
   have hm : m < 16:=by omega
   have c1:=hp.cell hm
   simp only [ptv] at c1
   clear hii
   go_wp2
   have hm0 : (0 : Int) ≤ (m : Int):=by omega
   have hm1 : (m : Int) < 16:=by omega
   have l1:=pt_lo X m
   have u1 : pt X m ≤ 65535:=by have:=pt_lt X m; omega
   obtain ⟨q1,q2⟩:=part_bytes X m
   have E1 : IntKind.u8.wrap (IntKind.i64.wrap ((pt X m).tdiv 256)) = byv X (2 * m + 1):=(conv_hi _ l1 u1).trans q1
   have E2 : IntKind.u8.wrap ((pt X m).tmod 256) = byv X (2 * m):=(conv_lo _ l1).trans q2
   clear q1 q2
   as_aux_lemma =>
   go_region_held3 (fun w' => w'.cell? ⟨g1,m,none⟩ = some (.int .i64 (pt X m)))
    (first
     | go_keep
     | exact (hgrow.cell_far ⟨g1,m,none⟩ ((hp.alloc _).drew).lt (fun e => by have h2 : w1.heap.size ≤ g1:=(hown.lt g1 e.symm).1; omega)).trans (((hp.alloc _).drew).cell hm))
    ((refine step_append_lies _ (by rfl) _ _ _ (by rfl) w1.heap.size 5 i0 _ 1 1 Tryz.underlying46 hi hz0 hz1 hz2 rfl (by omega) _ _ _ (by rfl) ((hown.alloc _).drew)
       ⟨wr.heap.size,0,none⟩ 2 2 [.int .u8 (byv X (2 * m + 1)),.int .u8 (byv X (2 * m))] (by rfl) (by rfl) (World.news_of_block (cs:=#[.int .u8 (byv X (2 * m + 1)),.int .u8 (byv X (2 * m))]) (t:=5) (fr:=(0,0)) (heap_alloc_drew wr _)) (by simp [Value.oneCell'])
       (by omega) (by unfold maxLen; omega) (by omega) (by simp; omega) (wr.heap.size + 1) (by simp) ?_; intro gg cap w4 hown1 hgrow hat hlt))
   all_goals
    go_wp2
    go_roundw
    have hsz5 : w1.heap.size ≤ w4.heap.size:=by
     have h6:=hgrow.size
     have h5 : wr.heap.size ≤ (wr.alloc (.cells #[.int .u8 (byv X (2 * m + 1)),.int .u8 (byv X (2 * m))] 5)).drew.heap.size:=by
      show wr.heap.size ≤ (wr.alloc _).heap.size
      simp
     omega
    case rel => exact ⟨m,by omega,rfl,by rw [bsL_step X m hm,show 32 - 2 * (m + 1) + 2 = 32 - 2 * m by omega] at hown1; rw [show 32 - 2 * (m + 1) + 2 = 32 - 2 * m by omega]; exact hown1,(hp.alloc _).drew.of_block (hgrow.block g1 ((hp.alloc _).drew).lt (fun e => by have h2 : w1.heap.size ≤ g1:=(hown.lt g1 e.symm).1; omega)),((hbel.alloc (by omega) _).drew).grown hgrow (by show w.heap.size ≤ (wr.alloc _).heap.size; simp; omega) (fun k e => by have:=(hown.lt _ e).1; omega),hsz5⟩
    case measure => simp [intOf]
end Go.Proofs.YtmfjigcdhijkjaaGreatDoor
