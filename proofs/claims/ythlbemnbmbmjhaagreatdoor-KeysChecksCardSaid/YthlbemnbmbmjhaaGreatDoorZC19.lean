/-
  Of FInv.
-/
import Derived.Deep.CutRange
import Derived.Test.YthlbemnbmbmjhaaGreatDoorZC11
import Derived.Test.YthlbemnbmbmjhaaGreatDoorZC17
import Derived.Test.YthlbemnbmbmjhaaGreatDoorZC16
set_option maxRecDepth 1000000
set_option maxHeartbeats 20000000
namespace Go.Proofs.YthlbemnbmbmjhaaGreatDoor
open Go.RowKit
open Go.Value renaming int → vI
open Go.IntKind renaming u64 → vU
open Go.Act renaming put → aP
open List renaming setIfInBounds_toArray → lA, set_cons_zero → lZ, set_cons_succ → lS
structure FI (a M u v x y : Nat) : Prop where
 hx : x < M
 hy : y < M
 hu : u < top
 hv : v < top
 odd : v % 2 = 1
 ex : a * x % M = u % M
 ey : a * y % M = v % M
 g : Nat.gcd u v = Nat.gcd a M
theorem fi_start {a M : Nat} (ha : a < top) (hM : M < top) (hM1 : 1 < M) (hodd : M % 2 = 1) : FI a M a M 1 0 :=
 ⟨hM1,by omega,ha,hM,hodd,by rw [Nat.mul_one],by rw [Nat.mul_zero,Nat.zero_mod,Nat.mod_self],rfl⟩
theorem fi_even {a M u v x y : Nat} (h : FI a M u v x y) (hodd : M % 2 = 1) (hu : u % 2 = 0) : FI a M (u / 2) v (hf x M) y:=by
 obtain ⟨hx,hy,hut,hvt,odd,ex,ey,g⟩:=h
 refine ⟨hf_lt hx,hy,by omega,hvt,odd,?_,ey,by rw [gcd_even u v hu odd]; exact g⟩
 apply cut_twice hodd
 rw [show 2 * (u / 2) = u by omega,← ex]
 unfold hf
 split
 ·
  rw [Nat.mul_left_comm,show 2 * (x / 2) = x by omega]
 ·
  rw [Nat.mul_left_comm,show 2 * ((x + M) / 2) = x + M by omega,Nat.mul_add,Nat.add_mul_mod_self_right]
theorem fi_swap {a M u v x y : Nat} (h : FI a M u v x y) (hu : u % 2 = 1) : FI a M v u y x :=
 ⟨h.hy,h.hx,h.hv,h.hu,hu,h.ey,h.ex,by rw [Nat.gcd_comm]; exact h.g⟩
theorem fi_more {a M u v x y : Nat} (h : FI a M u v x y) (hle : v ≤ u) : FI a M (u - v) v ((x + M - y) % M) y:=by
 obtain ⟨hx,hy,hut,hvt,odd,ex,ey,g⟩:=h
 have hM0 : 0 < M:=by omega
 refine ⟨Nat.mod_lt _ hM0,hy,by omega,hvt,odd,?_,ey,by rw [gcd_less v u hle,Nat.gcd_comm]; exact g⟩
 apply cut_add (C:=v) hM0
 rw [Nat.sub_add_cancel hle,← ex,Nat.add_mod,← ey,← Nat.add_mod,Nat.add_mod,Nat.mul_mod,Nat.mod_mod,← Nat.mul_mod,← Nat.add_mod,← Nat.mul_add,show x + M - y + y = x + M by omega,Nat.mul_add,Nat.add_mul_mod_self_right]
structure Fi (w wr : World) (b M : Nat) (N : Int) (Q u v x y : Nat) : Prop where
 rr : wr.rowIs (w.heap.size + 1) 27 4 (fun _ => .int .u64 0)
 ur : wr.rowIs (w.heap.size + 1 + 1) 27 4 (fun j => .int .u64 (wd u j))
 xr : wr.rowIs (w.heap.size + 1 + 1 + 1) 27 4 (fun j => .int .u64 (wd x j))
 vr : wr.rowIs (w.heap.size + 1 + 1 + 1 + 1) 27 4 (fun j => .int .u64 (wd v j))
 yr : wr.rowIs (w.heap.size + 1 + 1 + 1 + 1 + 1) 27 4 (fun j => .int .u64 (wd y j))
 fr : Fb wr b M N Q
 be : Below w.heap.size w wr
section
variable {w wr w' : World} {b M : Nat} {N : Int} {Q u v x y : Nat}
theorem Fi.call (h : Fi w wr b M N Q u v x y) (hb : Below wr.heap.size wr w') : Fi w w' b M N Q u v x y :=
 ⟨zaa h.rr hb h.rr.lt,zaa h.ur hb h.ur.lt,zaa h.xr hb h.xr.lt,zaa h.vr hb h.vr.lt,zaa h.yr hb h.yr.lt,h.fr.call hb,h.be.trans (hb.mono h.be.size)⟩
theorem Fi.drew (h : Fi w wr b M N Q u v x y) : Fi w wr.drew b M N Q u v x y:=⟨h.rr.drew,h.ur.drew,h.xr.drew,h.vr.drew,h.yr.drew,h.fr,h.be.drew⟩
theorem Fi.putU (h : Fi w wr b M N Q u v x y) (hb : b < w.heap.size) (k : Nat) : Fi w ((((wr.setCell ⟨w.heap.size + 1 + 1,0,none⟩ (.int .u64 (wd k 0))).setCell ⟨w.heap.size + 1 + 1,1,none⟩ (.int .u64 (wd k 1))).setCell ⟨w.heap.size + 1 + 1,2,none⟩ (.int .u64 (wd k 2))).setCell ⟨w.heap.size + 1 + 1,3,none⟩ (.int .u64 (wd k 3))) b M N Q k v x y :=
 ⟨zah h.rr (by omega) _ _ _ _,put4 h.ur fun j => .int .u64 (wd k j),zah h.xr (by omega) _ _ _ _,zah h.vr (by omega) _ _ _ _,zah h.yr (by omega) _ _ _ _,zah h.fr (by omega) _ _ _ _,zai h.be (by omega) _ _ _ _⟩
theorem Fi.putV (h : Fi w wr b M N Q u v x y) (hb : b < w.heap.size) (k : Nat) : Fi w ((((wr.setCell ⟨w.heap.size + 1 + 1 + 1 + 1,0,none⟩ (.int .u64 (wd k 0))).setCell ⟨w.heap.size + 1 + 1 + 1 + 1,1,none⟩ (.int .u64 (wd k 1))).setCell ⟨w.heap.size + 1 + 1 + 1 + 1,2,none⟩ (.int .u64 (wd k 2))).setCell ⟨w.heap.size + 1 + 1 + 1 + 1,3,none⟩ (.int .u64 (wd k 3))) b M N Q u k x y :=
 ⟨zah h.rr (by omega) _ _ _ _,zah h.ur (by omega) _ _ _ _,zah h.xr (by omega) _ _ _ _,put4 h.vr fun j => .int .u64 (wd k j),zah h.yr (by omega) _ _ _ _,zah h.fr (by omega) _ _ _ _,zai h.be (by omega) _ _ _ _⟩
theorem Fi.putX (h : Fi w wr b M N Q u v x y) (hb : b < w.heap.size) (k : Nat) : Fi w ((((wr.setCell ⟨w.heap.size + 1 + 1 + 1,0,none⟩ (.int .u64 (wd k 0))).setCell ⟨w.heap.size + 1 + 1 + 1,1,none⟩ (.int .u64 (wd k 1))).setCell ⟨w.heap.size + 1 + 1 + 1,2,none⟩ (.int .u64 (wd k 2))).setCell ⟨w.heap.size + 1 + 1 + 1,3,none⟩ (.int .u64 (wd k 3))) b M N Q u v k y :=
 ⟨zah h.rr (by omega) _ _ _ _,zah h.ur (by omega) _ _ _ _,put4 h.xr fun j => .int .u64 (wd k j),zah h.vr (by omega) _ _ _ _,zah h.yr (by omega) _ _ _ _,zah h.fr (by omega) _ _ _ _,zai h.be (by omega) _ _ _ _⟩
theorem Fi.putY (h : Fi w wr b M N Q u v x y) (hb : b < w.heap.size) (k : Nat) : Fi w ((((wr.setCell ⟨w.heap.size + 1 + 1 + 1 + 1 + 1,0,none⟩ (.int .u64 (wd k 0))).setCell ⟨w.heap.size + 1 + 1 + 1 + 1 + 1,1,none⟩ (.int .u64 (wd k 1))).setCell ⟨w.heap.size + 1 + 1 + 1 + 1 + 1,2,none⟩ (.int .u64 (wd k 2))).setCell ⟨w.heap.size + 1 + 1 + 1 + 1 + 1,3,none⟩ (.int .u64 (wd k 3))) b M N Q u v x k :=
 ⟨zah h.rr (by omega) _ _ _ _,zah h.ur (by omega) _ _ _ _,zah h.xr (by omega) _ _ _ _,zah h.vr (by omega) _ _ _ _,put4 h.yr fun j => .int .u64 (wd k j),zah h.fr (by omega) _ _ _ _,zai h.be (by omega) _ _ _ _⟩
end
theorem neq_one {X : Nat} (hX : X < top) (w : World) : (binOp .neq 27 (.agg #[vI vU (wd X 0),vI vU (wd X 1),vI vU (wd X 2),vI vU (wd X 3)]) (.agg #[vI vU 1,vI vU 0,vI vU 0,vI vU 0])).run Tryz.prog w = .ok (.bool (!decide (X = 1))) w:=by
 have h:=neq4 (wd X) (wd 1) w
 rw [all_wd 4 X 1] at h
 have e : (X % w64 ^ 4 = 1 % w64 ^ 4) = (X = 1):=by rw [Nat.mod_eq_of_lt (show X < w64 ^ 4 from hX),Nat.mod_eq_of_lt (show 1 < w64 ^ 4 by decide)]
 rw [decide_eq_decide.2 (iff_of_eq e)] at h
 have o0 : wd 1 0 = 1:=by decide
 have o1 : wd 1 1 = 0:=by decide
 have o2 : wd 1 2 = 0:=by decide
 have o3 : wd 1 3 = 0:=by decide
 rw [o0,o1,o2,o3] at h
 exact h
def invRet (X M y : Nat) : Value:=if Nat.gcd X M = 1 then .tuple #[.agg #[vI vU (wd y 0),vI vU (wd y 1),vI vU (wd y 2),vI vU (wd y 3)],.nilIface] else .tuple #[.agg #[vI vU 0,vI vU 0,vI vU 0,vI vU 0],.iface 39 (.int .i64 4)]
theorem zjw {X M y : Nat} (h : Nat.gcd X M = 1) : invRet X M y = .tuple #[.agg #[vI vU (wd y 0),vI vU (wd y 1),vI vU (wd y 2),vI vU (wd y 3)],.nilIface]:=if_pos h
theorem invRet_no {X M y : Nat} (h : ¬ Nat.gcd X M = 1) : invRet X M y = .tuple #[.agg #[vI vU 0,vI vU 0,vI vU 0,vI vU 0],.iface 39 (.int .i64 4)]:=if_neg h
theorem zka (b X M : Nat) (N : Int) (Q : Nat) (hX : X < top) (hK : Fok M N Q) (w : World) (hF : Fb w b M N Q) :
  Calls Tryz.prog 87 #[.pointer (some ⟨b,0,none⟩),.agg #[vI vU (wd X 0),vI vU (wd X 1),vI vU (wd X 2),vI vU (wd X 3)]] w fun e w' => (∃ y,y < M ∧ (Nat.gcd X M = 1 → X * y % M = 1) ∧
   e = .returned (invRet X M y)) ∧ Below w.heap.size w w':=by
 have hMt:=hK.mt
 have hM1 : 1 < M:=by have:=hK.m2; omega
 have hodd:=hK.odd
 have hI0:=fi_start hX hMt hM1 hodd
 have HM:=veil (And.intro hMt (And.intro hM1 hodd))
 clear hX hMt hM1 hodd hK
 have hA2 : ((w.alloc (.cells #[vI vU (wd X 0),vI vU (wd X 1),vI vU (wd X 2),vI vU (wd X 3)] 27)).alloc (.cells #[vI vU 0,vI vU 0,vI vU 0,vI vU 0] 27)).rowIs w.heap.size 27 4 (fun j => .int .u64 (wd X j)):=(zae (n:=4) (by simp) rfl (arr4 fun j => .int .u64 (wd X j))).alloc _
 have hF4 : Fb ((((w.alloc (.cells #[vI vU (wd X 0),vI vU (wd X 1),vI vU (wd X 2),vI vU (wd X 3)] 27)).alloc (.cells #[vI vU 0,vI vU 0,vI vU 0,vI vU 0] 27)).alloc (.cells #[vI vU (wd X 0),vI vU (wd X 1),vI vU (wd X 2),vI vU (wd X 3)] 27)).alloc (.cells #[vI vU 1,vI vU 0,vI vU 0,vI vU 0] 27)) b M N Q:=(((hF.alloc _).alloc _).alloc _).alloc _
 have hA : ((((((w.alloc (.cells #[vI vU (wd X 0),vI vU (wd X 1),vI vU (wd X 2),vI vU (wd X 3)] 27)).alloc (.cells #[vI vU 0,vI vU 0,vI vU 0,vI vU 0] 27)).alloc (.cells #[vI vU (wd X 0),vI vU (wd X 1),vI vU (wd X 2),vI vU (wd X 3)] 27)).alloc (.cells #[vI vU 1,vI vU 0,vI vU 0,vI vU 0] 27)).alloc (.cells #[vI vU (wd M 0),vI vU (wd M 1),vI vU (wd M 2),vI vU (wd M 3)] 27)).alloc (.cells #[vI vU 0,vI vU 0,vI vU 0,vI vU 0] 27)).rowIs w.heap.size 27 4 (fun j => .int .u64 (wd X j)):=(((((zae (n:=4) (by simp) rfl (arr4 fun j => .int .u64 (wd X j))).alloc _).alloc _).alloc _).alloc _).alloc _
 have hR : ((((((w.alloc (.cells #[vI vU (wd X 0),vI vU (wd X 1),vI vU (wd X 2),vI vU (wd X 3)] 27)).alloc (.cells #[vI vU 0,vI vU 0,vI vU 0,vI vU 0] 27)).alloc (.cells #[vI vU (wd X 0),vI vU (wd X 1),vI vU (wd X 2),vI vU (wd X 3)] 27)).alloc (.cells #[vI vU 1,vI vU 0,vI vU 0,vI vU 0] 27)).alloc (.cells #[vI vU (wd M 0),vI vU (wd M 1),vI vU (wd M 2),vI vU (wd M 3)] 27)).alloc (.cells #[vI vU 0,vI vU 0,vI vU 0,vI vU 0] 27)).rowIs (w.heap.size + 1) 27 4 (fun _ => .int .u64 0):=((((zae (n:=4) (by simp) rfl (arr4 fun _ => .int .u64 0)).alloc _).alloc _).alloc _).alloc _
 have hU : ((((((w.alloc (.cells #[vI vU (wd X 0),vI vU (wd X 1),vI vU (wd X 2),vI vU (wd X 3)] 27)).alloc (.cells #[vI vU 0,vI vU 0,vI vU 0,vI vU 0] 27)).alloc (.cells #[vI vU (wd X 0),vI vU (wd X 1),vI vU (wd X 2),vI vU (wd X 3)] 27)).alloc (.cells #[vI vU 1,vI vU 0,vI vU 0,vI vU 0] 27)).alloc (.cells #[vI vU (wd M 0),vI vU (wd M 1),vI vU (wd M 2),vI vU (wd M 3)] 27)).alloc (.cells #[vI vU 0,vI vU 0,vI vU 0,vI vU 0] 27)).rowIs (w.heap.size + 1 + 1) 27 4 (fun j => .int .u64 (wd X j)):=(((zae (n:=4) (by simp) rfl (arr4 fun j => .int .u64 (wd X j))).alloc _).alloc _).alloc _
 have hXr : ((((((w.alloc (.cells #[vI vU (wd X 0),vI vU (wd X 1),vI vU (wd X 2),vI vU (wd X 3)] 27)).alloc (.cells #[vI vU 0,vI vU 0,vI vU 0,vI vU 0] 27)).alloc (.cells #[vI vU (wd X 0),vI vU (wd X 1),vI vU (wd X 2),vI vU (wd X 3)] 27)).alloc (.cells #[vI vU 1,vI vU 0,vI vU 0,vI vU 0] 27)).alloc (.cells #[vI vU (wd M 0),vI vU (wd M 1),vI vU (wd M 2),vI vU (wd M 3)] 27)).alloc (.cells #[vI vU 0,vI vU 0,vI vU 0,vI vU 0] 27)).rowIs (w.heap.size + 1 + 1 + 1) 27 4 (fun j => .int .u64 (wd 1 j)):=((zae (n:=4) (f:=fun j => .int .u64 (wd 1 j)) (by simp) rfl (fun i hi => by match i,hi with | 0,_ => rfl | 1,_ => rfl | 2,_ => rfl | 3,_ => rfl)).alloc _).alloc _
 have hV : ((((((w.alloc (.cells #[vI vU (wd X 0),vI vU (wd X 1),vI vU (wd X 2),vI vU (wd X 3)] 27)).alloc (.cells #[vI vU 0,vI vU 0,vI vU 0,vI vU 0] 27)).alloc (.cells #[vI vU (wd X 0),vI vU (wd X 1),vI vU (wd X 2),vI vU (wd X 3)] 27)).alloc (.cells #[vI vU 1,vI vU 0,vI vU 0,vI vU 0] 27)).alloc (.cells #[vI vU (wd M 0),vI vU (wd M 1),vI vU (wd M 2),vI vU (wd M 3)] 27)).alloc (.cells #[vI vU 0,vI vU 0,vI vU 0,vI vU 0] 27)).rowIs (w.heap.size + 1 + 1 + 1 + 1) 27 4 (fun j => .int .u64 (wd M j)):=(zae (n:=4) (by simp) rfl (arr4 fun j => .int .u64 (wd M j))).alloc _
 have hY : ((((((w.alloc (.cells #[vI vU (wd X 0),vI vU (wd X 1),vI vU (wd X 2),vI vU (wd X 3)] 27)).alloc (.cells #[vI vU 0,vI vU 0,vI vU 0,vI vU 0] 27)).alloc (.cells #[vI vU (wd X 0),vI vU (wd X 1),vI vU (wd X 2),vI vU (wd X 3)] 27)).alloc (.cells #[vI vU 1,vI vU 0,vI vU 0,vI vU 0] 27)).alloc (.cells #[vI vU (wd M 0),vI vU (wd M 1),vI vU (wd M 2),vI vU (wd M 3)] 27)).alloc (.cells #[vI vU 0,vI vU 0,vI vU 0,vI vU 0] 27)).rowIs (w.heap.size + 1 + 1 + 1 + 1 + 1) 27 4 (fun j => .int .u64 (wd 0 j)):=zae (n:=4) (f:=fun j => .int .u64 (wd 0 j)) (by simp) rfl (fun i hi => by match i,hi with | 0,_ => rfl | 1,_ => rfl | 2,_ => rfl | 3,_ => rfl)
 have hbel : Below w.heap.size w ((((((w.alloc (.cells #[vI vU (wd X 0),vI vU (wd X 1),vI vU (wd X 2),vI vU (wd X 3)] 27)).alloc (.cells #[vI vU 0,vI vU 0,vI vU 0,vI vU 0] 27)).alloc (.cells #[vI vU (wd X 0),vI vU (wd X 1),vI vU (wd X 2),vI vU (wd X 3)] 27)).alloc (.cells #[vI vU 1,vI vU 0,vI vU 0,vI vU 0] 27)).alloc (.cells #[vI vU (wd M 0),vI vU (wd M 1),vI vU (wd M 2),vI vU (wd M 3)] 27)).alloc (.cells #[vI vU 0,vI vU 0,vI vU 0,vI vU 0] 27)):=((((((Below.refl _ _).alloc (by simp) _).alloc (by simp) _).alloc (by simp; omega) _).alloc (by simp; omega) _).alloc (by simp; omega) _).alloc (by simp; omega) _
 have hFr : Fb ((((((w.alloc (.cells #[vI vU (wd X 0),vI vU (wd X 1),vI vU (wd X 2),vI vU (wd X 3)] 27)).alloc (.cells #[vI vU 0,vI vU 0,vI vU 0,vI vU 0] 27)).alloc (.cells #[vI vU (wd X 0),vI vU (wd X 1),vI vU (wd X 2),vI vU (wd X 3)] 27)).alloc (.cells #[vI vU 1,vI vU 0,vI vU 0,vI vU 0] 27)).alloc (.cells #[vI vU (wd M 0),vI vU (wd M 1),vI vU (wd M 2),vI vU (wd M 3)] 27)).alloc (.cells #[vI vU 0,vI vU 0,vI vU 0,vI vU 0] 27)) b M N Q:=((((((hF).alloc _).alloc _).alloc _).alloc _).alloc _).alloc _
 have hbs:=hF.lt
 clear hF
 have hI : Fi w ((((((w.alloc (.cells #[vI vU (wd X 0),vI vU (wd X 1),vI vU (wd X 2),vI vU (wd X 3)] 27)).alloc (.cells #[vI vU 0,vI vU 0,vI vU 0,vI vU 0] 27)).alloc (.cells #[vI vU (wd X 0),vI vU (wd X 1),vI vU (wd X 2),vI vU (wd X 3)] 27)).alloc (.cells #[vI vU 1,vI vU 0,vI vU 0,vI vU 0] 27)).alloc (.cells #[vI vU (wd M 0),vI vU (wd M 1),vI vU (wd M 2),vI vU (wd M 3)] 27)).alloc (.cells #[vI vU 0,vI vU 0,vI vU 0,vI vU 0] 27)) b M N Q X M 1 0:=⟨hR,hU,hXr,hV,hY,hFr,hbel⟩
 obtain ⟨a0,a1,a2,a3⟩:=zac hA2
 obtain ⟨m0,m1,m2,m3⟩:=hF4.mod
 clear hA hR hU hXr hV hY hFr hbel hA2 hF4
 go_enter Tryz.func87,Tryz.ntmps87
 go_upto_region 3 with (fail)
 clear a0 a1 a2 a3 m0 m1 m2 m3
 generalize ((((((w.alloc (.cells #[vI vU (wd X 0),vI vU (wd X 1),vI vU (wd X 2),vI vU (wd X 3)] 27)).alloc (.cells #[vI vU 0,vI vU 0,vI vU 0,vI vU 0] 27)).alloc (.cells #[vI vU (wd X 0),vI vU (wd X 1),vI vU (wd X 2),vI vU (wd X 3)] 27)).alloc (.cells #[vI vU 1,vI vU 0,vI vU 0,vI vU 0] 27)).alloc (.cells #[vI vU (wd M 0),vI vU (wd M 1),vI vU (wd M 2),vI vU (wd M 3)] 27)).alloc (.cells #[vI vU 0,vI vU 0,vI vU 0,vI vU 0] 27)) = w0 at *
 have HI0:=veil hI0
 clear hI0
 go_loopg [] (X + M) (fun n wr => ∃ u v x y,Hid (n = u + v) ∧ Hid (FI X M u v x y) ∧ Fi w wr b M N Q u v x y)
 case atStart => exact ⟨X,M,1,0,veil rfl,HI0,hI⟩
 case round =>
  clear hI HI0
  obtain ⟨u,v,x,y,hn,hF,hI⟩:=hrel
  by_cases hu0 : u = 0
  ·
   have kz:=fun W => neq_zero hF.out.hu W
   rw [show decide (u = 0) = true by simpa using hu0] at kz
   have hg : Nat.gcd X M = v:=by rw [← hF.out.g,hu0,Nat.gcd_zero_left]
   have HG:=veil hg
   have kv:=fun W => neq_one hF.out.hv W
   clear hg
   obtain ⟨u0,u1,u2,u3⟩:=zac hI.ur
   obtain ⟨v0,v1,v2,v3⟩:=zac hI.vr
   obtain ⟨y0,y1,y2,y3⟩:=zac hI.yr
   obtain ⟨fr0,fr1,fr2,fr3⟩:=zaf hI.rr
   obtain ⟨d0,d1,d2,d3⟩:=zac hI.rr
   by_cases hv1 : v = 1
   ·
    rw [show decide (v = 1) = true by simpa using hv1] at kv
    have HV:=veil hv1
    clear hu0 hv1
    go_wp2
    refine bodyPost_ret (zbt rfl _ _ (w.heap.size + 1) 27 #[vI vU (wd y 0),vI vU (wd y 1),vI vU (wd y 2),vI vU (wd y 3)] (0,0) 4 25 rfl (blk4 (put4 hI.rr fun j => .int .u64 (wd y j))) Tryz.underlying27 (by kernel_rfl)) rfl ⟨⟨y,hF.out.hy,fun _ => by rw [hF.out.ey,HV.out,Nat.mod_eq_of_lt HM.out.2.1],?_⟩,zai hI.be (by omega) _ _ _ _⟩
    rw [zjw (HG.out.trans HV.out)]
    rfl
   ·
    rw [show decide (v = 1) = false by simpa using hv1] at kv
    have HV:=veil hv1
    clear hu0 hv1
    go_wp2
    refine bodyPost_ret (zbt rfl _ _ (w.heap.size + 1) 27 #[vI vU 0,vI vU 0,vI vU 0,vI vU 0] (0,0) 4 25 rfl (blk4 (put4 hI.rr fun _ => .int .u64 0)) Tryz.underlying27 (by kernel_rfl)) rfl ⟨⟨y,hF.out.hy,fun h => absurd (HG.out.symm.trans h) HV.out,?_⟩,zai hI.be (by omega) _ _ _ _⟩
    rw [invRet_no (fun h => HV.out (HG.out.symm.trans h))]
    rfl
  ·
   have kz:=fun W => neq_zero hF.out.hu W
   rw [show decide (u = 0) = false by simpa using hu0] at kz
   have HU:=veil hu0
   clear hu0
   obtain ⟨u0,u1,u2,u3⟩:=zac hI.ur
   by_cases hp : u % 2 = 0
   ·
    have K1:=veil (fun W => kbit0 u false (by rw [bit_par,hp]; rfl) W)
    have K2:=veil (fun W => khalf u (u / 2) rfl hF.out.hu W)
    have K3:=veil (fun W (h : Fb W b M N Q) => fhalf_calls b x M N Q _ hF.out.hx HM.out.1 HM.out.2.2 rfl W h)
    have HN:=veil (fi_even hF.out HM.out.2.2 hp)
    have HP:=veil (show u / 2 + v < u + v by have:=HU.out; omega)
    clear hp
    generalize u / 2 = D at *
    generalize hf x M = H at *
    go_wp2_with fail
    refine (K1.out _).mono ?_
    rintro e w1 ⟨rfl,hb1⟩
    replace hI:=hI.call hb1
    clear hb1 u0 u1 u2 u3 kz
    obtain ⟨u0,u1,u2,u3⟩:=zac hI.ur
    obtain ⟨x0,x1,x2,x3⟩:=zac hI.xr
    obtain ⟨fu0,fu1,fu2,fu3⟩:=zaf hI.ur
    obtain ⟨fx0,fx1,fx2,fx3⟩:=zaf hI.xr
    have z1:=hI.fr.lt
    go_wp2_with fail
    go_region_with (first
     | (go_at_call 121; refine (K2.out _).mono ?_; rintro e w2 ⟨rfl,hb2⟩; (first | with_reducible (replace hI:=hI.call hb2) | with_reducible (replace hI:=hI.drew.call hb2) | (replace hI:=hI.drew.drew.call hb2)); obtain ⟨u0,u1,u2,u3⟩:=zac hI.ur; obtain ⟨x0,x1,x2,x3⟩:=zac hI.xr; obtain ⟨fu0,fu1,fu2,fu3⟩:=zaf hI.ur; obtain ⟨fx0,fx1,fx2,fx3⟩:=zaf hI.xr; have z1:=hI.fr.lt)
     | (go_at_call 122; refine (K3.out _ (by first | exact hI.fr | exact hI.drew.fr)).mono ?_; rintro e w3 ⟨rfl,hb3⟩; (first | with_reducible (replace hI:=hI.call hb3) | with_reducible (replace hI:=hI.drew.call hb3) | (replace hI:=hI.drew.drew.call hb3)); obtain ⟨u0,u1,u2,u3⟩:=zac hI.ur; obtain ⟨x0,x1,x2,x3⟩:=zac hI.xr; obtain ⟨fu0,fu1,fu2,fu3⟩:=zaf hI.ur; obtain ⟨fx0,fx1,fx2,fx3⟩:=zaf hI.xr; have z1:=hI.fr.lt))
    all_goals
     replace hI:=(hI.putU hbs D).putX hbs H
     clear u0 u1 u2 u3 x0 x1 x2 x3 fu0 fu1 fu2 fu3 fx0 fx1 fx2 fx3 z1
     generalize ((((((((w3.setCell ⟨w.heap.size + 1 + 1,0,none⟩ (.int .u64 (wd D 0))).setCell ⟨w.heap.size + 1 + 1,1,none⟩ (.int .u64 (wd D 1))).setCell ⟨w.heap.size + 1 + 1,2,none⟩ (.int .u64 (wd D 2))).setCell ⟨w.heap.size + 1 + 1,3,none⟩ (.int .u64 (wd D 3))).setCell ⟨w.heap.size + 1 + 1 + 1,0,none⟩ (.int .u64 (wd H 0))).setCell ⟨w.heap.size + 1 + 1 + 1,1,none⟩ (.int .u64 (wd H 1))).setCell ⟨w.heap.size + 1 + 1 + 1,2,none⟩ (.int .u64 (wd H 2))).setCell ⟨w.heap.size + 1 + 1 + 1,3,none⟩ (.int .u64 (wd H 3))) = w5 at *
     go_wp2
     go_roundg (D + v)
     case measure => have:=HP.out; have:=hn.out; omega
     case rel => exact ⟨D,v,H,y,veil rfl,veil HN.out,hI⟩
   ·
    have K1:=veil (fun W => kbit0 u true (by rw [bit_par,show u % 2 = 1 by omega]; rfl) W)
    have HP:=veil (show u % 2 = 1 by omega)
    clear hp
    go_wp2_with fail
    refine (K1.out _).mono ?_
    rintro e w1 ⟨rfl,hb1⟩
    replace hI:=hI.call hb1
    clear hb1 u0 u1 u2 u3 kz
    obtain ⟨c,hc⟩ : ∃ c,c = cmpN u v:=⟨_,rfl⟩
    have K4:=veil (fun W => kcmp u v c hc.symm hF.out.hu hF.out.hv W)
    obtain ⟨u0,u1,u2,u3⟩:=zac hI.ur
    obtain ⟨v0,v1,v2,v3⟩:=zac hI.vr
    by_cases hlt : u < v
    ·
     have hcn : c = -1:=by rw [hc]; unfold cmpN; rw [if_pos hlt]
     subst hcn
     clear hc
     go_wp2_with fail
     refine (K4.out _).mono ?_
     rintro e w2 ⟨rfl,hb2⟩
     replace hI:=hI.call hb2
     clear hb2 u0 u1 u2 u3 v0 v1 v2 v3
     have HL:=veil hlt
     clear hlt
     obtain ⟨u0,u1,u2,u3⟩:=zac hI.ur
     obtain ⟨x0,x1,x2,x3⟩:=zac hI.xr
     obtain ⟨v0,v1,v2,v3⟩:=zac hI.vr
     obtain ⟨y0,y1,y2,y3⟩:=zac hI.yr
     obtain ⟨fu0,fu1,fu2,fu3⟩:=zaf hI.ur
     obtain ⟨fx0,fx1,fx2,fx3⟩:=zaf hI.xr
     obtain ⟨fv0,fv1,fv2,fv3⟩:=zaf hI.vr
     obtain ⟨fy0,fy1,fy2,fy3⟩:=zaf hI.yr
     go_wp2_with fail
     go_region
     replace hI:=(((hI.putU hbs v).putX hbs y).putV hbs u).putY hbs x
     clear u0 u1 u2 u3 x0 x1 x2 x3 v0 v1 v2 v3 y0 y1 y2 y3 fu0 fu1 fu2 fu3 fx0 fx1 fx2 fx3 fv0 fv1 fv2 fv3 fy0 fy1 fy2 fy3
     generalize ((((((((((((((((w2.setCell ⟨w.heap.size + 1 + 1,0,none⟩ (.int .u64 (wd v 0))).setCell ⟨w.heap.size + 1 + 1,1,none⟩ (.int .u64 (wd v 1))).setCell ⟨w.heap.size + 1 + 1,2,none⟩ (.int .u64 (wd v 2))).setCell ⟨w.heap.size + 1 + 1,3,none⟩ (.int .u64 (wd v 3))).setCell ⟨w.heap.size + 1 + 1 + 1,0,none⟩ (.int .u64 (wd y 0))).setCell ⟨w.heap.size + 1 + 1 + 1,1,none⟩ (.int .u64 (wd y 1))).setCell ⟨w.heap.size + 1 + 1 + 1,2,none⟩ (.int .u64 (wd y 2))).setCell ⟨w.heap.size + 1 + 1 + 1,3,none⟩ (.int .u64 (wd y 3))).setCell ⟨w.heap.size + 1 + 1 + 1 + 1,0,none⟩ (.int .u64 (wd u 0))).setCell ⟨w.heap.size + 1 + 1 + 1 + 1,1,none⟩ (.int .u64 (wd u 1))).setCell ⟨w.heap.size + 1 + 1 + 1 + 1,2,none⟩ (.int .u64 (wd u 2))).setCell ⟨w.heap.size + 1 + 1 + 1 + 1,3,none⟩ (.int .u64 (wd u 3))).setCell ⟨w.heap.size + 1 + 1 + 1 + 1 + 1,0,none⟩ (.int .u64 (wd x 0))).setCell ⟨w.heap.size + 1 + 1 + 1 + 1 + 1,1,none⟩ (.int .u64 (wd x 1))).setCell ⟨w.heap.size + 1 + 1 + 1 + 1 + 1,2,none⟩ (.int .u64 (wd x 2))).setCell ⟨w.heap.size + 1 + 1 + 1 + 1 + 1,3,none⟩ (.int .u64 (wd x 3))) = w3 at *
     replace hI:=hI.drew
     generalize w3.drew = w3 at *
     have HF:=veil (fi_more (fi_swap hF.out HP.out) (by have:=HL.out; omega))
     have hVU : u ≤ v:=by have:=HL.out; omega
     have hpos : v - u + u < u + v:=by have:=HP.out; omega
     have hUt : v < top:=by first | exact hF.out.hu | exact hF.out.hv
     have hVt : u < top:=by first | exact hF.out.hu | exact hF.out.hv
     have hXM : y < M:=by first | exact hF.out.hx | exact hF.out.hy
     have hYM : x < M:=by first | exact hF.out.hx | exact hF.out.hy
     have K5:=veil (fun W => ksub v u (v - u) _ (by rw [show v + top - u = (v - u) + top by omega,Nat.add_mod_right,Nat.mod_eq_of_lt (by omega)]) rfl hUt hVt W)
     have K6:=veil (fun W (h : Fb W b M N Q) => zjz b y x M N Q _ hXM hYM HM.out.1 rfl W h)
     have HP2:=veil hpos
     clear hVU hpos hUt hVt hXM hYM
     generalize v - u = D at *
     generalize (y + M - x) % M = H at *
     obtain ⟨u0,u1,u2,u3⟩:=zac hI.ur
     obtain ⟨v0,v1,v2,v3⟩:=zac hI.vr
     go_wp2_with fail
     refine (K5.out _).mono ?_
     rintro e w4 ⟨rfl,hb4⟩
     replace hI:=hI.call hb4
     clear hb4 u0 u1 u2 u3 v0 v1 v2 v3
     obtain ⟨u0,u1,u2,u3⟩:=zac hI.ur
     obtain ⟨fu0,fu1,fu2,fu3⟩:=zaf hI.ur
     go_upto_region 9 with (fail)
     replace hI:=hI.putU hbs D
     clear u0 u1 u2 u3 fu0 fu1 fu2 fu3
     generalize ((((w4.setCell ⟨w.heap.size + 1 + 1,0,none⟩ (.int .u64 (wd D 0))).setCell ⟨w.heap.size + 1 + 1,1,none⟩ (.int .u64 (wd D 1))).setCell ⟨w.heap.size + 1 + 1,2,none⟩ (.int .u64 (wd D 2))).setCell ⟨w.heap.size + 1 + 1,3,none⟩ (.int .u64 (wd D 3))) = w5 at *
     obtain ⟨x0,x1,x2,x3⟩:=zac hI.xr
     obtain ⟨y0,y1,y2,y3⟩:=zac hI.yr
     go_wp2_with fail
     refine (K6.out _ hI.fr).mono ?_
     rintro e w6 ⟨rfl,hb6⟩
     replace hI:=hI.call hb6
     clear hb6 x0 x1 x2 x3 y0 y1 y2 y3
     obtain ⟨x0,x1,x2,x3⟩:=zac hI.xr
     obtain ⟨fx0,fx1,fx2,fx3⟩:=zaf hI.xr
     go_wp2
     replace hI:=hI.putX hbs H
     go_roundg (D + u)
     case measure => have:=HP2.out; have:=hn.out; omega
     case rel => exact ⟨D,u,H,x,veil rfl,veil HF.out,hI⟩
    ·
     have hcn : 0 ≤ c:=by rw [hc,cmp_ge]; exact hlt
     clear hc
     go_wp2_with fail
     refine (K4.out _).mono ?_
     rintro e w2 ⟨rfl,hb2⟩
     replace hI:=hI.call hb2
     clear hb2 u0 u1 u2 u3 v0 v1 v2 v3
     have HL:=veil hlt
     clear hlt
     obtain ⟨w3,hw3⟩ : ∃ w3,w3 = w2:=⟨_,rfl⟩
     rw [← hw3] at hI ⊢
     clear hw3
     have HF:=veil (fi_more hF.out (by have:=HL.out; omega))
     have hVU : v ≤ u:=by have:=HL.out; omega
     have hpos : u - v + v < u + v:=by have:=hF.out.odd; omega
     have hUt : u < top:=by first | exact hF.out.hu | exact hF.out.hv
     have hVt : v < top:=by first | exact hF.out.hu | exact hF.out.hv
     have hXM : x < M:=by first | exact hF.out.hx | exact hF.out.hy
     have hYM : y < M:=by first | exact hF.out.hx | exact hF.out.hy
     have K5:=veil (fun W => ksub u v (u - v) _ (by rw [show u + top - v = (u - v) + top by omega,Nat.add_mod_right,Nat.mod_eq_of_lt (by omega)]) rfl hUt hVt W)
     have K6:=veil (fun W (h : Fb W b M N Q) => zjz b x y M N Q _ hXM hYM HM.out.1 rfl W h)
     have HP2:=veil hpos
     clear hVU hpos hUt hVt hXM hYM
     generalize u - v = D at *
     generalize (x + M - y) % M = H at *
     obtain ⟨u0,u1,u2,u3⟩:=zac hI.ur
     obtain ⟨v0,v1,v2,v3⟩:=zac hI.vr
     go_wp2_with fail
     refine (K5.out _).mono ?_
     rintro e w4 ⟨rfl,hb4⟩
     replace hI:=hI.call hb4
     clear hb4 u0 u1 u2 u3 v0 v1 v2 v3
     obtain ⟨u0,u1,u2,u3⟩:=zac hI.ur
     obtain ⟨fu0,fu1,fu2,fu3⟩:=zaf hI.ur
     go_upto_region 9 with (fail)
     replace hI:=hI.putU hbs D
     clear u0 u1 u2 u3 fu0 fu1 fu2 fu3
     generalize ((((w4.setCell ⟨w.heap.size + 1 + 1,0,none⟩ (.int .u64 (wd D 0))).setCell ⟨w.heap.size + 1 + 1,1,none⟩ (.int .u64 (wd D 1))).setCell ⟨w.heap.size + 1 + 1,2,none⟩ (.int .u64 (wd D 2))).setCell ⟨w.heap.size + 1 + 1,3,none⟩ (.int .u64 (wd D 3))) = w5 at *
     obtain ⟨x0,x1,x2,x3⟩:=zac hI.xr
     obtain ⟨y0,y1,y2,y3⟩:=zac hI.yr
     go_wp2_with fail
     refine (K6.out _ hI.fr).mono ?_
     rintro e w6 ⟨rfl,hb6⟩
     replace hI:=hI.call hb6
     clear hb6 x0 x1 x2 x3 y0 y1 y2 y3
     obtain ⟨x0,x1,x2,x3⟩:=zac hI.xr
     obtain ⟨fx0,fx1,fx2,fx3⟩:=zaf hI.xr
     go_wp2
     replace hI:=hI.putX hbs H
     go_roundg (D + v)
     case measure => have:=HP2.out; have:=hn.out; omega
     case rel => exact ⟨D,v,H,y,veil rfl,veil HF.out,hI⟩
end Go.Proofs.YthlbemnbmbmjhaaGreatDoor
