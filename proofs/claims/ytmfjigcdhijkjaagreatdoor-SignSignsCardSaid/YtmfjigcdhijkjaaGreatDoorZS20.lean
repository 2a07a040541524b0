/-
  Of C1 C2 C4 C3 C5 C6 C7 C8 CM.
-/
import Derived.Test.YtmfjigcdhijkjaaGreatDoorZS10
import Derived.Test.YtmfjigcdhijkjaaGreatDoorZS19
import Derived.Test.YtmfjigcdhijkjaaGreatDoorZS17
import Derived.Test.YtmfjigcdhijkjaaGreatDoorZS18
import Derived.Test.YtmfjigcdhijkjaaGreatDoorZS15
import Derived.Test.YtmfjigcdhijkjaaGreatDoorZS1
import Derived.Test.YtmfjigcdhijkjaaGreatDoorZS6
import Derived.Test.YtmfjigcdhijkjaaGreatDoorZS3
set_option maxRecDepth 1000000
set_option maxHeartbeats 20000000
namespace Go.Proofs.YtmfjigcdhijkjaaGreatDoor
open Go.RowKit
open Go.Value renaming int → vI
open Go.IntKind renaming u64 → vU
open Go.Act renaming put → aP
open List renaming setIfInBounds_toArray → lA, set_cons_zero → lZ, set_cons_succ → lS
def Fp (w : World) (b : Nat) : Prop:=∃ N Q,Fok Pt.pp N Q ∧ Fb w b Pt.pp N Q
theorem Fp.ext {w w' : World} {b : Nat} (h : Fp w b) (k : Ext w w') : Fp w' b:=by
 obtain ⟨N,Q,h1,h2⟩:=h
 exact ⟨N,Q,h1,h2.call k⟩
theorem Fp.lt {w : World} {b : Nat} (h : Fp w b) : b < w.heap.size:=by
 obtain ⟨N,Q,h1,h2⟩:=h
 exact h2.lt
abbrev Fe:=Fin Pt.pp
def sc (x y z : Nat) : Array Value:=#[vI vU (wd x 0),vI vU (wd x 1),vI vU (wd x 2),vI vU (wd x 3),vI vU (wd y 0),vI vU (wd y 1),vI vU (wd y 2),vI vU (wd y 3),vI vU (wd z 0),vI vU (wd z 1),vI vU (wd z 2),vI vU (wd z 3)]
def sv (x y z : Nat) : Value:=.agg (sc x y z)
def fv (k b : Nat) : Value:=.func (.func k) #[ptrTo b] #[]
def cc (b : Nat) : Array Value:=#[fv 83 b,fv 95 b,fv 35 b,fv 33 b]
def cv (b : Nat) : Value:=.agg (cc b)
theorem zfg (x y z : Nat) : (sc x y z).all (·.oneCell') = true:=by simp [sc,Value.oneCell']
theorem cc_one (b : Nat) : (cc b).all (·.oneCell') = true:=by simp [cc,fv,Value.oneCell']
theorem iS (x y z : Nat) : (Tryz.prog.info? 85).map (·.size) = some (sc x y z).size:=by kernel_rfl
theorem iK (b : Nat) : (Tryz.prog.info? 82).map (·.size) = some (cc b).size:=by kernel_rfl
theorem zee (x : Fe) : x.val < top:=Nat.lt_trans x.isLt zbq
theorem fe_mod (x : Fe) : x.val % Pt.pp = x.val:=Nat.mod_eq_of_lt x.isLt
theorem kadd_p {b : Nat} {x y t : Fe} (ht : t = x + y) {w : World} (hF : Fp w b) : Calls Tryz.prog 83 #[ptrTo b,nv x.val,nv y.val] w fun e w' => e = .returned (nv t.val) ∧ Ext w w':=by
 obtain ⟨N,Q,h1,h2⟩:=hF
 exact zhc b x.val y.val Pt.pp N Q t.val (zee x) (zee y) h1 (by rw [fe_mod,fe_mod,Pt.v_add,ht]) w h2
theorem zds {b : Nat} {x y t : Fe} (ht : t = x - y) {w : World} (hF : Fp w b) : Calls Tryz.prog 95 #[ptrTo b,nv x.val,nv y.val] w fun e w' => e = .returned (nv t.val) ∧ Ext w w':=by
 obtain ⟨N,Q,h1,h2⟩:=hF
 exact fsub2_calls b x.val y.val Pt.pp N Q t.val (zee x) (zee y) h1 (by rw [fe_mod,fe_mod,Pt.v_sub,ht]) w h2
theorem zbt {b : Nat} {x y t : Fe} (ht : t = x * y) {w : World} (hF : Fp w b) : Calls Tryz.prog 35 #[ptrTo b,nv x.val,nv y.val] w fun e w' => e = .returned (nv t.val) ∧ Ext w w':=by
 obtain ⟨N,Q,h1,h2⟩:=hF
 exact fmul2_calls b x.val y.val Pt.pp N Q t.val (zee x) (zee y) h1 (by rw [Pt.v_mul,ht]) w h2
theorem kinv_p {b : Nat} {x t : Fe} (hx : x ≠ 0) (ht : t = Pt.E256.inv x) {w : World} (hF : Fp w b) : Calls Tryz.prog 33 #[ptrTo b,nv x.val] w fun e w' => e = .returned (.tuple #[nv t.val,.nilIface]) ∧ Ext w w':=by
 obtain ⟨N,Q,h1,h2⟩:=hF
 refine (zib b x.val Pt.pp N Q (zee x) h1 w h2).mono ?_
 rintro e w' ⟨⟨y,hy,hi,rfl⟩,hb⟩
 have hg:=Pt.v_gcd hx
 rw [zhx hg,Pt.v_inv hy (hi hg),ht]
 exact ⟨rfl,hb⟩
theorem kinv_z {b : Nat} {w : World} (hF : Fp w b) : Calls Tryz.prog 33 #[ptrTo b,nv 0] w fun e w' => e = .returned (.tuple #[nv 0,.iface 39 (.int .i64 4)]) ∧ Ext w w':=by
 obtain ⟨N,Q,h1,h2⟩:=hF
 refine (zib b 0 Pt.pp N Q (Nat.two_pow_pos 256) h1 w h2).mono ?_
 rintro e w' ⟨⟨y,hy,hi,rfl⟩,hb⟩
 have hg : ¬ Nat.gcd 0 Pt.pp = 1:=by rw [Nat.gcd_zero_left]; decide +kernel
 rw [invRet_no hg]
 exact ⟨rfl,hb⟩
/-! ### operations -/
section
variable {P : Program} {o : Oper} {a : Act} {w : World}
end
theorem zav (W : World) : (isAgg 62).run Tryz.prog W = .ok false W:=by simp [isAgg,go_sem]
theorem isn_inv (W : World) : (isAgg 70).run Tryz.prog W = .ok false W:=by simp [isAgg,go_sem]
section
variable (g : Nat) (W : World)
theorem fldK0 : (Instr.fieldAt 82 (ptrTo g) 0).run Tryz.prog W = .ok (.pointer (some ⟨g,0,none⟩)) W:=by simp [Instr.fieldAt,go_sem]
theorem fldK1 : (Instr.fieldAt 82 (ptrTo g) 1).run Tryz.prog W = .ok (.pointer (some ⟨g,1,none⟩)) W:=by simp [Instr.fieldAt,go_sem]
theorem fldK2 : (Instr.fieldAt 82 (ptrTo g) 2).run Tryz.prog W = .ok (.pointer (some ⟨g,2,none⟩)) W:=by simp [Instr.fieldAt,go_sem]
theorem fldK3 : (Instr.fieldAt 82 (ptrTo g) 3).run Tryz.prog W = .ok (.pointer (some ⟨g,3,none⟩)) W:=by simp [Instr.fieldAt,go_sem]
theorem fldS0 : (Instr.fieldAt 85 (ptrTo g) 0).run Tryz.prog W = .ok (.pointer (some ⟨g,0,none⟩)) W:=by simp [Instr.fieldAt,go_sem]
theorem fldS1 : (Instr.fieldAt 85 (ptrTo g) 1).run Tryz.prog W = .ok (.pointer (some ⟨g,4,none⟩)) W:=by simp [Instr.fieldAt,go_sem]
theorem fldS2 : (Instr.fieldAt 85 (ptrTo g) 2).run Tryz.prog W = .ok (.pointer (some ⟨g,8,none⟩)) W:=by simp [Instr.fieldAt,go_sem]
theorem hzS : (Instr.alloc 85 true (.tuple #[])).run Tryz.prog W = .ok (ptrTo W.heap.size) (W.alloc (.cells #[vI vU 0,vI vU 0,vI vU 0,vI vU 0,vI vU 0,vI vU 0,vI vU 0,vI vU 0,vI vU 0,vI vU 0,vI vU 0,vI vU 0] 85)):=by simp [Instr.alloc,go_sem]
theorem hzK : (Instr.alloc 82 true (.tuple #[])).run Tryz.prog W = .ok (ptrTo W.heap.size) (W.alloc (.cells #[.nilFunc,.nilFunc,.nilFunc,.nilFunc] 82)):=by simp [Instr.alloc,go_sem]
theorem bldS (x y z : Nat) : (Instr.build 85 [(0,nv x),(1,nv y),(2,nv z)].toArray).run Tryz.prog W = .ok (sv x y z) W:=by simp [Instr.build,go_sem,nv,nc,sv,sc]
theorem bldK (b : Nat) : (Instr.build 82 [(0,fv 83 b),(1,fv 95 b),(2,fv 35 b),(3,fv 33 b)].toArray).run Tryz.prog W = .ok (cv b) W:=by simp [Instr.build,go_sem,fv,cv,cc]
theorem bldS0 : (Instr.build 85 [].toArray).run Tryz.prog W = .ok (sv 0 0 0) W:=by
 obtain ⟨h0,h1,h2,h3⟩:=wd_z
 unfold sv sc
 rw [h0,h1,h2,h3]
 simp [Instr.build,go_sem]
theorem bldGx : (Instr.build 24 [(0,.int .u64 17627433388654248598),(1,.int .u64 8575836109218198432),(2,.int .u64 17923454489921339634),(3,.int .u64 7716867327612699207)].toArray).run Tryz.prog W = .ok (nv Pt.gx) W:=by
 obtain ⟨h0,h1,h2,h3⟩:=gx_lits
 unfold nv nc
 rw [h0,h1,h2,h3]
 simp [Instr.build,go_sem]
theorem bldGy : (Instr.build 24 [(0,.int .u64 14678990851816772085),(1,.int .u64 3156516839386865358),(2,.int .u64 10297457778147434006),(3,.int .u64 5756518291402817435)].toArray).run Tryz.prog W = .ok (nv Pt.gy) W:=by
 obtain ⟨h0,h1,h2,h3⟩:=gy_lits
 unfold nv nc
 rw [h0,h1,h2,h3]
 simp [Instr.build,go_sem]
end
theorem he_kAdd (args : Array Value) (W : World) : (callFunc 83 args).run Tryz.prog W = .ok (.enter 83 args) W:=zac Tryz.func83 rfl rfl args W
theorem zde (args : Array Value) (W : World) : (callFunc 95 args).run Tryz.prog W = .ok (.enter 95 args) W:=zac Tryz.func95 rfl rfl args W
theorem zbj (args : Array Value) (W : World) : (callFunc 35 args).run Tryz.prog W = .ok (.enter 35 args) W:=zac Tryz.func35 rfl rfl args W
theorem he_kInv (args : Array Value) (W : World) : (callFunc 33 args).run Tryz.prog W = .ok (.enter 33 args) W:=zac Tryz.func33 rfl rfl args W
theorem zdn {b : Nat} {x t : Fe} (ht : t = x + x) {w : World} (hF : Fp w b) :
  Calls Tryz.prog 100 #[cv b,nv x.val] w fun e w' => e = .returned (nv t.val) ∧ Ext w w':=by
 have kt:=veil ht
 clear ht
 unfold cv nv cc fv nc
 go_enter Tryz.func100,Tryz.ntmps100
 go_upto_region 1 with (fail)
 obtain ⟨hx,b0,b1,b2⟩:=blocks3 w (.cells #[.func (.func 83) #[ptrTo b] #[],.func (.func 95) #[ptrTo b] #[],.func (.func 35) #[ptrTo b] #[],.func (.func 33) #[ptrTo b] #[]] 82) (.cells #[vI vU (wd (x.val) 0),vI vU (wd (x.val) 1),vI vU (wd (x.val) 2),vI vU (wd (x.val) 3)] 24) (.cells #[vI vU 0,vI vU 0,vI vU 0,vI vU 0] 24)
 generalize ((w.alloc (.cells #[.func (.func 83) #[ptrTo b] #[],.func (.func 95) #[ptrTo b] #[],.func (.func 35) #[ptrTo b] #[],.func (.func 33) #[ptrTo b] #[]] 82)).alloc (.cells #[vI vU (wd (x.val) 0),vI vU (wd (x.val) 1),vI vU (wd (x.val) 2),vI vU (wd (x.val) 3)] 24)).alloc (.cells #[vI vU 0,vI vU 0,vI vU 0,vI vU 0] 24) = w1 at *
 have b0 : w1.heap[w.heap.size]? = some (.cells (cc b) 82 (0,0)):=b0
 have b1 : w1.heap[w.heap.size + 1]? = some (.cells (nc x.val) 24 (0,0)):=b1
 have hf:=hF.ext hx
 clear hF
 refine' zan (m:=5) (A:=_) (by kernel_rfl) ?h1 ?h2
 case h1 =>
  refine zaa (ptrTo w.heap.size) rfl (zaf rfl rfl (fldK0 _ ·)) ?_
  refine zaa (fv 83 b) rfl (zaq rfl rfl b0 rfl (zav ·)) ?_;simp only [aP,lA,lZ,lS]
  refine zaa (nv x.val) rfl (zad rfl rfl b1 rfl uN rfl (iN _)) ?_
  refine zaa (nv x.val) rfl (zad rfl rfl b1 rfl uN rfl (iN _)) ?_;simp only [aP,lA,lZ,lS]
  refine zaa (nv t.val) rfl (zaz (args:=[nv x.val,nv x.val]) rfl rfl rfl (he_kAdd _ ·) (fun W hW => kadd_p kt.out (hf.ext hW))) ?_;simp only [aP,lA,lZ,lS]
  exact zak
 refine zbs _ rfl rfl rfl rfl rfl rfl b2 (iN _) rfl (zbe _) ?_
 intro w2 hB hb
 go_wp2
 exact bodyPost_ret (results_cell_row rfl _ _ (w.heap.size + 1 + 1) 24 (nc t.val) (0,0) _ rfl hb Tryz.underlying24 rfl (by kernel_rfl)) rfl ⟨rfl,hx.new hB (by omega)⟩
theorem trp_calls {b : Nat} {x t : Fe} (ht : t = x + x + x) {w : World} (hF : Fp w b) :
  Calls Tryz.prog 97 #[cv b,nv x.val] w fun e w' => e = .returned (nv t.val) ∧ Ext w w':=by
 obtain ⟨y,hy⟩ : ∃ t : Fe,t = x + x:=⟨_,rfl⟩
 rw [← hy] at ht
 have ky:=veil hy
 clear hy
 have kt:=veil ht
 clear ht
 unfold cv nv cc fv nc
 go_enter Tryz.func97,Tryz.ntmps97
 go_upto_region 1 with (fail)
 obtain ⟨hx,b0,b1,b2⟩:=blocks3 w (.cells #[.func (.func 83) #[ptrTo b] #[],.func (.func 95) #[ptrTo b] #[],.func (.func 35) #[ptrTo b] #[],.func (.func 33) #[ptrTo b] #[]] 82) (.cells #[vI vU (wd (x.val) 0),vI vU (wd (x.val) 1),vI vU (wd (x.val) 2),vI vU (wd (x.val) 3)] 24) (.cells #[vI vU 0,vI vU 0,vI vU 0,vI vU 0] 24)
 generalize ((w.alloc (.cells #[.func (.func 83) #[ptrTo b] #[],.func (.func 95) #[ptrTo b] #[],.func (.func 35) #[ptrTo b] #[],.func (.func 33) #[ptrTo b] #[]] 82)).alloc (.cells #[vI vU (wd (x.val) 0),vI vU (wd (x.val) 1),vI vU (wd (x.val) 2),vI vU (wd (x.val) 3)] 24)).alloc (.cells #[vI vU 0,vI vU 0,vI vU 0,vI vU 0] 24) = w1 at *
 have b0 : w1.heap[w.heap.size]? = some (.cells (cc b) 82 (0,0)):=b0
 have b1 : w1.heap[w.heap.size + 1]? = some (.cells (nc x.val) 24 (0,0)):=b1
 have hf:=hF.ext hx
 clear hF
 refine' zbw (m:=7) (A:=_) 7 (by kernel_rfl) (by kernel_rfl) (by kernel_rfl) ?h1 ?h2
 case h1 =>
  refine zaa (ptrTo w.heap.size) rfl (zaf rfl rfl (fldK0 _ ·)) ?_
  refine zaa (fv 83 b) rfl (zaq rfl rfl b0 rfl (zav ·)) ?_;simp only [aP,lA,lZ,lS]
  refine zaa (cv b) rfl (zad rfl rfl b0 rfl Tryz.underlying82 rfl (iK _)) ?_
  refine zaa (nv x.val) rfl (zad rfl rfl b1 rfl uN rfl (iN _)) ?_;simp only [aP,lA,lZ,lS]
  refine zaa (nv y.val) rfl (zai (args:=[cv b,nv x.val]) rfl rfl (fun W => zac Tryz.func100 rfl rfl _ W) (fun W hW => zdn ky.out (hf.ext hW))) ?_
  refine zaa (nv x.val) rfl (zad rfl rfl b1 rfl uN rfl (iN _)) ?_;simp only [aP,lA,lZ,lS]
  refine zaa (nv t.val) rfl (zaz (args:=[nv y.val,nv x.val]) rfl rfl rfl (he_kAdd _ ·) (fun W hW => kadd_p kt.out (hf.ext hW))) ?_;simp only [aP,lA,lZ,lS]
  exact zak
 refine zeg _ rfl rfl rfl rfl rfl (by kernel_rfl) (by kernel_rfl) rfl rfl rfl b2 (iN _) rfl (zbe _) ?_
 intro w2 hB hb
 refine NoPanic.normal ?_
 go_wp2
 exact bodyPost_ret (results_cell_row rfl _ _ (w.heap.size + 1 + 1) 24 (nc t.val) (0,0) _ rfl hb Tryz.underlying24 rfl (by kernel_rfl)) rfl ⟨rfl,hx.new hB (by omega)⟩
def twice3 (x y z : Fe) : Fe × Fe × Fe :=
 let zz : Fe:=z * z
 let yy : Fe:=y * y
 let s : Fe:=x - zz
 let u : Fe:=x + zz
 let su : Fe:=s * u
 let m : Fe:=su + su + su
 let q : Fe:=x * yy
 let q2 : Fe:=q + q
 let cr : Fe:=q2 + q2
 let mm : Fe:=m * m
 let c2 : Fe:=cr + cr
 let X : Fe:=mm - c2
 let e : Fe:=yy * yy
 let e2 : Fe:=e + e
 let e4 : Fe:=e2 + e2
 let tl : Fe:=e4 + e4
 let d : Fe:=cr - X
 let md : Fe:=m * d
 let Y : Fe:=md - tl
 let yz : Fe:=y * z
 let Z : Fe:=yz + yz
 (X,Y,Z)
theorem twice_calls {b : Nat} (x y z : Fe) {w : World} (hF : Fp w b) :
  Calls Tryz.prog 52 #[cv b,sv x.val y.val z.val] w fun e w' => e = .returned (sv (twice3 x y z).1.val (twice3 x y z).2.1.val (twice3 x y z).2.2.val) ∧ Ext w w':=by
 obtain ⟨zz,hzz⟩ : ∃ t : Fe,t = z * z:=⟨_,rfl⟩
 obtain ⟨yy,hyy⟩ : ∃ t : Fe,t = y * y:=⟨_,rfl⟩
 obtain ⟨s,hs⟩ : ∃ t : Fe,t = x - zz:=⟨_,rfl⟩
 obtain ⟨u,hu⟩ : ∃ t : Fe,t = x + zz:=⟨_,rfl⟩
 obtain ⟨su,hsu⟩ : ∃ t : Fe,t = s * u:=⟨_,rfl⟩
 obtain ⟨m,hm⟩ : ∃ t : Fe,t = su + su + su:=⟨_,rfl⟩
 obtain ⟨q,hq⟩ : ∃ t : Fe,t = x * yy:=⟨_,rfl⟩
 obtain ⟨q2,hq2⟩ : ∃ t : Fe,t = q + q:=⟨_,rfl⟩
 obtain ⟨cr,hcr⟩ : ∃ t : Fe,t = q2 + q2:=⟨_,rfl⟩
 obtain ⟨mm,hmm⟩ : ∃ t : Fe,t = m * m:=⟨_,rfl⟩
 obtain ⟨c2,hc2⟩ : ∃ t : Fe,t = cr + cr:=⟨_,rfl⟩
 obtain ⟨X,hX⟩ : ∃ t : Fe,t = mm - c2:=⟨_,rfl⟩
 obtain ⟨e,he⟩ : ∃ t : Fe,t = yy * yy:=⟨_,rfl⟩
 obtain ⟨e2,he2⟩ : ∃ t : Fe,t = e + e:=⟨_,rfl⟩
 obtain ⟨e4,he4⟩ : ∃ t : Fe,t = e2 + e2:=⟨_,rfl⟩
 obtain ⟨tl,htl⟩ : ∃ t : Fe,t = e4 + e4:=⟨_,rfl⟩
 obtain ⟨d,hd⟩ : ∃ t : Fe,t = cr - X:=⟨_,rfl⟩
 obtain ⟨md,hmd⟩ : ∃ t : Fe,t = m * d:=⟨_,rfl⟩
 obtain ⟨Y,hY⟩ : ∃ t : Fe,t = md - tl:=⟨_,rfl⟩
 obtain ⟨yz,hyz⟩ : ∃ t : Fe,t = y * z:=⟨_,rfl⟩
 obtain ⟨Z,hZ⟩ : ∃ t : Fe,t = yz + yz:=⟨_,rfl⟩
 have hfin : twice3 x y z = (X,Y,Z):=by
  subst hZ hyz hY hmd hd htl he4 he2 he hX hc2 hmm hcr hq2 hq hm hsu hu hs hyy hzz
  rfl
 rw [hfin]
 clear hfin
 have kzz:=veil hzz
 have kyy:=veil hyy
 have ks:=veil hs
 have ku:=veil hu
 have ksu:=veil hsu
 have km:=veil hm
 have kq:=veil hq
 have kq2:=veil hq2
 have kcr:=veil hcr
 have kmm:=veil hmm
 have kc2:=veil hc2
 have kX:=veil hX
 have ke:=veil he
 have ke2:=veil he2
 have ke4:=veil he4
 have ktl:=veil htl
 have kd:=veil hd
 have kmd:=veil hmd
 have kY:=veil hY
 have kyz:=veil hyz
 have kZ:=veil hZ
 clear hZ hyz hY hmd hd htl he4 he2 he hX hc2 hmm hcr hq2 hq hm hsu hu hs hyy hzz
 show Calls Tryz.prog 52 #[cv b,sv x.val y.val z.val] w fun e w' => e = .returned (sv X.val Y.val Z.val) ∧ Ext w w'
 unfold cv sv cc fv sc
 go_enter Tryz.func52,Tryz.ntmps52
 go_upto_region 1 with (fail)
 obtain ⟨hx,b0,b1,b2⟩:=blocks3 w (.cells #[.func (.func 83) #[ptrTo b] #[],.func (.func 95) #[ptrTo b] #[],.func (.func 35) #[ptrTo b] #[],.func (.func 33) #[ptrTo b] #[]] 82) (.cells #[vI vU (wd (x.val) 0),vI vU (wd (x.val) 1),vI vU (wd (x.val) 2),vI vU (wd (x.val) 3),vI vU (wd (y.val) 0),vI vU (wd (y.val) 1),vI vU (wd (y.val) 2),vI vU (wd (y.val) 3),vI vU (wd (z.val) 0),vI vU (wd (z.val) 1),vI vU (wd (z.val) 2),vI vU (wd (z.val) 3)] 85) (.cells #[vI vU 0,vI vU 0,vI vU 0,vI vU 0,vI vU 0,vI vU 0,vI vU 0,vI vU 0,vI vU 0,vI vU 0,vI vU 0,vI vU 0] 85)
 generalize ((w.alloc (.cells #[.func (.func 83) #[ptrTo b] #[],.func (.func 95) #[ptrTo b] #[],.func (.func 35) #[ptrTo b] #[],.func (.func 33) #[ptrTo b] #[]] 82)).alloc (.cells #[vI vU (wd (x.val) 0),vI vU (wd (x.val) 1),vI vU (wd (x.val) 2),vI vU (wd (x.val) 3),vI vU (wd (y.val) 0),vI vU (wd (y.val) 1),vI vU (wd (y.val) 2),vI vU (wd (y.val) 3),vI vU (wd (z.val) 0),vI vU (wd (z.val) 1),vI vU (wd (z.val) 2),vI vU (wd (z.val) 3)] 85)).alloc (.cells #[vI vU 0,vI vU 0,vI vU 0,vI vU 0,vI vU 0,vI vU 0,vI vU 0,vI vU 0,vI vU 0,vI vU 0,vI vU 0,vI vU 0] 85) = w1 at *
 have b0 : w1.heap[w.heap.size]? = some (.cells (cc b) 82 (0,0)):=b0
 have b1 : w1.heap[w.heap.size + 1]? = some (.cells (sc x.val y.val z.val) 85 (0,0)):=b1
 have hf:=hF.ext hx
 clear hF
 refine' zbw (m:=14) (A:=_) 16 (by kernel_rfl) (by kernel_rfl) (by kernel_rfl) ?h1 ?h2
 case h1 =>
  refine zaa (.pointer (some ⟨w.heap.size,2,none⟩)) rfl (zaf rfl rfl (fldK2 _ ·)) ?_
  refine zaa (fv 35 b) rfl (zaq rfl rfl b0 rfl (zav ·)) ?_;simp only [aP,lA,lZ,lS]
  refine zaa (.pointer (some ⟨w.heap.size + 1,8,none⟩)) rfl (zaf rfl rfl (fldS2 _ ·)) ?_
  refine zaa (nv z.val) rfl (zad rfl rfl b1 rfl uN rfl (iN _)) ?_;simp only [aP,lA,lZ,lS]
  refine zaa (.pointer (some ⟨w.heap.size + 1,8,none⟩)) rfl (zaf rfl rfl (fldS2 _ ·)) ?_
  refine zaa (nv z.val) rfl (zad rfl rfl b1 rfl uN rfl (iN _)) ?_;simp only [aP,lA,lZ,lS]
  refine zaa (nv zz.val) rfl (zaz (args:=[nv z.val,nv z.val]) rfl rfl rfl (zbj _ ·) (fun W hW => zbt kzz.out (hf.ext hW))) ?_
  refine zaa (.pointer (some ⟨w.heap.size,2,none⟩)) rfl (zaf rfl rfl (fldK2 _ ·)) ?_;simp only [aP,lA,lZ,lS]
  refine zaa (fv 35 b) rfl (zaq rfl rfl b0 rfl (zav ·)) ?_
  refine zaa (.pointer (some ⟨w.heap.size + 1,4,none⟩)) rfl (zaf rfl rfl (fldS1 _ ·)) ?_;simp only [aP,lA,lZ,lS]
  refine zaa (nv y.val) rfl (zad rfl rfl b1 rfl uN rfl (iN _)) ?_
  refine zaa (.pointer (some ⟨w.heap.size + 1,4,none⟩)) rfl (zaf rfl rfl (fldS1 _ ·)) ?_;simp only [aP,lA,lZ,lS]
  refine zaa (nv y.val) rfl (zad rfl rfl b1 rfl uN rfl (iN _)) ?_
  refine zaa (nv yy.val) rfl (zaz (args:=[nv y.val,nv y.val]) rfl rfl rfl (zbj _ ·) (fun W hW => zbt kyy.out (hf.ext hW))) ?_;simp only [aP,lA,lZ,lS]
  exact zak
 refine rest_two _ _ _ _ rfl rfl rfl rfl rfl rfl rfl rfl rfl rfl rfl rfl rfl rfl rfl rfl rfl (by decide) (by kernel_rfl) (by kernel_rfl) (by kernel_rfl) (by kernel_rfl) (by kernel_rfl) (by kernel_rfl) (by kernel_rfl) (by kernel_rfl) (by kernel_rfl) (hzN ·) (fun _ _ => rfl) (fun _ _ => rfl) (fun _ _ => rfl) (fun _ _ => rfl) (iN _) (iN _) rfl rfl (zbe _) (zbe _) ?_
 intro gzz gyy w2 hgzz hgyy bzz byy hE
 refine NoPanic.normal ?_
 replace b0:=hE.block b0
 replace b1:=hE.block b1
 replace b2:=hE.block b2
 replace hf:=hf.ext hE
 replace hx:=hx.trans hE
 clear hE
 simp only [aP,lA,lZ,lS]
 clear hgzz hgyy
 go_upto_region 2 with (fail)
 refine' zbw (m:=17) (A:=_) 18 (by kernel_rfl) (by kernel_rfl) (by kernel_rfl) ?h2a ?h2b
 case h2a =>
  refine zaa (cv b) rfl (zad rfl rfl b0 rfl Tryz.underlying82 rfl (iK _)) ?_
  refine zaa (.pointer (some ⟨w.heap.size,2,none⟩)) rfl (zaf rfl rfl (fldK2 _ ·)) ?_;simp only [aP,lA,lZ,lS]
  refine zaa (fv 35 b) rfl (zaq rfl rfl b0 rfl (zav ·)) ?_
  refine zaa (.pointer (some ⟨w.heap.size,1,none⟩)) rfl (zaf rfl rfl (fldK1 _ ·)) ?_;simp only [aP,lA,lZ,lS]
  refine zaa (fv 95 b) rfl (zaq rfl rfl b0 rfl (zav ·)) ?_
  refine zaa (ptrTo (w.heap.size + 1)) rfl (zaf rfl rfl (fldS0 _ ·)) ?_;simp only [aP,lA,lZ,lS]
  refine zaa (nv x.val) rfl (zad rfl rfl b1 rfl uN rfl (iN _)) ?_
  refine zaa (nv zz.val) rfl (zad rfl rfl bzz rfl uN rfl (iN _)) ?_;simp only [aP,lA,lZ,lS]
  refine zaa (nv s.val) rfl (zaz (args:=[nv x.val,nv zz.val]) rfl rfl rfl (zde _ ·) (fun W hW => zds ks.out (hf.ext hW))) ?_
  refine zaa (ptrTo w.heap.size) rfl (zaf rfl rfl (fldK0 _ ·)) ?_;simp only [aP,lA,lZ,lS]
  refine zaa (fv 83 b) rfl (zaq rfl rfl b0 rfl (zav ·)) ?_
  refine zaa (ptrTo (w.heap.size + 1)) rfl (zaf rfl rfl (fldS0 _ ·)) ?_;simp only [aP,lA,lZ,lS]
  refine zaa (nv x.val) rfl (zad rfl rfl b1 rfl uN rfl (iN _)) ?_
  refine zaa (nv zz.val) rfl (zad rfl rfl bzz rfl uN rfl (iN _)) ?_;simp only [aP,lA,lZ,lS]
  refine zaa (nv u.val) rfl (zaz (args:=[nv x.val,nv zz.val]) rfl rfl rfl (he_kAdd _ ·) (fun W hW => kadd_p ku.out (hf.ext hW))) ?_
  refine zaa (nv su.val) rfl (zaz (args:=[nv s.val,nv u.val]) rfl rfl rfl (zbj _ ·) (fun W hW => zbt ksu.out (hf.ext hW))) ?_;simp only [aP,lA,lZ,lS]
  refine zaa (nv m.val) rfl (zai (args:=[cv b,nv su.val]) rfl rfl (fun W => zac Tryz.func97 rfl rfl _ W) (fun W hW => trp_calls km.out (hf.ext hW))) ?_;simp only [aP,lA,lZ,lS]
  exact zak
 refine zcv _ _ rfl rfl rfl rfl rfl rfl rfl rfl rfl (by kernel_rfl) (by kernel_rfl) (by kernel_rfl) rfl rfl (hzN ·) (fun _ => rfl) (fun _ => rfl) (iN _) rfl (zbe _) ?_
 intro gm w3 hgm bm hE
 refine NoPanic.normal ?_
 replace b0:=hE.block b0
 replace b1:=hE.block b1
 replace b2:=hE.block b2
 replace byy:=hE.block byy
 replace hf:=hf.ext hE
 replace hx:=hx.trans hE
 clear hE
 simp only [aP,lA,lZ,lS]
 clear hgm
 go_upto_region 3 with (fail)
 refine' zan (m:=6) (A:=_) (by kernel_rfl) ?h3a ?h3b
 case h3a =>
  refine zaa (.pointer (some ⟨w.heap.size,2,none⟩)) rfl (zaf rfl rfl (fldK2 _ ·)) ?_
  refine zaa (fv 35 b) rfl (zaq rfl rfl b0 rfl (zav ·)) ?_;simp only [aP,lA,lZ,lS]
  refine zaa (ptrTo (w.heap.size + 1)) rfl (zaf rfl rfl (fldS0 _ ·)) ?_
  refine zaa (nv x.val) rfl (zad rfl rfl b1 rfl uN rfl (iN _)) ?_;simp only [aP,lA,lZ,lS]
  refine zaa (nv yy.val) rfl (zad rfl rfl byy rfl uN rfl (iN _)) ?_
  refine zaa (nv q.val) rfl (zaz (args:=[nv x.val,nv yy.val]) rfl rfl rfl (zbj _ ·) (fun W hW => zbt kq.out (hf.ext hW))) ?_;simp only [aP,lA,lZ,lS]
  exact zak
 refine zcm _ _ rfl rfl rfl rfl rfl rfl rfl (hzN ·) (fun _ => rfl) (fun _ => rfl) (iN _) rfl (zbe _) ?_
 intro gq w4 hgq bq hE
 replace b0:=hE.block b0
 replace b1:=hE.block b1
 replace b2:=hE.block b2
 replace byy:=hE.block byy
 replace bm:=hE.block bm
 replace hf:=hf.ext hE
 replace hx:=hx.trans hE
 clear hE
 simp only [aP,lA,lZ,lS]
 clear hgq
 go_upto_region 4 with (fail)
 refine' zbw (m:=5) (A:=_) 6 (by kernel_rfl) (by kernel_rfl) (by kernel_rfl) ?h4a ?h4b
 case h4a =>
  refine zaa (cv b) rfl (zad rfl rfl b0 rfl Tryz.underlying82 rfl (iK _)) ?_
  refine zaa (cv b) rfl (zad rfl rfl b0 rfl Tryz.underlying82 rfl (iK _)) ?_;simp only [aP,lA,lZ,lS]
  refine zaa (nv q.val) rfl (zad rfl rfl bq rfl uN rfl (iN _)) ?_
  refine zaa (nv q2.val) rfl (zai (args:=[cv b,nv q.val]) rfl rfl (fun W => zac Tryz.func100 rfl rfl _ W) (fun W hW => zdn kq2.out (hf.ext hW))) ?_;simp only [aP,lA,lZ,lS]
  refine zaa (nv cr.val) rfl (zai (args:=[cv b,nv q2.val]) rfl rfl (fun W => zac Tryz.func100 rfl rfl _ W) (fun W hW => zdn kcr.out (hf.ext hW))) ?_;simp only [aP,lA,lZ,lS]
  exact zak
 refine zcv _ _ rfl rfl rfl rfl rfl rfl rfl rfl rfl (by kernel_rfl) (by kernel_rfl) (by kernel_rfl) rfl rfl (hzN ·) (fun _ => rfl) (fun _ => rfl) (iN _) rfl (zbe _) ?_
 intro gcr w5 hgcr bcr hE
 refine NoPanic.normal ?_
 replace b0:=hE.block b0
 replace b1:=hE.block b1
 replace b2:=hE.block b2
 replace byy:=hE.block byy
 replace bm:=hE.block bm
 replace hf:=hf.ext hE
 replace hx:=hx.trans hE
 clear hE
 simp only [aP,lA,lZ,lS]
 clear hgcr
 go_upto_region 5 with (fail)
 refine' zbw (m:=11) (A:=_) 12 (by kernel_rfl) (by kernel_rfl) (by kernel_rfl) ?h5a ?h5b
 case h5a =>
  refine zaa (.pointer (some ⟨w.heap.size,1,none⟩)) rfl (zaf rfl rfl (fldK1 _ ·)) ?_
  refine zaa (fv 95 b) rfl (zaq rfl rfl b0 rfl (zav ·)) ?_;simp only [aP,lA,lZ,lS]
  refine zaa (.pointer (some ⟨w.heap.size,2,none⟩)) rfl (zaf rfl rfl (fldK2 _ ·)) ?_
  refine zaa (fv 35 b) rfl (zaq rfl rfl b0 rfl (zav ·)) ?_;simp only [aP,lA,lZ,lS]
  refine zaa (nv m.val) rfl (zad rfl rfl bm rfl uN rfl (iN _)) ?_
  refine zaa (nv m.val) rfl (zad rfl rfl bm rfl uN rfl (iN _)) ?_;simp only [aP,lA,lZ,lS]
  refine zaa (nv mm.val) rfl (zaz (args:=[nv m.val,nv m.val]) rfl rfl rfl (zbj _ ·) (fun W hW => zbt kmm.out (hf.ext hW))) ?_
  refine zaa (cv b) rfl (zad rfl rfl b0 rfl Tryz.underlying82 rfl (iK _)) ?_;simp only [aP,lA,lZ,lS]
  refine zaa (nv cr.val) rfl (zad rfl rfl bcr rfl uN rfl (iN _)) ?_
  refine zaa (nv c2.val) rfl (zai (args:=[cv b,nv cr.val]) rfl rfl (fun W => zac Tryz.func100 rfl rfl _ W) (fun W hW => zdn kc2.out (hf.ext hW))) ?_;simp only [aP,lA,lZ,lS]
  refine zaa (nv X.val) rfl (zaz (args:=[nv mm.val,nv c2.val]) rfl rfl rfl (zde _ ·) (fun W hW => zds kX.out (hf.ext hW))) ?_;simp only [aP,lA,lZ,lS]
  exact zak
 refine zcv _ _ rfl rfl rfl rfl rfl rfl rfl rfl rfl (by kernel_rfl) (by kernel_rfl) (by kernel_rfl) rfl rfl (hzN ·) (fun _ => rfl) (fun _ => rfl) (iN _) rfl (zbe _) ?_
 intro gX w6 hgX bX hE
 refine NoPanic.normal ?_
 replace b0:=hE.block b0
 replace b1:=hE.block b1
 replace b2:=hE.block b2
 replace byy:=hE.block byy
 replace bm:=hE.block bm
 replace bcr:=hE.block bcr
 replace hf:=hf.ext hE
 replace hx:=hx.trans hE
 clear hE
 simp only [aP,lA,lZ,lS]
 clear hgX
 go_upto_region 6 with (fail)
 refine' zan (m:=5) (A:=_) (by kernel_rfl) ?h6a ?h6b
 case h6a =>
  refine zaa (.pointer (some ⟨w.heap.size,2,none⟩)) rfl (zaf rfl rfl (fldK2 _ ·)) ?_
  refine zaa (fv 35 b) rfl (zaq rfl rfl b0 rfl (zav ·)) ?_;simp only [aP,lA,lZ,lS]
  refine zaa (nv yy.val) rfl (zad rfl rfl byy rfl uN rfl (iN _)) ?_
  refine zaa (nv yy.val) rfl (zad rfl rfl byy rfl uN rfl (iN _)) ?_;simp only [aP,lA,lZ,lS]
  refine zaa (nv e.val) rfl (zaz (args:=[nv yy.val,nv yy.val]) rfl rfl rfl (zbj _ ·) (fun W hW => zbt ke.out (hf.ext hW))) ?_;simp only [aP,lA,lZ,lS]
  exact zak
 refine zcm _ _ rfl rfl rfl rfl rfl rfl rfl (hzN ·) (fun _ => rfl) (fun _ => rfl) (iN _) rfl (zbe _) ?_
 intro ge w7 hge be hE
 replace b0:=hE.block b0
 replace b1:=hE.block b1
 replace b2:=hE.block b2
 replace bm:=hE.block bm
 replace bcr:=hE.block bcr
 replace bX:=hE.block bX
 replace hf:=hf.ext hE
 replace hx:=hx.trans hE
 clear hE
 simp only [aP,lA,lZ,lS]
 clear hge
 go_upto_region 7 with (fail)
 refine' zbw (m:=7) (A:=_) 8 (by kernel_rfl) (by kernel_rfl) (by kernel_rfl) ?h7a ?h7b
 case h7a =>
  refine zaa (cv b) rfl (zad rfl rfl b0 rfl Tryz.underlying82 rfl (iK _)) ?_
  refine zaa (cv b) rfl (zad rfl rfl b0 rfl Tryz.underlying82 rfl (iK _)) ?_;simp only [aP,lA,lZ,lS]
  refine zaa (cv b) rfl (zad rfl rfl b0 rfl Tryz.underlying82 rfl (iK _)) ?_
  refine zaa (nv e.val) rfl (zad rfl rfl be rfl uN rfl (iN _)) ?_;simp only [aP,lA,lZ,lS]
  refine zaa (nv e2.val) rfl (zai (args:=[cv b,nv e.val]) rfl rfl (fun W => zac Tryz.func100 rfl rfl _ W) (fun W hW => zdn ke2.out (hf.ext hW))) ?_
  refine zaa (nv e4.val) rfl (zai (args:=[cv b,nv e2.val]) rfl rfl (fun W => zac Tryz.func100 rfl rfl _ W) (fun W hW => zdn ke4.out (hf.ext hW))) ?_;simp only [aP,lA,lZ,lS]
  refine zaa (nv tl.val) rfl (zai (args:=[cv b,nv e4.val]) rfl rfl (fun W => zac Tryz.func100 rfl rfl _ W) (fun W hW => zdn ktl.out (hf.ext hW))) ?_;simp only [aP,lA,lZ,lS]
  exact zak
 refine zcv _ _ rfl rfl rfl rfl rfl rfl rfl rfl rfl (by kernel_rfl) (by kernel_rfl) (by kernel_rfl) rfl rfl (hzN ·) (fun _ => rfl) (fun _ => rfl) (iN _) rfl (zbe _) ?_
 intro gtl w8 hgtl btl hE
 refine NoPanic.normal ?_
 replace b0:=hE.block b0
 replace b1:=hE.block b1
 replace b2:=hE.block b2
 replace bm:=hE.block bm
 replace bcr:=hE.block bcr
 replace bX:=hE.block bX
 replace hf:=hf.ext hE
 replace hx:=hx.trans hE
 clear hE
 simp only [aP,lA,lZ,lS]
 clear hgtl
 go_upto_region 8 with (fail)
 refine' zbw (m:=24) (A:=_) 24 (by kernel_rfl) (by kernel_rfl) (by kernel_rfl) ?h8a ?h8b
 case h8a =>
  refine zaa (nv X.val) rfl (zad rfl rfl bX rfl uN rfl (iN _)) ?_
  refine zaa (.pointer (some ⟨w.heap.size,1,none⟩)) rfl (zaf rfl rfl (fldK1 _ ·)) ?_;simp only [aP,lA,lZ,lS]
  refine zaa (fv 95 b) rfl (zaq rfl rfl b0 rfl (zav ·)) ?_
  refine zaa (.pointer (some ⟨w.heap.size,2,none⟩)) rfl (zaf rfl rfl (fldK2 _ ·)) ?_;simp only [aP,lA,lZ,lS]
  refine zaa (fv 35 b) rfl (zaq rfl rfl b0 rfl (zav ·)) ?_
  refine zaa (nv m.val) rfl (zad rfl rfl bm rfl uN rfl (iN _)) ?_;simp only [aP,lA,lZ,lS]
  refine zaa (.pointer (some ⟨w.heap.size,1,none⟩)) rfl (zaf rfl rfl (fldK1 _ ·)) ?_
  refine zaa (fv 95 b) rfl (zaq rfl rfl b0 rfl (zav ·)) ?_;simp only [aP,lA,lZ,lS]
  refine zaa (nv cr.val) rfl (zad rfl rfl bcr rfl uN rfl (iN _)) ?_
  refine zaa (nv X.val) rfl (zad rfl rfl bX rfl uN rfl (iN _)) ?_;simp only [aP,lA,lZ,lS]
  refine zaa (nv d.val) rfl (zaz (args:=[nv cr.val,nv X.val]) rfl rfl rfl (zde _ ·) (fun W hW => zds kd.out (hf.ext hW))) ?_
  refine zaa (nv md.val) rfl (zaz (args:=[nv m.val,nv d.val]) rfl rfl rfl (zbj _ ·) (fun W hW => zbt kmd.out (hf.ext hW))) ?_;simp only [aP,lA,lZ,lS]
  refine zaa (nv tl.val) rfl (zad rfl rfl btl rfl uN rfl (iN _)) ?_
  refine zaa (nv Y.val) rfl (zaz (args:=[nv md.val,nv tl.val]) rfl rfl rfl (zde _ ·) (fun W hW => zds kY.out (hf.ext hW))) ?_;simp only [aP,lA,lZ,lS]
  refine zaa (cv b) rfl (zad rfl rfl b0 rfl Tryz.underlying82 rfl (iK _)) ?_
  refine zaa (.pointer (some ⟨w.heap.size,2,none⟩)) rfl (zaf rfl rfl (fldK2 _ ·)) ?_;simp only [aP,lA,lZ,lS]
  refine zaa (fv 35 b) rfl (zaq rfl rfl b0 rfl (zav ·)) ?_
  refine zaa (.pointer (some ⟨w.heap.size + 1,4,none⟩)) rfl (zaf rfl rfl (fldS1 _ ·)) ?_;simp only [aP,lA,lZ,lS]
  refine zaa (nv y.val) rfl (zad rfl rfl b1 rfl uN rfl (iN _)) ?_
  refine zaa (.pointer (some ⟨w.heap.size + 1,8,none⟩)) rfl (zaf rfl rfl (fldS2 _ ·)) ?_;simp only [aP,lA,lZ,lS]
  refine zaa (nv z.val) rfl (zad rfl rfl b1 rfl uN rfl (iN _)) ?_
  refine zaa (nv yz.val) rfl (zaz (args:=[nv y.val,nv z.val]) rfl rfl rfl (zbj _ ·) (fun W hW => zbt kyz.out (hf.ext hW))) ?_;simp only [aP,lA,lZ,lS]
  refine zaa (nv Z.val) rfl (zai (args:=[cv b,nv yz.val]) rfl rfl (fun W => zac Tryz.func100 rfl rfl _ W) (fun W hW => zdn kZ.out (hf.ext hW))) ?_
  refine zaa (sv X.val Y.val Z.val) rfl (zba (vs:=[(0,nv X.val),(1,nv Y.val),(2,nv Z.val)]) rfl rfl (fun W => bldS W _ _ _)) ?_;simp only [aP,lA,lZ,lS]
  exact zak
 refine zeg _ rfl rfl rfl rfl rfl (by kernel_rfl) (by kernel_rfl) rfl rfl rfl b2 (iS _ _ _) rfl (zfg _ _ _) ?_
 intro w9 hB hb
 refine NoPanic.normal ?_
 go_wp2
 exact bodyPost_ret (results_cell_row rfl _ _ (w.heap.size + 1 + 1) 85 (sc X.val Y.val Z.val) (0,0) _ rfl hb Tryz.underlying85 rfl (by kernel_rfl)) rfl ⟨rfl,hx.new hB (by omega)⟩
theorem pP_calls (w : World) : Calls Tryz.prog 94 #[] w fun e w' => e = .returned (.agg #[vI vU (wd (Pt.pp) 0),vI vU (wd (Pt.pp) 1),vI vU (wd (Pt.pp) 2),vI vU (wd (Pt.pp) 3)]) ∧ Below w.heap.size w w':=by
 obtain ⟨l0,l1,l2,l3⟩:=pp_lits
 rw [l0,l1,l2,l3]
 clear l0 l1 l2 l3
 go_enter Tryz.func94,Tryz.ntmps94
 go_wp2
 exact bodyPost_ret (results_cell_row rfl _ _ w.heap.size 24 #[vI vU 18446744073709551615,vI vU 4294967295,vI vU 0,vI vU 18446744069414584321] (0,0) _ rfl (heap_alloc_last w _) Tryz.underlying24 rfl (by kernel_rfl)) rfl ⟨rfl,(Below.refl _ _).alloc (Nat.le_refl _) _⟩
theorem bb_calls (w : World) : Calls Tryz.prog 98 #[] w fun e w' => e = .returned (.agg #[vI vU (wd (Pt.bb) 0),vI vU (wd (Pt.bb) 1),vI vU (wd (Pt.bb) 2),vI vU (wd (Pt.bb) 3)]) ∧ Below w.heap.size w w':=by
 obtain ⟨l0,l1,l2,l3⟩:=bb_lits
 rw [l0,l1,l2,l3]
 clear l0 l1 l2 l3
 go_enter Tryz.func98,Tryz.ntmps98
 go_wp2
 exact bodyPost_ret (results_cell_row rfl _ _ w.heap.size 24 #[vI vU 4309448131093880907,vI vU 7285987128567378166,vI vU 12964664127075681980,vI vU 6540974713487397863] (0,0) _ rfl (heap_alloc_last w _) Tryz.underlying24 rfl (by kernel_rfl)) rfl ⟨rfl,(Below.refl _ _).alloc (Nat.le_refl _) _⟩
theorem isz_calls (X : Nat) (hX : X < top) (w : World) :
  Calls Tryz.prog 96 #[nv X] w fun e w' => e = .returned (.bool (decide (X = 0))) ∧ Ext w w':=by
 unfold nv nc
 have kq:=fun W => eql_zero hX W
 obtain ⟨q,hq⟩ : ∃ q,q = decide (X = 0):=⟨_,rfl⟩
 rw [← hq] at kq ⊢
 have hA : (w.alloc (.cells #[vI vU (wd X 0),vI vU (wd X 1),vI vU (wd X 2),vI vU (wd X 3)] 24)).rowIs w.heap.size 24 4 (fun j => .int .u64 (wd X j)):=zag (n:=4) (by simp) rfl (arr4 fun j => .int .u64 (wd X j))
 obtain ⟨c0,c1,c2,c3⟩:=zae hA
 clear hq hX hA
 go_enter Tryz.func96,Tryz.ntmps96
 go_wp2
 go_ret
 exact ⟨rfl,(Below.refl _ _).alloc (Nat.le_refl _) _⟩
theorem isz_no {X : Nat} (h : X ≠ 0) (hX : X < top) (w : World) : Calls Tryz.prog 96 #[nv X] w fun e w' => e = .returned (.bool false) ∧ Ext w w':=by
 have k:=isz_calls X hX w
 rwa [decide_eq_false h] at k
theorem ziq {X : Nat} (h : X = 0) (w : World) : Calls Tryz.prog 96 #[nv X] w fun e w' => e = .returned (.bool true) ∧ Ext w w':=by
 have k:=isz_calls X (by rw [h]; exact Nat.two_pow_pos 256) w
 rwa [decide_eq_true h] at k
section
variable {P : Program} {o : Oper} {a : Act} {w : World}
end
theorem cmp_in {X : Nat} (h : X < Pt.pp) (w : World) : Calls Tryz.prog 46 #[nv X,nv Pt.pp] w fun e w' => e = .returned (.int .i64 (-1)) ∧ Ext w w' :=
 kcmp X Pt.pp (-1) (by unfold cmpN; rw [if_pos h]) (Nat.lt_trans h zbq) zbq w
theorem cmp_no {X : Nat} (hX : X < top) (w : World) : Calls Tryz.prog 46 #[nv X,nv Pt.pp] w fun e w' => e = .returned (.int .i64 (cmpN X Pt.pp)) ∧ Ext w w' :=
 kcmp X Pt.pp _ rfl hX zbq w
theorem cmp_no_ge {X : Nat} (h : ¬ X < Pt.pp) : decide (0 ≤ cmpN X Pt.pp) = true:=by
 have:=cmp_ge X Pt.pp
 simp only [this,h,not_false_eq_true,decide_true]
theorem pP_is (w : World) : Calls Tryz.prog 94 #[] w fun e w' => e = .returned (nv Pt.pp) ∧ Ext w w':=pP_calls w
theorem bb_is (w : World) : Calls Tryz.prog 98 #[] w fun e w' => e = .returned (nv (Pt.F Pt.bb : Fe).val) ∧ Ext w w':=by
 have h : (Pt.F Pt.bb : Fe).val = Pt.bb:=Nat.mod_eq_of_lt bb_lt
 rw [h]
 exact bb_calls w
theorem curve_calls (w : World) : Calls Tryz.prog 48 #[] w fun e w' => ∃ b,e = .returned (cv b) ∧ Fp w' b ∧ Ext w w':=by
 have hp : Pt.pp % 2 = 1:=by decide +kernel
 have hp2 : 2 < Pt.pp:=by decide +kernel
 have K1:=veil (fun W => new_good Pt.pp hp hp2 zbq W)
 have K0:=veil pP_calls
 clear hp hp2
 generalize hM : Pt.pp = M at K0 K1
 go_enter Tryz.func48,Tryz.ntmps48
 go_wp2_with fail
 refine (K0.out _).mono ?_
 rintro e w1 ⟨rfl,hb1⟩
 go_wp2_with fail
 refine (K1.out _).mono ?_
 rintro e w2 ⟨⟨b,N,Q,hK,hF,hle,rfl⟩,hb2⟩
 have hx : Ext w w2:=(Ext.alloc w _).trans (Ext.trans hb1 hb2)
 have hf : Fp w2 b:=⟨N,Q,hM ▸ hK,hM ▸ hF⟩
 have b0 : w2.heap[w.heap.size]? = some (.cells #[.nilFunc,.nilFunc,.nilFunc,.nilFunc] 82 (0,0)):=Ext.block (Ext.trans hb1 hb2) (zed (w:=w) rfl)
 have hne : w.heap.size < b:=by have h1:=hb1.size; simp at h1; omega
 clear hK hF hM K0 K1 hb1 hb2 hle
 go_upto_region 2 with (fail)
 refine' zan (m:=9) (A:=_) (by kernel_rfl) ?h1 ?h2
 case h1 =>
  refine zaa (ptrTo b) rfl (zah (.inl rfl) rfl) ?_
  refine zaa (fv 83 b) rfl (zhm rfl rfl) ?_;simp only [aP,lA,lZ,lS]
  refine zaa (ptrTo b) rfl (zah (.inl rfl) rfl) ?_
  refine zaa (fv 95 b) rfl (zhm rfl rfl) ?_;simp only [aP,lA,lZ,lS]
  refine zaa (ptrTo b) rfl (zah (.inl rfl) rfl) ?_
  refine zaa (fv 35 b) rfl (zhm rfl rfl) ?_;simp only [aP,lA,lZ,lS]
  refine zaa (ptrTo b) rfl (zah (.inl rfl) rfl) ?_
  refine zaa (fv 33 b) rfl (zhm rfl rfl) ?_;simp only [aP,lA,lZ,lS]
  refine zaa (cv b) rfl (zba (vs:=[(0,fv 83 b),(1,fv 95 b),(2,fv 35 b),(3,fv 33 b)]) rfl rfl (fun W => bldK W _)) ?_;simp only [aP,lA,lZ,lS]
  exact zak
 refine zbs _ rfl rfl rfl rfl rfl rfl b0 (iK _) rfl (cc_one _) ?_
 intro w3 hB hb
 go_wp2
 have hf' : Fp w3 b:=by
  obtain ⟨N,Q,h1,h2⟩:=hf
  exact ⟨N,Q,h1,h2.of_block (hB.block b h2.lt (by intro e; simp at e; omega))⟩
 exact bodyPost_ret (results_cell_row rfl _ _ w.heap.size 82 (cc b) (0,0) _ rfl hb Tryz.underlying82 rfl (by kernel_rfl)) rfl ⟨b,rfl,hf',hx.new hB (Nat.le_refl _)⟩
theorem lift_far (x y : Nat) (w : World) :
  Calls Tryz.prog 50 #[qv x y true] w fun e w' => e = .returned (sv 0 0 0) ∧ Ext w w':=by
 unfold qv qc
 go_enter Tryz.func50,Tryz.ntmps50
 go_upto_region 1 with (fail)
 obtain ⟨hx,b0,b1⟩:=blocks2 w (.cells #[vI vU (wd x 0),vI vU (wd x 1),vI vU (wd x 2),vI vU (wd x 3),vI vU (wd y 0),vI vU (wd y 1),vI vU (wd y 2),vI vU (wd y 3),.bool (true)] 29) (.cells #[vI vU 0,vI vU 0,vI vU 0,vI vU 0,vI vU 0,vI vU 0,vI vU 0,vI vU 0,vI vU 0,vI vU 0,vI vU 0,vI vU 0] 85)
 generalize (w.alloc (.cells #[vI vU (wd x 0),vI vU (wd x 1),vI vU (wd x 2),vI vU (wd x 3),vI vU (wd y 0),vI vU (wd y 1),vI vU (wd y 2),vI vU (wd y 3),.bool (true)] 29)).alloc (.cells #[vI vU 0,vI vU 0,vI vU 0,vI vU 0,vI vU 0,vI vU 0,vI vU 0,vI vU 0,vI vU 0,vI vU 0,vI vU 0,vI vU 0] 85) = w1 at *
 have b0 : w1.heap[w.heap.size]? = some (.cells (qc x y true) 29 (0,0)):=b0
 refine' zan (m:=2) (A:=_) (by kernel_rfl) ?h1 ?h2
 case h1 =>
  refine zaa (.pointer (some ⟨w.heap.size,8,none⟩)) rfl (zaf rfl rfl (fldT2 _ ·)) ?_
  refine zaa (.bool true) rfl (zaq rfl rfl b0 rfl (zdg ·)) ?_;simp only [aP,lA,lZ,lS]
  exact zak
 refine zar rfl ?_
 intro w2 hE
 replace b1:=hE.block b1
 replace hx:=hx.trans hE
 clear hE
 go_upto_region 2 with (fail)
 refine' zan (m:=1) (A:=_) (by kernel_rfl) ?h2a ?h2b
 case h2a =>
  refine zaa (sv 0 0 0) rfl (zba rfl rfl (bldS0 ·)) ?_;simp only [aP,lA,lZ,lS]
  exact zak
 refine zbs _ rfl rfl rfl rfl rfl rfl b1 (iS _ _ _) rfl (zfg _ _ _) ?_
 intro w3 hB hb
 go_wp2
 exact bodyPost_ret (results_cell_row rfl _ _ (w.heap.size + 1) 85 (sc 0 0 0) (0,0) _ rfl hb Tryz.underlying85 rfl (by kernel_rfl)) rfl ⟨rfl,hx.new hB (by omega)⟩
theorem lift_near (x y : Nat) (w : World) :
  Calls Tryz.prog 50 #[qv x y false] w fun e w' => e = .returned (sv x y 1) ∧ Ext w w':=by
 unfold qv qc
 go_enter Tryz.func50,Tryz.ntmps50
 go_upto_region 1 with (fail)
 obtain ⟨hx,b0,b1⟩:=blocks2 w (.cells #[vI vU (wd x 0),vI vU (wd x 1),vI vU (wd x 2),vI vU (wd x 3),vI vU (wd y 0),vI vU (wd y 1),vI vU (wd y 2),vI vU (wd y 3),.bool (false)] 29) (.cells #[vI vU 0,vI vU 0,vI vU 0,vI vU 0,vI vU 0,vI vU 0,vI vU 0,vI vU 0,vI vU 0,vI vU 0,vI vU 0,vI vU 0] 85)
 generalize (w.alloc (.cells #[vI vU (wd x 0),vI vU (wd x 1),vI vU (wd x 2),vI vU (wd x 3),vI vU (wd y 0),vI vU (wd y 1),vI vU (wd y 2),vI vU (wd y 3),.bool (false)] 29)).alloc (.cells #[vI vU 0,vI vU 0,vI vU 0,vI vU 0,vI vU 0,vI vU 0,vI vU 0,vI vU 0,vI vU 0,vI vU 0,vI vU 0,vI vU 0] 85) = w1 at *
 have b0 : w1.heap[w.heap.size]? = some (.cells (qc x y false) 29 (0,0)):=b0
 refine' zan (m:=2) (A:=_) (by kernel_rfl) ?h1 ?h2
 case h1 =>
  refine zaa (.pointer (some ⟨w.heap.size,8,none⟩)) rfl (zaf rfl rfl (fldT2 _ ·)) ?_
  refine zaa (.bool false) rfl (zaq rfl rfl b0 rfl (zdg ·)) ?_;simp only [aP,lA,lZ,lS]
  exact zak
 refine zar rfl ?_
 intro w2 hE
 replace b0:=hE.block b0
 replace b1:=hE.block b1
 replace hx:=hx.trans hE
 clear hE
 go_upto_region 3 with (fail)
 refine' zan (m:=6) (A:=_) (by kernel_rfl) ?h2a ?h2b
 case h2a =>
  refine zaa (ptrTo w.heap.size) rfl (zaf rfl rfl (fldT0 _ ·)) ?_
  refine zaa (nv x) rfl (zad rfl rfl b0 rfl uN rfl (iN _)) ?_;simp only [aP,lA,lZ,lS]
  refine zaa (.pointer (some ⟨w.heap.size,4,none⟩)) rfl (zaf rfl rfl (fldT1 _ ·)) ?_
  refine zaa (nv y) rfl (zad rfl rfl b0 rfl uN rfl (iN _)) ?_;simp only [aP,lA,lZ,lS]
  refine zaa (nv 1) rfl (zba (vs:=[(0,.int .u64 1)]) rfl rfl (bldN1 ·)) ?_
  refine zaa (sv x y 1) rfl (zba (vs:=[(0,nv x),(1,nv y),(2,nv 1)]) rfl rfl (fun W => bldS W _ _ _)) ?_;simp only [aP,lA,lZ,lS]
  exact zak
 refine zbs _ rfl rfl rfl rfl rfl rfl b1 (iS _ _ _) rfl (zfg _ _ _) ?_
 intro w3 hB hb
 go_wp2
 exact bodyPost_ret (results_cell_row rfl _ _ (w.heap.size + 1) 85 (sc x y 1) (0,0) _ rfl hb Tryz.underlying85 rfl (by kernel_rfl)) rfl ⟨rfl,hx.new hB (by omega)⟩
theorem base_calls (w : World) :
  Calls Tryz.prog 17 #[] w fun e w' => e = .returned (qv Pt.gx Pt.gy false) ∧ Ext w w':=by
 unfold qv qc
 go_enter Tryz.func17,Tryz.ntmps17
 go_upto_region 1 with (fail)
 obtain ⟨hx,b0⟩:=blocks1 w (.cells #[vI vU 0,vI vU 0,vI vU 0,vI vU 0,vI vU 0,vI vU 0,vI vU 0,vI vU 0,.bool false] 29)
 generalize w.alloc (.cells #[vI vU 0,vI vU 0,vI vU 0,vI vU 0,vI vU 0,vI vU 0,vI vU 0,vI vU 0,.bool false] 29) = w1 at *
 refine' zan (m:=3) (A:=_) (by kernel_rfl) ?h1 ?h2
 case h1 =>
  refine zaa (nv Pt.gx) rfl (zba (vs:=[(0,.int .u64 17627433388654248598),(1,.int .u64 8575836109218198432),(2,.int .u64 17923454489921339634),(3,.int .u64 7716867327612699207)]) rfl rfl (bldGx ·)) ?_
  refine zaa (nv Pt.gy) rfl (zba (vs:=[(0,.int .u64 14678990851816772085),(1,.int .u64 3156516839386865358),(2,.int .u64 10297457778147434006),(3,.int .u64 5756518291402817435)]) rfl rfl (bldGy ·)) ?_;simp only [aP,lA,lZ,lS]
  refine zaa (qv Pt.gx Pt.gy false) rfl (zba (vs:=[(0,nv Pt.gx),(1,nv Pt.gy)]) rfl rfl (fun W => bldT W _ _)) ?_;simp only [aP,lA,lZ,lS]
  exact zak
 refine zbs _ rfl rfl rfl rfl rfl rfl b0 (iT _ _ _) rfl (zev _ _ _) ?_
 intro w2 hB hb
 go_wp2
 exact bodyPost_ret (results_cell_row rfl _ _ (w.heap.size) 29 (qc Pt.gx Pt.gy false) (0,0) _ rfl hb Tryz.underlying29 rfl (by kernel_rfl)) rfl ⟨rfl,hx.new hB (by omega)⟩
theorem plus_far {b : Nat} (x y z X Y : Nat) {w : World} (hF : Fp w b) :
  Calls Tryz.prog 54 #[cv b,sv x y z,qv X Y true] w fun e w' => e = .returned (sv x y z) ∧ Ext w w':=by
 unfold cv sv qv cc fv sc qc
 go_enter Tryz.func54,Tryz.ntmps54
 go_upto_region 1 with (fail)
 obtain ⟨hx,b0,b1,b2,b3⟩:=blocks4 w (.cells #[.func (.func 83) #[ptrTo b] #[],.func (.func 95) #[ptrTo b] #[],.func (.func 35) #[ptrTo b] #[],.func (.func 33) #[ptrTo b] #[]] 82) (.cells #[vI vU (wd x 0),vI vU (wd x 1),vI vU (wd x 2),vI vU (wd x 3),vI vU (wd y 0),vI vU (wd y 1),vI vU (wd y 2),vI vU (wd y 3),vI vU (wd z 0),vI vU (wd z 1),vI vU (wd z 2),vI vU (wd z 3)] 85) (.cells #[vI vU (wd X 0),vI vU (wd X 1),vI vU (wd X 2),vI vU (wd X 3),vI vU (wd Y 0),vI vU (wd Y 1),vI vU (wd Y 2),vI vU (wd Y 3),.bool (true)] 29) (.cells #[vI vU 0,vI vU 0,vI vU 0,vI vU 0,vI vU 0,vI vU 0,vI vU 0,vI vU 0,vI vU 0,vI vU 0,vI vU 0,vI vU 0] 85)
 generalize (((w.alloc (.cells #[.func (.func 83) #[ptrTo b] #[],.func (.func 95) #[ptrTo b] #[],.func (.func 35) #[ptrTo b] #[],.func (.func 33) #[ptrTo b] #[]] 82)).alloc (.cells #[vI vU (wd x 0),vI vU (wd x 1),vI vU (wd x 2),vI vU (wd x 3),vI vU (wd y 0),vI vU (wd y 1),vI vU (wd y 2),vI vU (wd y 3),vI vU (wd z 0),vI vU (wd z 1),vI vU (wd z 2),vI vU (wd z 3)] 85)).alloc (.cells #[vI vU (wd X 0),vI vU (wd X 1),vI vU (wd X 2),vI vU (wd X 3),vI vU (wd Y 0),vI vU (wd Y 1),vI vU (wd Y 2),vI vU (wd Y 3),.bool (true)] 29)).alloc (.cells #[vI vU 0,vI vU 0,vI vU 0,vI vU 0,vI vU 0,vI vU 0,vI vU 0,vI vU 0,vI vU 0,vI vU 0,vI vU 0,vI vU 0] 85) = w1 at *
 have b0 : w1.heap[w.heap.size]? = some (.cells (cc b) 82 (0,0)):=b0
 have b1 : w1.heap[w.heap.size + 1]? = some (.cells (sc x y z) 85 (0,0)):=b1
 have b2 : w1.heap[w.heap.size + 1 + 1]? = some (.cells (qc X Y true) 29 (0,0)):=b2
 have hf:=hF.ext hx
 clear hF
 refine' zan (m:=2) (A:=_) (by kernel_rfl) ?h1 ?h2
 case h1 =>
  refine zaa (.pointer (some ⟨w.heap.size + 1 + 1,8,none⟩)) rfl (zaf rfl rfl (fldT2 _ ·)) ?_
  refine zaa (.bool true) rfl (zaq rfl rfl b2 rfl (zdg ·)) ?_;simp only [aP,lA,lZ,lS]
  exact zak
 refine zar rfl ?_
 intro w2 hE
 replace b1:=hE.block b1
 replace b3:=hE.block b3
 replace hf:=hf.ext hE
 replace hx:=hx.trans hE
 clear hE
 go_upto_region 2 with (fail)
 refine' zan (m:=1) (A:=_) (by kernel_rfl) ?h2a ?h2b
 case h2a =>
  refine zaa (sv x y z) rfl (zad rfl rfl b1 rfl Tryz.underlying85 rfl (iS _ _ _)) ?_;simp only [aP,lA,lZ,lS]
  exact zak
 refine zbs _ rfl rfl rfl rfl rfl rfl b3 (iS _ _ _) rfl (zfg _ _ _) ?_
 intro w3 hB hb
 go_wp2
 exact bodyPost_ret (results_cell_row rfl _ _ (w.heap.size + 1 + 1 + 1) 85 (sc x y z) (0,0) _ rfl hb Tryz.underlying85 rfl (by kernel_rfl)) rfl ⟨rfl,hx.new hB (by omega)⟩
theorem plus_lift {b : Nat} (x y X Y : Nat) {w : World} (hF : Fp w b) :
  Calls Tryz.prog 54 #[cv b,sv x y 0,qv X Y false] w fun e w' => e = .returned (sv X Y 1) ∧ Ext w w':=by
 unfold cv sv qv cc fv sc qc
 go_enter Tryz.func54,Tryz.ntmps54
 go_upto_region 1 with (fail)
 obtain ⟨hx,b0,b1,b2,b3⟩:=blocks4 w (.cells #[.func (.func 83) #[ptrTo b] #[],.func (.func 95) #[ptrTo b] #[],.func (.func 35) #[ptrTo b] #[],.func (.func 33) #[ptrTo b] #[]] 82) (.cells #[vI vU (wd x 0),vI vU (wd x 1),vI vU (wd x 2),vI vU (wd x 3),vI vU (wd y 0),vI vU (wd y 1),vI vU (wd y 2),vI vU (wd y 3),vI vU (wd 0 0),vI vU (wd 0 1),vI vU (wd 0 2),vI vU (wd 0 3)] 85) (.cells #[vI vU (wd X 0),vI vU (wd X 1),vI vU (wd X 2),vI vU (wd X 3),vI vU (wd Y 0),vI vU (wd Y 1),vI vU (wd Y 2),vI vU (wd Y 3),.bool (false)] 29) (.cells #[vI vU 0,vI vU 0,vI vU 0,vI vU 0,vI vU 0,vI vU 0,vI vU 0,vI vU 0,vI vU 0,vI vU 0,vI vU 0,vI vU 0] 85)
 generalize (((w.alloc (.cells #[.func (.func 83) #[ptrTo b] #[],.func (.func 95) #[ptrTo b] #[],.func (.func 35) #[ptrTo b] #[],.func (.func 33) #[ptrTo b] #[]] 82)).alloc (.cells #[vI vU (wd x 0),vI vU (wd x 1),vI vU (wd x 2),vI vU (wd x 3),vI vU (wd y 0),vI vU (wd y 1),vI vU (wd y 2),vI vU (wd y 3),vI vU (wd 0 0),vI vU (wd 0 1),vI vU (wd 0 2),vI vU (wd 0 3)] 85)).alloc (.cells #[vI vU (wd X 0),vI vU (wd X 1),vI vU (wd X 2),vI vU (wd X 3),vI vU (wd Y 0),vI vU (wd Y 1),vI vU (wd Y 2),vI vU (wd Y 3),.bool (false)] 29)).alloc (.cells #[vI vU 0,vI vU 0,vI vU 0,vI vU 0,vI vU 0,vI vU 0,vI vU 0,vI vU 0,vI vU 0,vI vU 0,vI vU 0,vI vU 0] 85) = w1 at *
 have b0 : w1.heap[w.heap.size]? = some (.cells (cc b) 82 (0,0)):=b0
 have b1 : w1.heap[w.heap.size + 1]? = some (.cells (sc x y 0) 85 (0,0)):=b1
 have b2 : w1.heap[w.heap.size + 1 + 1]? = some (.cells (qc X Y false) 29 (0,0)):=b2
 have hf:=hF.ext hx
 clear hF
 refine' zan (m:=2) (A:=_) (by kernel_rfl) ?h1 ?h2
 case h1 =>
  refine zaa (.pointer (some ⟨w.heap.size + 1 + 1,8,none⟩)) rfl (zaf rfl rfl (fldT2 _ ·)) ?_
  refine zaa (.bool false) rfl (zaq rfl rfl b2 rfl (zdg ·)) ?_;simp only [aP,lA,lZ,lS]
  exact zak
 refine zar rfl ?_
 intro w2 hE
 replace b1:=hE.block b1
 replace b2:=hE.block b2
 replace b3:=hE.block b3
 replace hf:=hf.ext hE
 replace hx:=hx.trans hE
 clear hE
 go_upto_region 3 with (fail)
 refine' zan (m:=3) (A:=_) (by kernel_rfl) ?h2a ?h2b
 case h2a =>
  refine zaa (.pointer (some ⟨w.heap.size + 1,8,none⟩)) rfl (zaf rfl rfl (fldS2 _ ·)) ?_
  refine zaa (nv 0) rfl (zad rfl rfl b1 rfl uN rfl (iN _)) ?_;simp only [aP,lA,lZ,lS]
  refine zaa (.bool true) rfl (zai (args:=[nv 0]) rfl rfl (fun W => zac Tryz.func96 rfl rfl _ W) (fun W hW => ziq rfl W)) ?_;simp only [aP,lA,lZ,lS]
  exact zak
 refine zar rfl ?_
 intro w3 hE
 replace b2:=hE.block b2
 replace b3:=hE.block b3
 replace hf:=hf.ext hE
 replace hx:=hx.trans hE
 clear hE
 go_upto_region 4 with (fail)
 refine' zan (m:=2) (A:=_) (by kernel_rfl) ?h3a ?h3b
 case h3a =>
  refine zaa (qv X Y false) rfl (zad rfl rfl b2 rfl Tryz.underlying29 rfl (iT _ _ _)) ?_
  refine zaa (sv X Y 1) rfl (zai (args:=[qv X Y false]) rfl rfl (fun W => zac Tryz.func50 rfl rfl _ W) (fun W hW => lift_near X Y W)) ?_;simp only [aP,lA,lZ,lS]
  exact zak
 refine zbs _ rfl rfl rfl rfl rfl rfl b3 (iS _ _ _) rfl (zfg _ _ _) ?_
 intro w4 hB hb
 go_wp2
 exact bodyPost_ret (results_cell_row rfl _ _ (w.heap.size + 1 + 1 + 1) 85 (sc X Y 1) (0,0) _ rfl hb Tryz.underlying85 rfl (by kernel_rfl)) rfl ⟨rfl,hx.new hB (by omega)⟩
def runOf (x z X : Fe) : Fe:=X * (z * z) - x
def riseOf (y z Y : Fe) : Fe:=Y * (z * z * z) - y
def plus3 (x y z X Y : Fe) : Fe × Fe × Fe :=
 let zz : Fe:=z * z
 let u : Fe:=X * zz
 let run : Fe:=u - x
 let zzz : Fe:=zz * z
 let v : Fe:=Y * zzz
 let rise : Fe:=v - y
 let sq : Fe:=run * run
 let cube : Fe:=sq * run
 let cross : Fe:=x * sq
 let rr : Fe:=rise * rise
 let r1 : Fe:=rr - cube
 let c2 : Fe:=cross + cross
 let x3 : Fe:=r1 - c2
 let d : Fe:=cross - x3
 let rd : Fe:=rise * d
 let yc : Fe:=y * cube
 let y3 : Fe:=rd - yc
 let z3 : Fe:=z * run
 (x3,y3,z3)
theorem plus_same {b : Nat} (x y z X Y : Fe) (hz : z.val ≠ 0) (hr : (runOf x z X).val = 0) (hs : (riseOf y z Y).val = 0) {w : World} (hF : Fp w b) :
  Calls Tryz.prog 54 #[cv b,sv x.val y.val z.val,qv X.val Y.val false] w fun e w' => e = .returned (sv (twice3 x y z).1.val (twice3 x y z).2.1.val (twice3 x y z).2.2.val) ∧ Ext w w':=by
 obtain ⟨zz,hzz⟩ : ∃ t : Fe,t = z * z:=⟨_,rfl⟩
 obtain ⟨u,hu⟩ : ∃ t : Fe,t = X * zz:=⟨_,rfl⟩
 obtain ⟨run,hrun⟩ : ∃ t : Fe,t = u - x:=⟨_,rfl⟩
 obtain ⟨zzz,hzzz⟩ : ∃ t : Fe,t = zz * z:=⟨_,rfl⟩
 obtain ⟨v,hv⟩ : ∃ t : Fe,t = Y * zzz:=⟨_,rfl⟩
 obtain ⟨rise,hrise⟩ : ∃ t : Fe,t = v - y:=⟨_,rfl⟩
 have h1 : runOf x z X = run:=by subst hrun hu hzz; rfl
 have h2 : riseOf y z Y = rise:=by subst hrise hv hzzz hzz; rfl
 rw [h1] at hr
 rw [h2] at hs
 clear h1 h2
 have kzz:=veil hzz
 have ku:=veil hu
 have krun:=veil hrun
 have kzzz:=veil hzzz
 have kv:=veil hv
 have krise:=veil hrise
 clear hrise hv hzzz hrun hu hzz
 have kz0:=veil hz
 have kr:=veil hr
 have ks:=veil hs
 clear hz hr hs
 obtain ⟨X3,Y3,Z3,h3⟩ : ∃ X3 Y3 Z3,twice3 x y z = (X3,Y3,Z3):=⟨_,_,_,rfl⟩
 have KT:=veil (fun W (hF : Fp W b) => twice_calls x y z hF)
 rw [h3] at KT ⊢
 clear h3
 show Calls Tryz.prog 54 #[cv b,sv x.val y.val z.val,qv X.val Y.val false] w fun e w' => e = .returned (sv X3.val Y3.val Z3.val) ∧ Ext w w'
 unfold cv sv qv cc fv sc qc
 go_enter Tryz.func54,Tryz.ntmps54
 go_upto_region 1 with (fail)
 obtain ⟨hx,b0,b1,b2,b3⟩:=blocks4 w (.cells #[.func (.func 83) #[ptrTo b] #[],.func (.func 95) #[ptrTo b] #[],.func (.func 35) #[ptrTo b] #[],.func (.func 33) #[ptrTo b] #[]] 82) (.cells #[vI vU (wd (x.val) 0),vI vU (wd (x.val) 1),vI vU (wd (x.val) 2),vI vU (wd (x.val) 3),vI vU (wd (y.val) 0),vI vU (wd (y.val) 1),vI vU (wd (y.val) 2),vI vU (wd (y.val) 3),vI vU (wd (z.val) 0),vI vU (wd (z.val) 1),vI vU (wd (z.val) 2),vI vU (wd (z.val) 3)] 85) (.cells #[vI vU (wd (X.val) 0),vI vU (wd (X.val) 1),vI vU (wd (X.val) 2),vI vU (wd (X.val) 3),vI vU (wd (Y.val) 0),vI vU (wd (Y.val) 1),vI vU (wd (Y.val) 2),vI vU (wd (Y.val) 3),.bool (false)] 29) (.cells #[vI vU 0,vI vU 0,vI vU 0,vI vU 0,vI vU 0,vI vU 0,vI vU 0,vI vU 0,vI vU 0,vI vU 0,vI vU 0,vI vU 0] 85)
 generalize (((w.alloc (.cells #[.func (.func 83) #[ptrTo b] #[],.func (.func 95) #[ptrTo b] #[],.func (.func 35) #[ptrTo b] #[],.func (.func 33) #[ptrTo b] #[]] 82)).alloc (.cells #[vI vU (wd (x.val) 0),vI vU (wd (x.val) 1),vI vU (wd (x.val) 2),vI vU (wd (x.val) 3),vI vU (wd (y.val) 0),vI vU (wd (y.val) 1),vI vU (wd (y.val) 2),vI vU (wd (y.val) 3),vI vU (wd (z.val) 0),vI vU (wd (z.val) 1),vI vU (wd (z.val) 2),vI vU (wd (z.val) 3)] 85)).alloc (.cells #[vI vU (wd (X.val) 0),vI vU (wd (X.val) 1),vI vU (wd (X.val) 2),vI vU (wd (X.val) 3),vI vU (wd (Y.val) 0),vI vU (wd (Y.val) 1),vI vU (wd (Y.val) 2),vI vU (wd (Y.val) 3),.bool (false)] 29)).alloc (.cells #[vI vU 0,vI vU 0,vI vU 0,vI vU 0,vI vU 0,vI vU 0,vI vU 0,vI vU 0,vI vU 0,vI vU 0,vI vU 0,vI vU 0] 85) = w1 at *
 have b0 : w1.heap[w.heap.size]? = some (.cells (cc b) 82 (0,0)):=b0
 have b1 : w1.heap[w.heap.size + 1]? = some (.cells (sc x.val y.val z.val) 85 (0,0)):=b1
 have b2 : w1.heap[w.heap.size + 1 + 1]? = some (.cells (qc X.val Y.val false) 29 (0,0)):=b2
 have hf:=hF.ext hx
 clear hF
 refine' zan (m:=2) (A:=_) (by kernel_rfl) ?h1 ?h2
 case h1 =>
  refine zaa (.pointer (some ⟨w.heap.size + 1 + 1,8,none⟩)) rfl (zaf rfl rfl (fldT2 _ ·)) ?_
  refine zaa (.bool false) rfl (zaq rfl rfl b2 rfl (zdg ·)) ?_;simp only [aP,lA,lZ,lS]
  exact zak
 refine zar rfl ?_
 intro w2 hE
 replace b0:=hE.block b0
 replace b1:=hE.block b1
 replace b2:=hE.block b2
 replace b3:=hE.block b3
 replace hf:=hf.ext hE
 replace hx:=hx.trans hE
 clear hE
 go_upto_region 3 with (fail)
 refine' zan (m:=3) (A:=_) (by kernel_rfl) ?h2a ?h2b
 case h2a =>
  refine zaa (.pointer (some ⟨w.heap.size + 1,8,none⟩)) rfl (zaf rfl rfl (fldS2 _ ·)) ?_
  refine zaa (nv z.val) rfl (zad rfl rfl b1 rfl uN rfl (iN _)) ?_;simp only [aP,lA,lZ,lS]
  refine zaa (.bool false) rfl (zai (args:=[nv z.val]) rfl rfl (fun W => zac Tryz.func96 rfl rfl _ W) (fun W hW => isz_no kz0.out (zee _) W)) ?_;simp only [aP,lA,lZ,lS]
  exact zak
 refine zar rfl ?_
 intro w3 hE
 replace b0:=hE.block b0
 replace b1:=hE.block b1
 replace b2:=hE.block b2
 replace b3:=hE.block b3
 replace hf:=hf.ext hE
 replace hx:=hx.trans hE
 clear hE
 go_upto_region 5 with (fail)
 refine' zan (m:=7) (A:=_) (by kernel_rfl) ?h3a ?h3b
 case h3a =>
  refine zaa (.pointer (some ⟨w.heap.size,2,none⟩)) rfl (zaf rfl rfl (fldK2 _ ·)) ?_
  refine zaa (fv 35 b) rfl (zaq rfl rfl b0 rfl (zav ·)) ?_;simp only [aP,lA,lZ,lS]
  refine zaa (.pointer (some ⟨w.heap.size + 1,8,none⟩)) rfl (zaf rfl rfl (fldS2 _ ·)) ?_
  refine zaa (nv z.val) rfl (zad rfl rfl b1 rfl uN rfl (iN _)) ?_;simp only [aP,lA,lZ,lS]
  refine zaa (.pointer (some ⟨w.heap.size + 1,8,none⟩)) rfl (zaf rfl rfl (fldS2 _ ·)) ?_
  refine zaa (nv z.val) rfl (zad rfl rfl b1 rfl uN rfl (iN _)) ?_;simp only [aP,lA,lZ,lS]
  refine zaa (nv zz.val) rfl (zaz (args:=[nv z.val,nv z.val]) rfl rfl rfl (zbj _ ·) (fun W hW => zbt kzz.out (hf.ext hW))) ?_;simp only [aP,lA,lZ,lS]
  exact zak
 refine zcm _ _ rfl rfl rfl rfl rfl rfl rfl (hzN ·) (fun _ => rfl) (fun _ => rfl) (iN _) rfl (zbe _) ?_
 intro gzz w4 hgzz bzz hE
 replace b0:=hE.block b0
 replace b1:=hE.block b1
 replace b2:=hE.block b2
 replace b3:=hE.block b3
 replace hf:=hf.ext hE
 replace hx:=hx.trans hE
 clear hE
 simp only [aP,lA,lZ,lS]
 clear hgzz
 go_upto_region 6 with (fail)
 refine' zbw (m:=11) (A:=_) 12 (by kernel_rfl) (by kernel_rfl) (by kernel_rfl) ?h4a ?h4b
 case h4a =>
  refine zaa (.pointer (some ⟨w.heap.size,1,none⟩)) rfl (zaf rfl rfl (fldK1 _ ·)) ?_
  refine zaa (fv 95 b) rfl (zaq rfl rfl b0 rfl (zav ·)) ?_;simp only [aP,lA,lZ,lS]
  refine zaa (.pointer (some ⟨w.heap.size,2,none⟩)) rfl (zaf rfl rfl (fldK2 _ ·)) ?_
  refine zaa (fv 35 b) rfl (zaq rfl rfl b0 rfl (zav ·)) ?_;simp only [aP,lA,lZ,lS]
  refine zaa (ptrTo (w.heap.size + 1 + 1)) rfl (zaf rfl rfl (fldT0 _ ·)) ?_
  refine zaa (nv X.val) rfl (zad rfl rfl b2 rfl uN rfl (iN _)) ?_;simp only [aP,lA,lZ,lS]
  refine zaa (nv zz.val) rfl (zad rfl rfl bzz rfl uN rfl (iN _)) ?_
  refine zaa (nv u.val) rfl (zaz (args:=[nv X.val,nv zz.val]) rfl rfl rfl (zbj _ ·) (fun W hW => zbt ku.out (hf.ext hW))) ?_;simp only [aP,lA,lZ,lS]
  refine zaa (ptrTo (w.heap.size + 1)) rfl (zaf rfl rfl (fldS0 _ ·)) ?_
  refine zaa (nv x.val) rfl (zad rfl rfl b1 rfl uN rfl (iN _)) ?_;simp only [aP,lA,lZ,lS]
  refine zaa (nv run.val) rfl (zaz (args:=[nv u.val,nv x.val]) rfl rfl rfl (zde _ ·) (fun W hW => zds krun.out (hf.ext hW))) ?_;simp only [aP,lA,lZ,lS]
  exact zak
 refine zcv _ _ rfl rfl rfl rfl rfl rfl rfl rfl rfl (by kernel_rfl) (by kernel_rfl) (by kernel_rfl) rfl rfl (hzN ·) (fun _ => rfl) (fun _ => rfl) (iN _) rfl (zbe _) ?_
 intro grun w5 hgrun brun hE
 refine NoPanic.normal ?_
 replace b0:=hE.block b0
 replace b1:=hE.block b1
 replace b2:=hE.block b2
 replace b3:=hE.block b3
 replace bzz:=hE.block bzz
 replace hf:=hf.ext hE
 replace hx:=hx.trans hE
 clear hE
 simp only [aP,lA,lZ,lS]
 clear hgrun
 go_upto_region 7 with (fail)
 refine' zbw (m:=16) (A:=_) 17 (by kernel_rfl) (by kernel_rfl) (by kernel_rfl) ?h5a ?h5b
 case h5a =>
  refine zaa (.pointer (some ⟨w.heap.size,1,none⟩)) rfl (zaf rfl rfl (fldK1 _ ·)) ?_
  refine zaa (fv 95 b) rfl (zaq rfl rfl b0 rfl (zav ·)) ?_;simp only [aP,lA,lZ,lS]
  refine zaa (.pointer (some ⟨w.heap.size,2,none⟩)) rfl (zaf rfl rfl (fldK2 _ ·)) ?_
  refine zaa (fv 35 b) rfl (zaq rfl rfl b0 rfl (zav ·)) ?_;simp only [aP,lA,lZ,lS]
  refine zaa (.pointer (some ⟨w.heap.size + 1 + 1,4,none⟩)) rfl (zaf rfl rfl (fldT1 _ ·)) ?_
  refine zaa (nv Y.val) rfl (zad rfl rfl b2 rfl uN rfl (iN _)) ?_;simp only [aP,lA,lZ,lS]
  refine zaa (.pointer (some ⟨w.heap.size,2,none⟩)) rfl (zaf rfl rfl (fldK2 _ ·)) ?_
  refine zaa (fv 35 b) rfl (zaq rfl rfl b0 rfl (zav ·)) ?_;simp only [aP,lA,lZ,lS]
  refine zaa (nv zz.val) rfl (zad rfl rfl bzz rfl uN rfl (iN _)) ?_
  refine zaa (.pointer (some ⟨w.heap.size + 1,8,none⟩)) rfl (zaf rfl rfl (fldS2 _ ·)) ?_;simp only [aP,lA,lZ,lS]
  refine zaa (nv z.val) rfl (zad rfl rfl b1 rfl uN rfl (iN _)) ?_
  refine zaa (nv zzz.val) rfl (zaz (args:=[nv zz.val,nv z.val]) rfl rfl rfl (zbj _ ·) (fun W hW => zbt kzzz.out (hf.ext hW))) ?_;simp only [aP,lA,lZ,lS]
  refine zaa (nv v.val) rfl (zaz (args:=[nv Y.val,nv zzz.val]) rfl rfl rfl (zbj _ ·) (fun W hW => zbt kv.out (hf.ext hW))) ?_
  refine zaa (.pointer (some ⟨w.heap.size + 1,4,none⟩)) rfl (zaf rfl rfl (fldS1 _ ·)) ?_;simp only [aP,lA,lZ,lS]
  refine zaa (nv y.val) rfl (zad rfl rfl b1 rfl uN rfl (iN _)) ?_
  refine zaa (nv rise.val) rfl (zaz (args:=[nv v.val,nv y.val]) rfl rfl rfl (zde _ ·) (fun W hW => zds krise.out (hf.ext hW))) ?_;simp only [aP,lA,lZ,lS]
  exact zak
 refine zcv _ _ rfl rfl rfl rfl rfl rfl rfl rfl rfl (by kernel_rfl) (by kernel_rfl) (by kernel_rfl) rfl rfl (hzN ·) (fun _ => rfl) (fun _ => rfl) (iN _) rfl (zbe _) ?_
 intro grise w6 hgrise brise hE
 refine NoPanic.normal ?_
 replace b0:=hE.block b0
 replace b1:=hE.block b1
 replace b3:=hE.block b3
 replace brun:=hE.block brun
 replace hf:=hf.ext hE
 replace hx:=hx.trans hE
 clear hE
 simp only [aP,lA,lZ,lS]
 clear hgrise
 go_upto_region 8 with (fail)
 refine' zan (m:=2) (A:=_) (by kernel_rfl) ?h6a ?h6b
 case h6a =>
  refine zaa (nv run.val) rfl (zad rfl rfl brun rfl uN rfl (iN _)) ?_
  refine zaa (.bool true) rfl (zai (args:=[nv run.val]) rfl rfl (fun W => zac Tryz.func96 rfl rfl _ W) (fun W hW => ziq kr.out W)) ?_;simp only [aP,lA,lZ,lS]
  exact zak
 refine zar rfl ?_
 intro w7 hE
 replace b0:=hE.block b0
 replace b1:=hE.block b1
 replace b3:=hE.block b3
 replace brise:=hE.block brise
 replace hf:=hf.ext hE
 replace hx:=hx.trans hE
 clear hE
 go_upto_region 9 with (fail)
 refine' zan (m:=2) (A:=_) (by kernel_rfl) ?h7a ?h7b
 case h7a =>
  refine zaa (nv rise.val) rfl (zad rfl rfl brise rfl uN rfl (iN _)) ?_
  refine zaa (.bool true) rfl (zai (args:=[nv rise.val]) rfl rfl (fun W => zac Tryz.func96 rfl rfl _ W) (fun W hW => ziq ks.out W)) ?_;simp only [aP,lA,lZ,lS]
  exact zak
 refine zar rfl ?_
 intro w8 hE
 replace b0:=hE.block b0
 replace b1:=hE.block b1
 replace b3:=hE.block b3
 replace hf:=hf.ext hE
 replace hx:=hx.trans hE
 clear hE
 go_upto_region 10 with (fail)
 refine' zan (m:=3) (A:=_) (by kernel_rfl) ?h8a ?h8b
 case h8a =>
  refine zaa (cv b) rfl (zad rfl rfl b0 rfl Tryz.underlying82 rfl (iK _)) ?_
  refine zaa (sv x.val y.val z.val) rfl (zad rfl rfl b1 rfl Tryz.underlying85 rfl (iS _ _ _)) ?_;simp only [aP,lA,lZ,lS]
  refine zaa (sv X3.val Y3.val Z3.val) rfl (zai (args:=[cv b,sv x.val y.val z.val]) rfl rfl (fun W => zac Tryz.func52 rfl rfl _ W) (fun W hW => KT.out W (hf.ext hW))) ?_;simp only [aP,lA,lZ,lS]
  exact zak
 refine zbs _ rfl rfl rfl rfl rfl rfl b3 (iS _ _ _) rfl (zfg _ _ _) ?_
 intro w9 hB hb
 go_wp2
 exact bodyPost_ret (results_cell_row rfl _ _ (w.heap.size + 1 + 1 + 1) 85 (sc X3.val Y3.val Z3.val) (0,0) _ rfl hb Tryz.underlying85 rfl (by kernel_rfl)) rfl ⟨rfl,hx.new hB (by omega)⟩
theorem plus_opp {b : Nat} (x y z X Y : Fe) (hz : z.val ≠ 0) (hr : (runOf x z X).val = 0) (hs : (riseOf y z Y).val ≠ 0) {w : World} (hF : Fp w b) :
  Calls Tryz.prog 54 #[cv b,sv x.val y.val z.val,qv X.val Y.val false] w fun e w' => e = .returned (sv 0 0 0) ∧ Ext w w':=by
 obtain ⟨zz,hzz⟩ : ∃ t : Fe,t = z * z:=⟨_,rfl⟩
 obtain ⟨u,hu⟩ : ∃ t : Fe,t = X * zz:=⟨_,rfl⟩
 obtain ⟨run,hrun⟩ : ∃ t : Fe,t = u - x:=⟨_,rfl⟩
 obtain ⟨zzz,hzzz⟩ : ∃ t : Fe,t = zz * z:=⟨_,rfl⟩
 obtain ⟨v,hv⟩ : ∃ t : Fe,t = Y * zzz:=⟨_,rfl⟩
 obtain ⟨rise,hrise⟩ : ∃ t : Fe,t = v - y:=⟨_,rfl⟩
 have h1 : runOf x z X = run:=by subst hrun hu hzz; rfl
 have h2 : riseOf y z Y = rise:=by subst hrise hv hzzz hzz; rfl
 rw [h1] at hr
 rw [h2] at hs
 clear h1 h2
 have kzz:=veil hzz
 have ku:=veil hu
 have krun:=veil hrun
 have kzzz:=veil hzzz
 have kv:=veil hv
 have krise:=veil hrise
 clear hrise hv hzzz hrun hu hzz
 have kz0:=veil hz
 have kr:=veil hr
 have ks:=veil hs
 clear hz hr hs
 unfold cv sv qv cc fv sc qc
 go_enter Tryz.func54,Tryz.ntmps54
 go_upto_region 1 with (fail)
 obtain ⟨hx,b0,b1,b2,b3⟩:=blocks4 w (.cells #[.func (.func 83) #[ptrTo b] #[],.func (.func 95) #[ptrTo b] #[],.func (.func 35) #[ptrTo b] #[],.func (.func 33) #[ptrTo b] #[]] 82) (.cells #[vI vU (wd (x.val) 0),vI vU (wd (x.val) 1),vI vU (wd (x.val) 2),vI vU (wd (x.val) 3),vI vU (wd (y.val) 0),vI vU (wd (y.val) 1),vI vU (wd (y.val) 2),vI vU (wd (y.val) 3),vI vU (wd (z.val) 0),vI vU (wd (z.val) 1),vI vU (wd (z.val) 2),vI vU (wd (z.val) 3)] 85) (.cells #[vI vU (wd (X.val) 0),vI vU (wd (X.val) 1),vI vU (wd (X.val) 2),vI vU (wd (X.val) 3),vI vU (wd (Y.val) 0),vI vU (wd (Y.val) 1),vI vU (wd (Y.val) 2),vI vU (wd (Y.val) 3),.bool (false)] 29) (.cells #[vI vU 0,vI vU 0,vI vU 0,vI vU 0,vI vU 0,vI vU 0,vI vU 0,vI vU 0,vI vU 0,vI vU 0,vI vU 0,vI vU 0] 85)
 generalize (((w.alloc (.cells #[.func (.func 83) #[ptrTo b] #[],.func (.func 95) #[ptrTo b] #[],.func (.func 35) #[ptrTo b] #[],.func (.func 33) #[ptrTo b] #[]] 82)).alloc (.cells #[vI vU (wd (x.val) 0),vI vU (wd (x.val) 1),vI vU (wd (x.val) 2),vI vU (wd (x.val) 3),vI vU (wd (y.val) 0),vI vU (wd (y.val) 1),vI vU (wd (y.val) 2),vI vU (wd (y.val) 3),vI vU (wd (z.val) 0),vI vU (wd (z.val) 1),vI vU (wd (z.val) 2),vI vU (wd (z.val) 3)] 85)).alloc (.cells #[vI vU (wd (X.val) 0),vI vU (wd (X.val) 1),vI vU (wd (X.val) 2),vI vU (wd (X.val) 3),vI vU (wd (Y.val) 0),vI vU (wd (Y.val) 1),vI vU (wd (Y.val) 2),vI vU (wd (Y.val) 3),.bool (false)] 29)).alloc (.cells #[vI vU 0,vI vU 0,vI vU 0,vI vU 0,vI vU 0,vI vU 0,vI vU 0,vI vU 0,vI vU 0,vI vU 0,vI vU 0,vI vU 0] 85) = w1 at *
 have b0 : w1.heap[w.heap.size]? = some (.cells (cc b) 82 (0,0)):=b0
 have b1 : w1.heap[w.heap.size + 1]? = some (.cells (sc x.val y.val z.val) 85 (0,0)):=b1
 have b2 : w1.heap[w.heap.size + 1 + 1]? = some (.cells (qc X.val Y.val false) 29 (0,0)):=b2
 have hf:=hF.ext hx
 clear hF
 refine' zan (m:=2) (A:=_) (by kernel_rfl) ?h1 ?h2
 case h1 =>
  refine zaa (.pointer (some ⟨w.heap.size + 1 + 1,8,none⟩)) rfl (zaf rfl rfl (fldT2 _ ·)) ?_
  refine zaa (.bool false) rfl (zaq rfl rfl b2 rfl (zdg ·)) ?_;simp only [aP,lA,lZ,lS]
  exact zak
 refine zar rfl ?_
 intro w2 hE
 replace b0:=hE.block b0
 replace b1:=hE.block b1
 replace b2:=hE.block b2
 replace b3:=hE.block b3
 replace hf:=hf.ext hE
 replace hx:=hx.trans hE
 clear hE
 go_upto_region 3 with (fail)
 refine' zan (m:=3) (A:=_) (by kernel_rfl) ?h2a ?h2b
 case h2a =>
  refine zaa (.pointer (some ⟨w.heap.size + 1,8,none⟩)) rfl (zaf rfl rfl (fldS2 _ ·)) ?_
  refine zaa (nv z.val) rfl (zad rfl rfl b1 rfl uN rfl (iN _)) ?_;simp only [aP,lA,lZ,lS]
  refine zaa (.bool false) rfl (zai (args:=[nv z.val]) rfl rfl (fun W => zac Tryz.func96 rfl rfl _ W) (fun W hW => isz_no kz0.out (zee _) W)) ?_;simp only [aP,lA,lZ,lS]
  exact zak
 refine zar rfl ?_
 intro w3 hE
 replace b0:=hE.block b0
 replace b1:=hE.block b1
 replace b2:=hE.block b2
 replace b3:=hE.block b3
 replace hf:=hf.ext hE
 replace hx:=hx.trans hE
 clear hE
 go_upto_region 5 with (fail)
 refine' zan (m:=7) (A:=_) (by kernel_rfl) ?h3a ?h3b
 case h3a =>
  refine zaa (.pointer (some ⟨w.heap.size,2,none⟩)) rfl (zaf rfl rfl (fldK2 _ ·)) ?_
  refine zaa (fv 35 b) rfl (zaq rfl rfl b0 rfl (zav ·)) ?_;simp only [aP,lA,lZ,lS]
  refine zaa (.pointer (some ⟨w.heap.size + 1,8,none⟩)) rfl (zaf rfl rfl (fldS2 _ ·)) ?_
  refine zaa (nv z.val) rfl (zad rfl rfl b1 rfl uN rfl (iN _)) ?_;simp only [aP,lA,lZ,lS]
  refine zaa (.pointer (some ⟨w.heap.size + 1,8,none⟩)) rfl (zaf rfl rfl (fldS2 _ ·)) ?_
  refine zaa (nv z.val) rfl (zad rfl rfl b1 rfl uN rfl (iN _)) ?_;simp only [aP,lA,lZ,lS]
  refine zaa (nv zz.val) rfl (zaz (args:=[nv z.val,nv z.val]) rfl rfl rfl (zbj _ ·) (fun W hW => zbt kzz.out (hf.ext hW))) ?_;simp only [aP,lA,lZ,lS]
  exact zak
 refine zcm _ _ rfl rfl rfl rfl rfl rfl rfl (hzN ·) (fun _ => rfl) (fun _ => rfl) (iN _) rfl (zbe _) ?_
 intro gzz w4 hgzz bzz hE
 replace b0:=hE.block b0
 replace b1:=hE.block b1
 replace b2:=hE.block b2
 replace b3:=hE.block b3
 replace hf:=hf.ext hE
 replace hx:=hx.trans hE
 clear hE
 simp only [aP,lA,lZ,lS]
 clear hgzz
 go_upto_region 6 with (fail)
 refine' zbw (m:=11) (A:=_) 12 (by kernel_rfl) (by kernel_rfl) (by kernel_rfl) ?h4a ?h4b
 case h4a =>
  refine zaa (.pointer (some ⟨w.heap.size,1,none⟩)) rfl (zaf rfl rfl (fldK1 _ ·)) ?_
  refine zaa (fv 95 b) rfl (zaq rfl rfl b0 rfl (zav ·)) ?_;simp only [aP,lA,lZ,lS]
  refine zaa (.pointer (some ⟨w.heap.size,2,none⟩)) rfl (zaf rfl rfl (fldK2 _ ·)) ?_
  refine zaa (fv 35 b) rfl (zaq rfl rfl b0 rfl (zav ·)) ?_;simp only [aP,lA,lZ,lS]
  refine zaa (ptrTo (w.heap.size + 1 + 1)) rfl (zaf rfl rfl (fldT0 _ ·)) ?_
  refine zaa (nv X.val) rfl (zad rfl rfl b2 rfl uN rfl (iN _)) ?_;simp only [aP,lA,lZ,lS]
  refine zaa (nv zz.val) rfl (zad rfl rfl bzz rfl uN rfl (iN _)) ?_
  refine zaa (nv u.val) rfl (zaz (args:=[nv X.val,nv zz.val]) rfl rfl rfl (zbj _ ·) (fun W hW => zbt ku.out (hf.ext hW))) ?_;simp only [aP,lA,lZ,lS]
  refine zaa (ptrTo (w.heap.size + 1)) rfl (zaf rfl rfl (fldS0 _ ·)) ?_
  refine zaa (nv x.val) rfl (zad rfl rfl b1 rfl uN rfl (iN _)) ?_;simp only [aP,lA,lZ,lS]
  refine zaa (nv run.val) rfl (zaz (args:=[nv u.val,nv x.val]) rfl rfl rfl (zde _ ·) (fun W hW => zds krun.out (hf.ext hW))) ?_;simp only [aP,lA,lZ,lS]
  exact zak
 refine zcv _ _ rfl rfl rfl rfl rfl rfl rfl rfl rfl (by kernel_rfl) (by kernel_rfl) (by kernel_rfl) rfl rfl (hzN ·) (fun _ => rfl) (fun _ => rfl) (iN _) rfl (zbe _) ?_
 intro grun w5 hgrun brun hE
 refine NoPanic.normal ?_
 replace b0:=hE.block b0
 replace b1:=hE.block b1
 replace b2:=hE.block b2
 replace b3:=hE.block b3
 replace bzz:=hE.block bzz
 replace hf:=hf.ext hE
 replace hx:=hx.trans hE
 clear hE
 simp only [aP,lA,lZ,lS]
 clear hgrun
 go_upto_region 7 with (fail)
 refine' zbw (m:=16) (A:=_) 17 (by kernel_rfl) (by kernel_rfl) (by kernel_rfl) ?h5a ?h5b
 case h5a =>
  refine zaa (.pointer (some ⟨w.heap.size,1,none⟩)) rfl (zaf rfl rfl (fldK1 _ ·)) ?_
  refine zaa (fv 95 b) rfl (zaq rfl rfl b0 rfl (zav ·)) ?_;simp only [aP,lA,lZ,lS]
  refine zaa (.pointer (some ⟨w.heap.size,2,none⟩)) rfl (zaf rfl rfl (fldK2 _ ·)) ?_
  refine zaa (fv 35 b) rfl (zaq rfl rfl b0 rfl (zav ·)) ?_;simp only [aP,lA,lZ,lS]
  refine zaa (.pointer (some ⟨w.heap.size + 1 + 1,4,none⟩)) rfl (zaf rfl rfl (fldT1 _ ·)) ?_
  refine zaa (nv Y.val) rfl (zad rfl rfl b2 rfl uN rfl (iN _)) ?_;simp only [aP,lA,lZ,lS]
  refine zaa (.pointer (some ⟨w.heap.size,2,none⟩)) rfl (zaf rfl rfl (fldK2 _ ·)) ?_
  refine zaa (fv 35 b) rfl (zaq rfl rfl b0 rfl (zav ·)) ?_;simp only [aP,lA,lZ,lS]
  refine zaa (nv zz.val) rfl (zad rfl rfl bzz rfl uN rfl (iN _)) ?_
  refine zaa (.pointer (some ⟨w.heap.size + 1,8,none⟩)) rfl (zaf rfl rfl (fldS2 _ ·)) ?_;simp only [aP,lA,lZ,lS]
  refine zaa (nv z.val) rfl (zad rfl rfl b1 rfl uN rfl (iN _)) ?_
  refine zaa (nv zzz.val) rfl (zaz (args:=[nv zz.val,nv z.val]) rfl rfl rfl (zbj _ ·) (fun W hW => zbt kzzz.out (hf.ext hW))) ?_;simp only [aP,lA,lZ,lS]
  refine zaa (nv v.val) rfl (zaz (args:=[nv Y.val,nv zzz.val]) rfl rfl rfl (zbj _ ·) (fun W hW => zbt kv.out (hf.ext hW))) ?_
  refine zaa (.pointer (some ⟨w.heap.size + 1,4,none⟩)) rfl (zaf rfl rfl (fldS1 _ ·)) ?_;simp only [aP,lA,lZ,lS]
  refine zaa (nv y.val) rfl (zad rfl rfl b1 rfl uN rfl (iN _)) ?_
  refine zaa (nv rise.val) rfl (zaz (args:=[nv v.val,nv y.val]) rfl rfl rfl (zde _ ·) (fun W hW => zds krise.out (hf.ext hW))) ?_;simp only [aP,lA,lZ,lS]
  exact zak
 refine zcv _ _ rfl rfl rfl rfl rfl rfl rfl rfl rfl (by kernel_rfl) (by kernel_rfl) (by kernel_rfl) rfl rfl (hzN ·) (fun _ => rfl) (fun _ => rfl) (iN _) rfl (zbe _) ?_
 intro grise w6 hgrise brise hE
 refine NoPanic.normal ?_
 replace b3:=hE.block b3
 replace brun:=hE.block brun
 replace hf:=hf.ext hE
 replace hx:=hx.trans hE
 clear hE
 simp only [aP,lA,lZ,lS]
 clear hgrise
 go_upto_region 8 with (fail)
 refine' zan (m:=2) (A:=_) (by kernel_rfl) ?h6a ?h6b
 case h6a =>
  refine zaa (nv run.val) rfl (zad rfl rfl brun rfl uN rfl (iN _)) ?_
  refine zaa (.bool true) rfl (zai (args:=[nv run.val]) rfl rfl (fun W => zac Tryz.func96 rfl rfl _ W) (fun W hW => ziq kr.out W)) ?_;simp only [aP,lA,lZ,lS]
  exact zak
 refine zar rfl ?_
 intro w7 hE
 replace b3:=hE.block b3
 replace brise:=hE.block brise
 replace hf:=hf.ext hE
 replace hx:=hx.trans hE
 clear hE
 go_upto_region 9 with (fail)
 refine' zan (m:=2) (A:=_) (by kernel_rfl) ?h7a ?h7b
 case h7a =>
  refine zaa (nv rise.val) rfl (zad rfl rfl brise rfl uN rfl (iN _)) ?_
  refine zaa (.bool false) rfl (zai (args:=[nv rise.val]) rfl rfl (fun W => zac Tryz.func96 rfl rfl _ W) (fun W hW => isz_no ks.out (zee _) W)) ?_;simp only [aP,lA,lZ,lS]
  exact zak
 refine zar rfl ?_
 intro w8 hE
 replace b3:=hE.block b3
 replace hf:=hf.ext hE
 replace hx:=hx.trans hE
 clear hE
 go_upto_region 11 with (fail)
 refine' zan (m:=1) (A:=_) (by kernel_rfl) ?h8a ?h8b
 case h8a =>
  refine zaa (sv 0 0 0) rfl (zba rfl rfl (bldS0 ·)) ?_;simp only [aP,lA,lZ,lS]
  exact zak
 refine zbs _ rfl rfl rfl rfl rfl rfl b3 (iS _ _ _) rfl (zfg _ _ _) ?_
 intro w9 hB hb
 go_wp2
 exact bodyPost_ret (results_cell_row rfl _ _ (w.heap.size + 1 + 1 + 1) 85 (sc 0 0 0) (0,0) _ rfl hb Tryz.underlying85 rfl (by kernel_rfl)) rfl ⟨rfl,hx.new hB (by omega)⟩
theorem plus_else {b : Nat} (x y z X Y : Fe) (hz : z.val ≠ 0) (hr : (runOf x z X).val ≠ 0) {w : World} (hF : Fp w b) :
  Calls Tryz.prog 54 #[cv b,sv x.val y.val z.val,qv X.val Y.val false] w fun e w' => e = .returned (sv (plus3 x y z X Y).1.val (plus3 x y z X Y).2.1.val (plus3 x y z X Y).2.2.val) ∧ Ext w w':=by
 obtain ⟨zz,hzz⟩ : ∃ t : Fe,t = z * z:=⟨_,rfl⟩
 obtain ⟨u,hu⟩ : ∃ t : Fe,t = X * zz:=⟨_,rfl⟩
 obtain ⟨run,hrun⟩ : ∃ t : Fe,t = u - x:=⟨_,rfl⟩
 obtain ⟨zzz,hzzz⟩ : ∃ t : Fe,t = zz * z:=⟨_,rfl⟩
 obtain ⟨v,hv⟩ : ∃ t : Fe,t = Y * zzz:=⟨_,rfl⟩
 obtain ⟨rise,hrise⟩ : ∃ t : Fe,t = v - y:=⟨_,rfl⟩
 obtain ⟨sq,hsq⟩ : ∃ t : Fe,t = run * run:=⟨_,rfl⟩
 obtain ⟨cube,hcube⟩ : ∃ t : Fe,t = sq * run:=⟨_,rfl⟩
 obtain ⟨cross,hcross⟩ : ∃ t : Fe,t = x * sq:=⟨_,rfl⟩
 obtain ⟨rr,hrr⟩ : ∃ t : Fe,t = rise * rise:=⟨_,rfl⟩
 obtain ⟨r1,hr1⟩ : ∃ t : Fe,t = rr - cube:=⟨_,rfl⟩
 obtain ⟨c2,hc2⟩ : ∃ t : Fe,t = cross + cross:=⟨_,rfl⟩
 obtain ⟨x3,hx3⟩ : ∃ t : Fe,t = r1 - c2:=⟨_,rfl⟩
 obtain ⟨d,hd⟩ : ∃ t : Fe,t = cross - x3:=⟨_,rfl⟩
 obtain ⟨rd,hrd⟩ : ∃ t : Fe,t = rise * d:=⟨_,rfl⟩
 obtain ⟨yc,hyc⟩ : ∃ t : Fe,t = y * cube:=⟨_,rfl⟩
 obtain ⟨y3,hy3⟩ : ∃ t : Fe,t = rd - yc:=⟨_,rfl⟩
 obtain ⟨z3,hz3⟩ : ∃ t : Fe,t = z * run:=⟨_,rfl⟩
 have h1 : runOf x z X = run:=by subst hrun hu hzz; rfl
 rw [h1] at hr
 clear h1
 have hfin : plus3 x y z X Y = (x3,y3,z3):=by
  subst hz3 hy3 hyc hrd hd hx3 hc2 hr1 hrr hcross hcube hsq hrise hv hzzz hrun hu hzz
  rfl
 rw [hfin]
 clear hfin
 have kzz:=veil hzz
 have ku:=veil hu
 have krun:=veil hrun
 have kzzz:=veil hzzz
 have kv:=veil hv
 have krise:=veil hrise
 have ksq:=veil hsq
 have kcube:=veil hcube
 have kcross:=veil hcross
 have krr:=veil hrr
 have kr1:=veil hr1
 have kc2:=veil hc2
 have kx3:=veil hx3
 have kd:=veil hd
 have krd:=veil hrd
 have kyc:=veil hyc
 have ky3:=veil hy3
 have kz3:=veil hz3
 clear hz3 hy3 hyc hrd hd hx3 hc2 hr1 hrr hcross hcube hsq hrise hv hzzz hrun hu hzz
 have kz0:=veil hz
 have kr:=veil hr
 clear hz hr
 show Calls Tryz.prog 54 #[cv b,sv x.val y.val z.val,qv X.val Y.val false] w fun e w' => e = .returned (sv x3.val y3.val z3.val) ∧ Ext w w'
 unfold cv sv qv cc fv sc qc
 go_enter Tryz.func54,Tryz.ntmps54
 go_upto_region 1 with (fail)
 obtain ⟨hx,b0,b1,b2,b3⟩:=blocks4 w (.cells #[.func (.func 83) #[ptrTo b] #[],.func (.func 95) #[ptrTo b] #[],.func (.func 35) #[ptrTo b] #[],.func (.func 33) #[ptrTo b] #[]] 82) (.cells #[vI vU (wd (x.val) 0),vI vU (wd (x.val) 1),vI vU (wd (x.val) 2),vI vU (wd (x.val) 3),vI vU (wd (y.val) 0),vI vU (wd (y.val) 1),vI vU (wd (y.val) 2),vI vU (wd (y.val) 3),vI vU (wd (z.val) 0),vI vU (wd (z.val) 1),vI vU (wd (z.val) 2),vI vU (wd (z.val) 3)] 85) (.cells #[vI vU (wd (X.val) 0),vI vU (wd (X.val) 1),vI vU (wd (X.val) 2),vI vU (wd (X.val) 3),vI vU (wd (Y.val) 0),vI vU (wd (Y.val) 1),vI vU (wd (Y.val) 2),vI vU (wd (Y.val) 3),.bool (false)] 29) (.cells #[vI vU 0,vI vU 0,vI vU 0,vI vU 0,vI vU 0,vI vU 0,vI vU 0,vI vU 0,vI vU 0,vI vU 0,vI vU 0,vI vU 0] 85)
 generalize (((w.alloc (.cells #[.func (.func 83) #[ptrTo b] #[],.func (.func 95) #[ptrTo b] #[],.func (.func 35) #[ptrTo b] #[],.func (.func 33) #[ptrTo b] #[]] 82)).alloc (.cells #[vI vU (wd (x.val) 0),vI vU (wd (x.val) 1),vI vU (wd (x.val) 2),vI vU (wd (x.val) 3),vI vU (wd (y.val) 0),vI vU (wd (y.val) 1),vI vU (wd (y.val) 2),vI vU (wd (y.val) 3),vI vU (wd (z.val) 0),vI vU (wd (z.val) 1),vI vU (wd (z.val) 2),vI vU (wd (z.val) 3)] 85)).alloc (.cells #[vI vU (wd (X.val) 0),vI vU (wd (X.val) 1),vI vU (wd (X.val) 2),vI vU (wd (X.val) 3),vI vU (wd (Y.val) 0),vI vU (wd (Y.val) 1),vI vU (wd (Y.val) 2),vI vU (wd (Y.val) 3),.bool (false)] 29)).alloc (.cells #[vI vU 0,vI vU 0,vI vU 0,vI vU 0,vI vU 0,vI vU 0,vI vU 0,vI vU 0,vI vU 0,vI vU 0,vI vU 0,vI vU 0] 85) = w1 at *
 have b0 : w1.heap[w.heap.size]? = some (.cells (cc b) 82 (0,0)):=b0
 have b1 : w1.heap[w.heap.size + 1]? = some (.cells (sc x.val y.val z.val) 85 (0,0)):=b1
 have b2 : w1.heap[w.heap.size + 1 + 1]? = some (.cells (qc X.val Y.val false) 29 (0,0)):=b2
 have hf:=hF.ext hx
 clear hF
 refine' zan (m:=2) (A:=_) (by kernel_rfl) ?h1 ?h2
 case h1 =>
  refine zaa (.pointer (some ⟨w.heap.size + 1 + 1,8,none⟩)) rfl (zaf rfl rfl (fldT2 _ ·)) ?_
  refine zaa (.bool false) rfl (zaq rfl rfl b2 rfl (zdg ·)) ?_;simp only [aP,lA,lZ,lS]
  exact zak
 refine zar rfl ?_
 intro w2 hE
 replace b0:=hE.block b0
 replace b1:=hE.block b1
 replace b2:=hE.block b2
 replace b3:=hE.block b3
 replace hf:=hf.ext hE
 replace hx:=hx.trans hE
 clear hE
 go_upto_region 3 with (fail)
 refine' zan (m:=3) (A:=_) (by kernel_rfl) ?h2a ?h2b
 case h2a =>
  refine zaa (.pointer (some ⟨w.heap.size + 1,8,none⟩)) rfl (zaf rfl rfl (fldS2 _ ·)) ?_
  refine zaa (nv z.val) rfl (zad rfl rfl b1 rfl uN rfl (iN _)) ?_;simp only [aP,lA,lZ,lS]
  refine zaa (.bool false) rfl (zai (args:=[nv z.val]) rfl rfl (fun W => zac Tryz.func96 rfl rfl _ W) (fun W hW => isz_no kz0.out (zee _) W)) ?_;simp only [aP,lA,lZ,lS]
  exact zak
 refine zar rfl ?_
 intro w3 hE
 replace b0:=hE.block b0
 replace b1:=hE.block b1
 replace b2:=hE.block b2
 replace b3:=hE.block b3
 replace hf:=hf.ext hE
 replace hx:=hx.trans hE
 clear hE
 go_upto_region 5 with (fail)
 refine' zan (m:=7) (A:=_) (by kernel_rfl) ?h3a ?h3b
 case h3a =>
  refine zaa (.pointer (some ⟨w.heap.size,2,none⟩)) rfl (zaf rfl rfl (fldK2 _ ·)) ?_
  refine zaa (fv 35 b) rfl (zaq rfl rfl b0 rfl (zav ·)) ?_;simp only [aP,lA,lZ,lS]
  refine zaa (.pointer (some ⟨w.heap.size + 1,8,none⟩)) rfl (zaf rfl rfl (fldS2 _ ·)) ?_
  refine zaa (nv z.val) rfl (zad rfl rfl b1 rfl uN rfl (iN _)) ?_;simp only [aP,lA,lZ,lS]
  refine zaa (.pointer (some ⟨w.heap.size + 1,8,none⟩)) rfl (zaf rfl rfl (fldS2 _ ·)) ?_
  refine zaa (nv z.val) rfl (zad rfl rfl b1 rfl uN rfl (iN _)) ?_;simp only [aP,lA,lZ,lS]
  refine zaa (nv zz.val) rfl (zaz (args:=[nv z.val,nv z.val]) rfl rfl rfl (zbj _ ·) (fun W hW => zbt kzz.out (hf.ext hW))) ?_;simp only [aP,lA,lZ,lS]
  exact zak
 refine zcm _ _ rfl rfl rfl rfl rfl rfl rfl (hzN ·) (fun _ => rfl) (fun _ => rfl) (iN _) rfl (zbe _) ?_
 intro gzz w4 hgzz bzz hE
 replace b0:=hE.block b0
 replace b1:=hE.block b1
 replace b2:=hE.block b2
 replace b3:=hE.block b3
 replace hf:=hf.ext hE
 replace hx:=hx.trans hE
 clear hE
 simp only [aP,lA,lZ,lS]
 clear hgzz
 go_upto_region 6 with (fail)
 refine' zbw (m:=11) (A:=_) 12 (by kernel_rfl) (by kernel_rfl) (by kernel_rfl) ?h4a ?h4b
 case h4a =>
  refine zaa (.pointer (some ⟨w.heap.size,1,none⟩)) rfl (zaf rfl rfl (fldK1 _ ·)) ?_
  refine zaa (fv 95 b) rfl (zaq rfl rfl b0 rfl (zav ·)) ?_;simp only [aP,lA,lZ,lS]
  refine zaa (.pointer (some ⟨w.heap.size,2,none⟩)) rfl (zaf rfl rfl (fldK2 _ ·)) ?_
  refine zaa (fv 35 b) rfl (zaq rfl rfl b0 rfl (zav ·)) ?_;simp only [aP,lA,lZ,lS]
  refine zaa (ptrTo (w.heap.size + 1 + 1)) rfl (zaf rfl rfl (fldT0 _ ·)) ?_
  refine zaa (nv X.val) rfl (zad rfl rfl b2 rfl uN rfl (iN _)) ?_;simp only [aP,lA,lZ,lS]
  refine zaa (nv zz.val) rfl (zad rfl rfl bzz rfl uN rfl (iN _)) ?_
  refine zaa (nv u.val) rfl (zaz (args:=[nv X.val,nv zz.val]) rfl rfl rfl (zbj _ ·) (fun W hW => zbt ku.out (hf.ext hW))) ?_;simp only [aP,lA,lZ,lS]
  refine zaa (ptrTo (w.heap.size + 1)) rfl (zaf rfl rfl (fldS0 _ ·)) ?_
  refine zaa (nv x.val) rfl (zad rfl rfl b1 rfl uN rfl (iN _)) ?_;simp only [aP,lA,lZ,lS]
  refine zaa (nv run.val) rfl (zaz (args:=[nv u.val,nv x.val]) rfl rfl rfl (zde _ ·) (fun W hW => zds krun.out (hf.ext hW))) ?_;simp only [aP,lA,lZ,lS]
  exact zak
 refine zcv _ _ rfl rfl rfl rfl rfl rfl rfl rfl rfl (by kernel_rfl) (by kernel_rfl) (by kernel_rfl) rfl rfl (hzN ·) (fun _ => rfl) (fun _ => rfl) (iN _) rfl (zbe _) ?_
 intro grun w5 hgrun brun hE
 refine NoPanic.normal ?_
 replace b0:=hE.block b0
 replace b1:=hE.block b1
 replace b2:=hE.block b2
 replace b3:=hE.block b3
 replace bzz:=hE.block bzz
 replace hf:=hf.ext hE
 replace hx:=hx.trans hE
 clear hE
 simp only [aP,lA,lZ,lS]
 clear hgrun
 go_upto_region 7 with (fail)
 refine' zbw (m:=16) (A:=_) 17 (by kernel_rfl) (by kernel_rfl) (by kernel_rfl) ?h5a ?h5b
 case h5a =>
  refine zaa (.pointer (some ⟨w.heap.size,1,none⟩)) rfl (zaf rfl rfl (fldK1 _ ·)) ?_
  refine zaa (fv 95 b) rfl (zaq rfl rfl b0 rfl (zav ·)) ?_;simp only [aP,lA,lZ,lS]
  refine zaa (.pointer (some ⟨w.heap.size,2,none⟩)) rfl (zaf rfl rfl (fldK2 _ ·)) ?_
  refine zaa (fv 35 b) rfl (zaq rfl rfl b0 rfl (zav ·)) ?_;simp only [aP,lA,lZ,lS]
  refine zaa (.pointer (some ⟨w.heap.size + 1 + 1,4,none⟩)) rfl (zaf rfl rfl (fldT1 _ ·)) ?_
  refine zaa (nv Y.val) rfl (zad rfl rfl b2 rfl uN rfl (iN _)) ?_;simp only [aP,lA,lZ,lS]
  refine zaa (.pointer (some ⟨w.heap.size,2,none⟩)) rfl (zaf rfl rfl (fldK2 _ ·)) ?_
  refine zaa (fv 35 b) rfl (zaq rfl rfl b0 rfl (zav ·)) ?_;simp only [aP,lA,lZ,lS]
  refine zaa (nv zz.val) rfl (zad rfl rfl bzz rfl uN rfl (iN _)) ?_
  refine zaa (.pointer (some ⟨w.heap.size + 1,8,none⟩)) rfl (zaf rfl rfl (fldS2 _ ·)) ?_;simp only [aP,lA,lZ,lS]
  refine zaa (nv z.val) rfl (zad rfl rfl b1 rfl uN rfl (iN _)) ?_
  refine zaa (nv zzz.val) rfl (zaz (args:=[nv zz.val,nv z.val]) rfl rfl rfl (zbj _ ·) (fun W hW => zbt kzzz.out (hf.ext hW))) ?_;simp only [aP,lA,lZ,lS]
  refine zaa (nv v.val) rfl (zaz (args:=[nv Y.val,nv zzz.val]) rfl rfl rfl (zbj _ ·) (fun W hW => zbt kv.out (hf.ext hW))) ?_
  refine zaa (.pointer (some ⟨w.heap.size + 1,4,none⟩)) rfl (zaf rfl rfl (fldS1 _ ·)) ?_;simp only [aP,lA,lZ,lS]
  refine zaa (nv y.val) rfl (zad rfl rfl b1 rfl uN rfl (iN _)) ?_
  refine zaa (nv rise.val) rfl (zaz (args:=[nv v.val,nv y.val]) rfl rfl rfl (zde _ ·) (fun W hW => zds krise.out (hf.ext hW))) ?_;simp only [aP,lA,lZ,lS]
  exact zak
 refine zcv _ _ rfl rfl rfl rfl rfl rfl rfl rfl rfl (by kernel_rfl) (by kernel_rfl) (by kernel_rfl) rfl rfl (hzN ·) (fun _ => rfl) (fun _ => rfl) (iN _) rfl (zbe _) ?_
 intro grise w6 hgrise brise hE
 refine NoPanic.normal ?_
 replace b0:=hE.block b0
 replace b1:=hE.block b1
 replace b3:=hE.block b3
 replace brun:=hE.block brun
 replace hf:=hf.ext hE
 replace hx:=hx.trans hE
 clear hE
 simp only [aP,lA,lZ,lS]
 clear hgrise
 go_upto_region 8 with (fail)
 refine' zan (m:=2) (A:=_) (by kernel_rfl) ?h6a ?h6b
 case h6a =>
  refine zaa (nv run.val) rfl (zad rfl rfl brun rfl uN rfl (iN _)) ?_
  refine zaa (.bool false) rfl (zai (args:=[nv run.val]) rfl rfl (fun W => zac Tryz.func96 rfl rfl _ W) (fun W hW => isz_no kr.out (zee _) W)) ?_;simp only [aP,lA,lZ,lS]
  exact zak
 refine zar rfl ?_
 intro w7 hE
 replace b0:=hE.block b0
 replace b1:=hE.block b1
 replace b3:=hE.block b3
 replace brun:=hE.block brun
 replace brise:=hE.block brise
 replace hf:=hf.ext hE
 replace hx:=hx.trans hE
 clear hE
 go_upto_region 12 with (fail)
 refine' zan (m:=5) (A:=_) (by kernel_rfl) ?h7a ?h7b
 case h7a =>
  refine zaa (.pointer (some ⟨w.heap.size,2,none⟩)) rfl (zaf rfl rfl (fldK2 _ ·)) ?_
  refine zaa (fv 35 b) rfl (zaq rfl rfl b0 rfl (zav ·)) ?_;simp only [aP,lA,lZ,lS]
  refine zaa (nv run.val) rfl (zad rfl rfl brun rfl uN rfl (iN _)) ?_
  refine zaa (nv run.val) rfl (zad rfl rfl brun rfl uN rfl (iN _)) ?_;simp only [aP,lA,lZ,lS]
  refine zaa (nv sq.val) rfl (zaz (args:=[nv run.val,nv run.val]) rfl rfl rfl (zbj _ ·) (fun W hW => zbt ksq.out (hf.ext hW))) ?_;simp only [aP,lA,lZ,lS]
  exact zak
 refine zcm _ _ rfl rfl rfl rfl rfl rfl rfl (hzN ·) (fun _ => rfl) (fun _ => rfl) (iN _) rfl (zbe _) ?_
 intro gsq w8 hgsq bsq hE
 replace b0:=hE.block b0
 replace b1:=hE.block b1
 replace b3:=hE.block b3
 replace brun:=hE.block brun
 replace brise:=hE.block brise
 replace hf:=hf.ext hE
 replace hx:=hx.trans hE
 clear hE
 simp only [aP,lA,lZ,lS]
 clear hgsq
 go_upto_region 13 with (fail)
 refine' zan (m:=5) (A:=_) (by kernel_rfl) ?h8a ?h8b
 case h8a =>
  refine zaa (.pointer (some ⟨w.heap.size,2,none⟩)) rfl (zaf rfl rfl (fldK2 _ ·)) ?_
  refine zaa (fv 35 b) rfl (zaq rfl rfl b0 rfl (zav ·)) ?_;simp only [aP,lA,lZ,lS]
  refine zaa (nv sq.val) rfl (zad rfl rfl bsq rfl uN rfl (iN _)) ?_
  refine zaa (nv run.val) rfl (zad rfl rfl brun rfl uN rfl (iN _)) ?_;simp only [aP,lA,lZ,lS]
  refine zaa (nv cube.val) rfl (zaz (args:=[nv sq.val,nv run.val]) rfl rfl rfl (zbj _ ·) (fun W hW => zbt kcube.out (hf.ext hW))) ?_;simp only [aP,lA,lZ,lS]
  exact zak
 refine zcm _ _ rfl rfl rfl rfl rfl rfl rfl (hzN ·) (fun _ => rfl) (fun _ => rfl) (iN _) rfl (zbe _) ?_
 intro gcube w9 hgcube bcube hE
 replace b0:=hE.block b0
 replace b1:=hE.block b1
 replace b3:=hE.block b3
 replace brun:=hE.block brun
 replace brise:=hE.block brise
 replace bsq:=hE.block bsq
 replace hf:=hf.ext hE
 replace hx:=hx.trans hE
 clear hE
 simp only [aP,lA,lZ,lS]
 clear hgcube
 go_upto_region 14 with (fail)
 refine' zan (m:=6) (A:=_) (by kernel_rfl) ?h9a ?h9b
 case h9a =>
  refine zaa (.pointer (some ⟨w.heap.size,2,none⟩)) rfl (zaf rfl rfl (fldK2 _ ·)) ?_
  refine zaa (fv 35 b) rfl (zaq rfl rfl b0 rfl (zav ·)) ?_;simp only [aP,lA,lZ,lS]
  refine zaa (ptrTo (w.heap.size + 1)) rfl (zaf rfl rfl (fldS0 _ ·)) ?_
  refine zaa (nv x.val) rfl (zad rfl rfl b1 rfl uN rfl (iN _)) ?_;simp only [aP,lA,lZ,lS]
  refine zaa (nv sq.val) rfl (zad rfl rfl bsq rfl uN rfl (iN _)) ?_
  refine zaa (nv cross.val) rfl (zaz (args:=[nv x.val,nv sq.val]) rfl rfl rfl (zbj _ ·) (fun W hW => zbt kcross.out (hf.ext hW))) ?_;simp only [aP,lA,lZ,lS]
  exact zak
 refine zcm _ _ rfl rfl rfl rfl rfl rfl rfl (hzN ·) (fun _ => rfl) (fun _ => rfl) (iN _) rfl (zbe _) ?_
 intro gcross w10 hgcross bcross hE
 replace b0:=hE.block b0
 replace b1:=hE.block b1
 replace b3:=hE.block b3
 replace brun:=hE.block brun
 replace brise:=hE.block brise
 replace bcube:=hE.block bcube
 replace hf:=hf.ext hE
 replace hx:=hx.trans hE
 clear hE
 simp only [aP,lA,lZ,lS]
 clear hgcross
 go_upto_region 15 with (fail)
 refine' zbw (m:=15) (A:=_) 16 (by kernel_rfl) (by kernel_rfl) (by kernel_rfl) ?h10a ?h10b
 case h10a =>
  refine zaa (.pointer (some ⟨w.heap.size,1,none⟩)) rfl (zaf rfl rfl (fldK1 _ ·)) ?_
  refine zaa (fv 95 b) rfl (zaq rfl rfl b0 rfl (zav ·)) ?_;simp only [aP,lA,lZ,lS]
  refine zaa (.pointer (some ⟨w.heap.size,1,none⟩)) rfl (zaf rfl rfl (fldK1 _ ·)) ?_
  refine zaa (fv 95 b) rfl (zaq rfl rfl b0 rfl (zav ·)) ?_;simp only [aP,lA,lZ,lS]
  refine zaa (.pointer (some ⟨w.heap.size,2,none⟩)) rfl (zaf rfl rfl (fldK2 _ ·)) ?_
  refine zaa (fv 35 b) rfl (zaq rfl rfl b0 rfl (zav ·)) ?_;simp only [aP,lA,lZ,lS]
  refine zaa (nv rise.val) rfl (zad rfl rfl brise rfl uN rfl (iN _)) ?_
  refine zaa (nv rise.val) rfl (zad rfl rfl brise rfl uN rfl (iN _)) ?_;simp only [aP,lA,lZ,lS]
  refine zaa (nv rr.val) rfl (zaz (args:=[nv rise.val,nv rise.val]) rfl rfl rfl (zbj _ ·) (fun W hW => zbt krr.out (hf.ext hW))) ?_
  refine zaa (nv cube.val) rfl (zad rfl rfl bcube rfl uN rfl (iN _)) ?_;simp only [aP,lA,lZ,lS]
  refine zaa (nv r1.val) rfl (zaz (args:=[nv rr.val,nv cube.val]) rfl rfl rfl (zde _ ·) (fun W hW => zds kr1.out (hf.ext hW))) ?_
  refine zaa (cv b) rfl (zad rfl rfl b0 rfl Tryz.underlying82 rfl (iK _)) ?_;simp only [aP,lA,lZ,lS]
  refine zaa (nv cross.val) rfl (zad rfl rfl bcross rfl uN rfl (iN _)) ?_
  refine zaa (nv c2.val) rfl (zai (args:=[cv b,nv cross.val]) rfl rfl (fun W => zac Tryz.func100 rfl rfl _ W) (fun W hW => zdn kc2.out (hf.ext hW))) ?_;simp only [aP,lA,lZ,lS]
  refine zaa (nv x3.val) rfl (zaz (args:=[nv r1.val,nv c2.val]) rfl rfl rfl (zde _ ·) (fun W hW => zds kx3.out (hf.ext hW))) ?_;simp only [aP,lA,lZ,lS]
  exact zak
 refine zcv _ _ rfl rfl rfl rfl rfl rfl rfl rfl rfl (by kernel_rfl) (by kernel_rfl) (by kernel_rfl) rfl rfl (hzN ·) (fun _ => rfl) (fun _ => rfl) (iN _) rfl (zbe _) ?_
 intro gx3 w11 hgx3 bx3 hE
 refine NoPanic.normal ?_
 replace b0:=hE.block b0
 replace b1:=hE.block b1
 replace b3:=hE.block b3
 replace brun:=hE.block brun
 replace brise:=hE.block brise
 replace bcube:=hE.block bcube
 replace bcross:=hE.block bcross
 replace hf:=hf.ext hE
 replace hx:=hx.trans hE
 clear hE
 simp only [aP,lA,lZ,lS]
 clear hgx3
 go_upto_region 16 with (fail)
 refine' zbw (m:=26) (A:=_) 26 (by kernel_rfl) (by kernel_rfl) (by kernel_rfl) ?h11a ?h11b
 case h11a =>
  refine zaa (nv x3.val) rfl (zad rfl rfl bx3 rfl uN rfl (iN _)) ?_
  refine zaa (.pointer (some ⟨w.heap.size,1,none⟩)) rfl (zaf rfl rfl (fldK1 _ ·)) ?_;simp only [aP,lA,lZ,lS]
  refine zaa (fv 95 b) rfl (zaq rfl rfl b0 rfl (zav ·)) ?_
  refine zaa (.pointer (some ⟨w.heap.size,2,none⟩)) rfl (zaf rfl rfl (fldK2 _ ·)) ?_;simp only [aP,lA,lZ,lS]
  refine zaa (fv 35 b) rfl (zaq rfl rfl b0 rfl (zav ·)) ?_
  refine zaa (nv rise.val) rfl (zad rfl rfl brise rfl uN rfl (iN _)) ?_;simp only [aP,lA,lZ,lS]
  refine zaa (.pointer (some ⟨w.heap.size,1,none⟩)) rfl (zaf rfl rfl (fldK1 _ ·)) ?_
  refine zaa (fv 95 b) rfl (zaq rfl rfl b0 rfl (zav ·)) ?_;simp only [aP,lA,lZ,lS]
  refine zaa (nv cross.val) rfl (zad rfl rfl bcross rfl uN rfl (iN _)) ?_
  refine zaa (nv x3.val) rfl (zad rfl rfl bx3 rfl uN rfl (iN _)) ?_;simp only [aP,lA,lZ,lS]
  refine zaa (nv d.val) rfl (zaz (args:=[nv cross.val,nv x3.val]) rfl rfl rfl (zde _ ·) (fun W hW => zds kd.out (hf.ext hW))) ?_
  refine zaa (nv rd.val) rfl (zaz (args:=[nv rise.val,nv d.val]) rfl rfl rfl (zbj _ ·) (fun W hW => zbt krd.out (hf.ext hW))) ?_;simp only [aP,lA,lZ,lS]
  refine zaa (.pointer (some ⟨w.heap.size,2,none⟩)) rfl (zaf rfl rfl (fldK2 _ ·)) ?_
  refine zaa (fv 35 b) rfl (zaq rfl rfl b0 rfl (zav ·)) ?_;simp only [aP,lA,lZ,lS]
  refine zaa (.pointer (some ⟨w.heap.size + 1,4,none⟩)) rfl (zaf rfl rfl (fldS1 _ ·)) ?_
  refine zaa (nv y.val) rfl (zad rfl rfl b1 rfl uN rfl (iN _)) ?_;simp only [aP,lA,lZ,lS]
  refine zaa (nv cube.val) rfl (zad rfl rfl bcube rfl uN rfl (iN _)) ?_
  refine zaa (nv yc.val) rfl (zaz (args:=[nv y.val,nv cube.val]) rfl rfl rfl (zbj _ ·) (fun W hW => zbt kyc.out (hf.ext hW))) ?_;simp only [aP,lA,lZ,lS]
  refine zaa (nv y3.val) rfl (zaz (args:=[nv rd.val,nv yc.val]) rfl rfl rfl (zde _ ·) (fun W hW => zds ky3.out (hf.ext hW))) ?_
  refine zaa (.pointer (some ⟨w.heap.size,2,none⟩)) rfl (zaf rfl rfl (fldK2 _ ·)) ?_;simp only [aP,lA,lZ,lS]
  refine zaa (fv 35 b) rfl (zaq rfl rfl b0 rfl (zav ·)) ?_
  refine zaa (.pointer (some ⟨w.heap.size + 1,8,none⟩)) rfl (zaf rfl rfl (fldS2 _ ·)) ?_;simp only [aP,lA,lZ,lS]
  refine zaa (nv z.val) rfl (zad rfl rfl b1 rfl uN rfl (iN _)) ?_
  refine zaa (nv run.val) rfl (zad rfl rfl brun rfl uN rfl (iN _)) ?_;simp only [aP,lA,lZ,lS]
  refine zaa (nv z3.val) rfl (zaz (args:=[nv z.val,nv run.val]) rfl rfl rfl (zbj _ ·) (fun W hW => zbt kz3.out (hf.ext hW))) ?_
  refine zaa (sv x3.val y3.val z3.val) rfl (zba (vs:=[(0,nv x3.val),(1,nv y3.val),(2,nv z3.val)]) rfl rfl (fun W => bldS W _ _ _)) ?_;simp only [aP,lA,lZ,lS]
  exact zak
 refine zeg _ rfl rfl rfl rfl rfl (by kernel_rfl) (by kernel_rfl) rfl rfl rfl b3 (iS _ _ _) rfl (zfg _ _ _) ?_
 intro w12 hB hb
 refine NoPanic.normal ?_
 go_wp2
 exact bodyPost_ret (results_cell_row rfl _ _ (w.heap.size + 1 + 1 + 1) 85 (sc x3.val y3.val z3.val) (0,0) _ rfl hb Tryz.underlying85 rfl (by kernel_rfl)) rfl ⟨rfl,hx.new hB (by omega)⟩
theorem flat_far {b : Nat} (x y : Nat) {w : World} (hF : Fp w b) :
  Calls Tryz.prog 55 #[cv b,sv x y 0] w fun e w' => e = .returned (qv 0 0 true) ∧ Ext w w':=by
 unfold cv sv cc fv sc
 go_enter Tryz.func55,Tryz.ntmps55
 go_upto_region 1 with (fail)
 obtain ⟨hx,b0,b1,b2⟩:=blocks3 w (.cells #[.func (.func 83) #[ptrTo b] #[],.func (.func 95) #[ptrTo b] #[],.func (.func 35) #[ptrTo b] #[],.func (.func 33) #[ptrTo b] #[]] 82) (.cells #[vI vU (wd x 0),vI vU (wd x 1),vI vU (wd x 2),vI vU (wd x 3),vI vU (wd y 0),vI vU (wd y 1),vI vU (wd y 2),vI vU (wd y 3),vI vU (wd 0 0),vI vU (wd 0 1),vI vU (wd 0 2),vI vU (wd 0 3)] 85) (.cells #[vI vU 0,vI vU 0,vI vU 0,vI vU 0,vI vU 0,vI vU 0,vI vU 0,vI vU 0,.bool false] 29)
 generalize ((w.alloc (.cells #[.func (.func 83) #[ptrTo b] #[],.func (.func 95) #[ptrTo b] #[],.func (.func 35) #[ptrTo b] #[],.func (.func 33) #[ptrTo b] #[]] 82)).alloc (.cells #[vI vU (wd x 0),vI vU (wd x 1),vI vU (wd x 2),vI vU (wd x 3),vI vU (wd y 0),vI vU (wd y 1),vI vU (wd y 2),vI vU (wd y 3),vI vU (wd 0 0),vI vU (wd 0 1),vI vU (wd 0 2),vI vU (wd 0 3)] 85)).alloc (.cells #[vI vU 0,vI vU 0,vI vU 0,vI vU 0,vI vU 0,vI vU 0,vI vU 0,vI vU 0,.bool false] 29) = w1 at *
 have b0 : w1.heap[w.heap.size]? = some (.cells (cc b) 82 (0,0)):=b0
 have b1 : w1.heap[w.heap.size + 1]? = some (.cells (sc x y 0) 85 (0,0)):=b1
 have hf:=hF.ext hx
 clear hF
 refine' zan (m:=8) (A:=_) (by kernel_rfl) ?h1 ?h2
 case h1 =>
  refine zaa (.pointer (some ⟨w.heap.size,3,none⟩)) rfl (zaf rfl rfl (fldK3 _ ·)) ?_
  refine zaa (fv 33 b) rfl (zaq rfl rfl b0 rfl (isn_inv ·)) ?_;simp only [aP,lA,lZ,lS]
  refine zaa (.pointer (some ⟨w.heap.size + 1,8,none⟩)) rfl (zaf rfl rfl (fldS2 _ ·)) ?_
  refine zaa (nv 0) rfl (zad rfl rfl b1 rfl uN rfl (iN _)) ?_;simp only [aP,lA,lZ,lS]
  refine zaa (.tuple #[nv 0,.iface 39 (.int .i64 4)]) rfl (zaz (args:=[nv 0]) rfl rfl rfl (he_kInv _ ·) (fun W hW => kinv_z (hf.ext hW))) ?_
  refine zaa (.tuple #[nv 0,.iface 39 (.int .i64 4)]) rfl (zah (.inl rfl) rfl) ?_;simp only [aP,lA,lZ,lS]
  refine zaa (nv 0) rfl (zbb rfl rfl rfl) ?_
  refine zaa (.iface 39 (.int .i64 4)) rfl (zbb rfl rfl rfl) ?_;simp only [aP,lA,lZ,lS]
  exact zak
 refine zcc _ _ rfl rfl rfl rfl rfl rfl rfl (hzN ·) (fun _ => rfl) (fun _ => rfl) (iN _) rfl (zbe _) ?_
 intro gt w2 hgt bt hE
 replace b2:=hE.block b2
 replace hf:=hf.ext hE
 replace hx:=hx.trans hE
 clear hE
 simp only [aP,lA,lZ,lS]
 clear hgt
 go_upto_region 3 with (fail)
 refine' zan (m:=1) (A:=_) (by kernel_rfl) ?h2a ?h2b
 case h2a =>
  refine zaa (qv 0 0 true) rfl (zba rfl rfl (bldTF ·)) ?_;simp only [aP,lA,lZ,lS]
  exact zak
 refine zbs _ rfl rfl rfl rfl rfl rfl b2 (iT _ _ _) rfl (zev _ _ _) ?_
 intro w3 hB hb
 go_wp2
 exact bodyPost_ret (results_cell_row rfl _ _ (w.heap.size + 1 + 1) 29 (qc 0 0 true) (0,0) _ rfl hb Tryz.underlying29 rfl (by kernel_rfl)) rfl ⟨rfl,hx.new hB (by omega)⟩
def flat2 (x y z : Fe) : Fe × Fe:=(x * (Pt.E256.inv z * Pt.E256.inv z),y * (Pt.E256.inv z * Pt.E256.inv z * Pt.E256.inv z))
theorem flat_near {b : Nat} (x y z : Fe) (hz : z ≠ 0) {w : World} (hF : Fp w b) :
  Calls Tryz.prog 55 #[cv b,sv x.val y.val z.val] w fun e w' => e = .returned (qv (flat2 x y z).1.val (flat2 x y z).2.val false) ∧ Ext w w':=by
 obtain ⟨iv,hiv⟩ : ∃ t : Fe,t = Pt.E256.inv z:=⟨_,rfl⟩
 obtain ⟨sq,hsq⟩ : ∃ t : Fe,t = iv * iv:=⟨_,rfl⟩
 obtain ⟨X,hX⟩ : ∃ t : Fe,t = x * sq:=⟨_,rfl⟩
 obtain ⟨cb,hcb⟩ : ∃ t : Fe,t = sq * iv:=⟨_,rfl⟩
 obtain ⟨Y,hY⟩ : ∃ t : Fe,t = y * cb:=⟨_,rfl⟩
 have hfin : flat2 x y z = (X,Y):=by
  unfold flat2
  rw [hY,hcb,hX,hsq,hiv]
 rw [hfin]
 clear hfin
 have kiv:=veil hiv
 have ksq:=veil hsq
 have kX:=veil hX
 have kcb:=veil hcb
 have kY:=veil hY
 clear hY hcb hX hsq hiv
 have kz0:=veil hz
 clear hz
 show Calls Tryz.prog 55 #[cv b,sv x.val y.val z.val] w fun e w' => e = .returned (qv X.val Y.val false) ∧ Ext w w'
 unfold cv sv cc fv sc
 go_enter Tryz.func55,Tryz.ntmps55
 go_upto_region 1 with (fail)
 obtain ⟨hx,b0,b1,b2⟩:=blocks3 w (.cells #[.func (.func 83) #[ptrTo b] #[],.func (.func 95) #[ptrTo b] #[],.func (.func 35) #[ptrTo b] #[],.func (.func 33) #[ptrTo b] #[]] 82) (.cells #[vI vU (wd (x.val) 0),vI vU (wd (x.val) 1),vI vU (wd (x.val) 2),vI vU (wd (x.val) 3),vI vU (wd (y.val) 0),vI vU (wd (y.val) 1),vI vU (wd (y.val) 2),vI vU (wd (y.val) 3),vI vU (wd (z.val) 0),vI vU (wd (z.val) 1),vI vU (wd (z.val) 2),vI vU (wd (z.val) 3)] 85) (.cells #[vI vU 0,vI vU 0,vI vU 0,vI vU 0,vI vU 0,vI vU 0,vI vU 0,vI vU 0,.bool false] 29)
 generalize ((w.alloc (.cells #[.func (.func 83) #[ptrTo b] #[],.func (.func 95) #[ptrTo b] #[],.func (.func 35) #[ptrTo b] #[],.func (.func 33) #[ptrTo b] #[]] 82)).alloc (.cells #[vI vU (wd (x.val) 0),vI vU (wd (x.val) 1),vI vU (wd (x.val) 2),vI vU (wd (x.val) 3),vI vU (wd (y.val) 0),vI vU (wd (y.val) 1),vI vU (wd (y.val) 2),vI vU (wd (y.val) 3),vI vU (wd (z.val) 0),vI vU (wd (z.val) 1),vI vU (wd (z.val) 2),vI vU (wd (z.val) 3)] 85)).alloc (.cells #[vI vU 0,vI vU 0,vI vU 0,vI vU 0,vI vU 0,vI vU 0,vI vU 0,vI vU 0,.bool false] 29) = w1 at *
 have b0 : w1.heap[w.heap.size]? = some (.cells (cc b) 82 (0,0)):=b0
 have b1 : w1.heap[w.heap.size + 1]? = some (.cells (sc x.val y.val z.val) 85 (0,0)):=b1
 have hf:=hF.ext hx
 clear hF
 refine' zan (m:=8) (A:=_) (by kernel_rfl) ?h1 ?h2
 case h1 =>
  refine zaa (.pointer (some ⟨w.heap.size,3,none⟩)) rfl (zaf rfl rfl (fldK3 _ ·)) ?_
  refine zaa (fv 33 b) rfl (zaq rfl rfl b0 rfl (isn_inv ·)) ?_;simp only [aP,lA,lZ,lS]
  refine zaa (.pointer (some ⟨w.heap.size + 1,8,none⟩)) rfl (zaf rfl rfl (fldS2 _ ·)) ?_
  refine zaa (nv z.val) rfl (zad rfl rfl b1 rfl uN rfl (iN _)) ?_;simp only [aP,lA,lZ,lS]
  refine zaa (.tuple #[nv iv.val,.nilIface]) rfl (zaz (args:=[nv z.val]) rfl rfl rfl (he_kInv _ ·) (fun W hW => kinv_p kz0.out kiv.out (hf.ext hW))) ?_
  refine zaa (.tuple #[nv iv.val,.nilIface]) rfl (zah (.inl rfl) rfl) ?_;simp only [aP,lA,lZ,lS]
  refine zaa (nv iv.val) rfl (zbb rfl rfl rfl) ?_
  refine zaa (.nilIface) rfl (zbb rfl rfl rfl) ?_;simp only [aP,lA,lZ,lS]
  exact zak
 refine zcc _ _ rfl rfl rfl rfl rfl rfl rfl (hzN ·) (fun _ => rfl) (fun _ => rfl) (iN _) rfl (zbe _) ?_
 intro gt w2 hgt bt hE
 replace b0:=hE.block b0
 replace b1:=hE.block b1
 replace b2:=hE.block b2
 replace hf:=hf.ext hE
 replace hx:=hx.trans hE
 clear hE
 simp only [aP,lA,lZ,lS]
 clear hgt
 go_upto_region 4 with (fail)
 refine' zan (m:=5) (A:=_) (by kernel_rfl) ?h2a ?h2b
 case h2a =>
  refine zaa (.pointer (some ⟨w.heap.size,2,none⟩)) rfl (zaf rfl rfl (fldK2 _ ·)) ?_
  refine zaa (fv 35 b) rfl (zaq rfl rfl b0 rfl (zav ·)) ?_;simp only [aP,lA,lZ,lS]
  refine zaa (nv iv.val) rfl (zad rfl rfl bt rfl uN rfl (iN _)) ?_
  refine zaa (nv iv.val) rfl (zad rfl rfl bt rfl uN rfl (iN _)) ?_;simp only [aP,lA,lZ,lS]
  refine zaa (nv sq.val) rfl (zaz (args:=[nv iv.val,nv iv.val]) rfl rfl rfl (zbj _ ·) (fun W hW => zbt ksq.out (hf.ext hW))) ?_;simp only [aP,lA,lZ,lS]
  exact zak
 refine zcm _ _ rfl rfl rfl rfl rfl rfl rfl (hzN ·) (fun _ => rfl) (fun _ => rfl) (iN _) rfl (zbe _) ?_
 intro gsq w3 hgsq bsq hE
 replace b0:=hE.block b0
 replace b1:=hE.block b1
 replace b2:=hE.block b2
 replace bt:=hE.block bt
 replace hf:=hf.ext hE
 replace hx:=hx.trans hE
 clear hE
 simp only [aP,lA,lZ,lS]
 clear hgsq
 go_upto_region 5 with (fail)
 refine' zbw (m:=17) (A:=_) 17 (by kernel_rfl) (by kernel_rfl) (by kernel_rfl) ?h3a ?h3b
 case h3a =>
  refine zaa (.pointer (some ⟨w.heap.size,2,none⟩)) rfl (zaf rfl rfl (fldK2 _ ·)) ?_
  refine zaa (fv 35 b) rfl (zaq rfl rfl b0 rfl (zav ·)) ?_;simp only [aP,lA,lZ,lS]
  refine zaa (ptrTo (w.heap.size + 1)) rfl (zaf rfl rfl (fldS0 _ ·)) ?_
  refine zaa (nv x.val) rfl (zad rfl rfl b1 rfl uN rfl (iN _)) ?_;simp only [aP,lA,lZ,lS]
  refine zaa (nv sq.val) rfl (zad rfl rfl bsq rfl uN rfl (iN _)) ?_
  refine zaa (nv X.val) rfl (zaz (args:=[nv x.val,nv sq.val]) rfl rfl rfl (zbj _ ·) (fun W hW => zbt kX.out (hf.ext hW))) ?_;simp only [aP,lA,lZ,lS]
  refine zaa (.pointer (some ⟨w.heap.size,2,none⟩)) rfl (zaf rfl rfl (fldK2 _ ·)) ?_
  refine zaa (fv 35 b) rfl (zaq rfl rfl b0 rfl (zav ·)) ?_;simp only [aP,lA,lZ,lS]
  refine zaa (.pointer (some ⟨w.heap.size + 1,4,none⟩)) rfl (zaf rfl rfl (fldS1 _ ·)) ?_
  refine zaa (nv y.val) rfl (zad rfl rfl b1 rfl uN rfl (iN _)) ?_;simp only [aP,lA,lZ,lS]
  refine zaa (.pointer (some ⟨w.heap.size,2,none⟩)) rfl (zaf rfl rfl (fldK2 _ ·)) ?_
  refine zaa (fv 35 b) rfl (zaq rfl rfl b0 rfl (zav ·)) ?_;simp only [aP,lA,lZ,lS]
  refine zaa (nv sq.val) rfl (zad rfl rfl bsq rfl uN rfl (iN _)) ?_
  refine zaa (nv iv.val) rfl (zad rfl rfl bt rfl uN rfl (iN _)) ?_;simp only [aP,lA,lZ,lS]
  refine zaa (nv cb.val) rfl (zaz (args:=[nv sq.val,nv iv.val]) rfl rfl rfl (zbj _ ·) (fun W hW => zbt kcb.out (hf.ext hW))) ?_
  refine zaa (nv Y.val) rfl (zaz (args:=[nv y.val,nv cb.val]) rfl rfl rfl (zbj _ ·) (fun W hW => zbt kY.out (hf.ext hW))) ?_;simp only [aP,lA,lZ,lS]
  refine zaa (qv X.val Y.val false) rfl (zba (vs:=[(0,nv X.val),(1,nv Y.val)]) rfl rfl (fun W => bldT W _ _)) ?_;simp only [aP,lA,lZ,lS]
  exact zak
 refine zeg _ rfl rfl rfl rfl rfl (by kernel_rfl) (by kernel_rfl) rfl rfl rfl b2 (iT _ _ _) rfl (zev _ _ _) ?_
 intro w4 hB hb
 refine NoPanic.normal ?_
 go_wp2
 exact bodyPost_ret (results_cell_row rfl _ _ (w.heap.size + 1 + 1) 29 (qc X.val Y.val false) (0,0) _ rfl hb Tryz.underlying29 rfl (by kernel_rfl)) rfl ⟨rfl,hx.new hB (by omega)⟩
theorem on_far0 {b : Nat} (Y : Nat) (hY : Y < top) {w : World} (hF : Fp w b) :
  Calls Tryz.prog 49 #[cv b,qv 0 Y true] w fun e w' => e = .returned (.bool (decide (Y = 0))) ∧ Ext w w':=by
 have kY:=veil hY
 clear hY
 obtain ⟨q,hq⟩ : ∃ q,q = decide (Y = 0):=⟨_,rfl⟩
 rw [← hq]
 have kq:=veil hq
 clear hq
 unfold cv qv cc fv qc
 go_enter Tryz.func49,Tryz.ntmps49
 go_upto_region 1 with (fail)
 obtain ⟨hx,b0,b1⟩:=blocks2 w (.cells #[.func (.func 83) #[ptrTo b] #[],.func (.func 95) #[ptrTo b] #[],.func (.func 35) #[ptrTo b] #[],.func (.func 33) #[ptrTo b] #[]] 82) (.cells #[vI vU (wd 0 0),vI vU (wd 0 1),vI vU (wd 0 2),vI vU (wd 0 3),vI vU (wd Y 0),vI vU (wd Y 1),vI vU (wd Y 2),vI vU (wd Y 3),.bool (true)] 29)
 generalize (w.alloc (.cells #[.func (.func 83) #[ptrTo b] #[],.func (.func 95) #[ptrTo b] #[],.func (.func 35) #[ptrTo b] #[],.func (.func 33) #[ptrTo b] #[]] 82)).alloc (.cells #[vI vU (wd 0 0),vI vU (wd 0 1),vI vU (wd 0 2),vI vU (wd 0 3),vI vU (wd Y 0),vI vU (wd Y 1),vI vU (wd Y 2),vI vU (wd Y 3),.bool (true)] 29) = w1 at *
 have b0 : w1.heap[w.heap.size]? = some (.cells (cc b) 82 (0,0)):=b0
 have b1 : w1.heap[w.heap.size + 1]? = some (.cells (qc 0 Y true) 29 (0,0)):=b1
 have hf:=hF.ext hx
 clear hF
 refine' zan (m:=2) (A:=_) (by kernel_rfl) ?h1 ?h2
 case h1 =>
  refine zaa (.pointer (some ⟨w.heap.size + 1,8,none⟩)) rfl (zaf rfl rfl (fldT2 _ ·)) ?_
  refine zaa (.bool true) rfl (zaq rfl rfl b1 rfl (zdg ·)) ?_;simp only [aP,lA,lZ,lS]
  exact zak
 refine zar rfl ?_
 intro w2 hE
 replace b1:=hE.block b1
 replace hf:=hf.ext hE
 replace hx:=hx.trans hE
 clear hE
 go_upto_region 2 with (fail)
 refine' zdt (m:=9) (A:=_) ?h2a ?h2b
 case h2a =>
  refine zaa (ptrTo (w.heap.size + 1)) rfl (zaf rfl rfl (fldT0 _ ·)) ?_
  refine zaa (nv 0) rfl (zad rfl rfl b1 rfl uN rfl (iN _)) ?_;simp only [aP,lA,lZ,lS]
  refine zaa (.bool true) rfl (zai (args:=[nv 0]) rfl rfl (fun W => zac Tryz.func96 rfl rfl _ W) (fun W hW => ziq rfl W)) ?_
  refine zaa (.bool true) rfl (zah (.inl rfl) rfl) ?_;simp only [aP,lA,lZ,lS]
  refine zat (.pointer (some ⟨w.heap.size + 1,4,none⟩)) rfl (zaf rfl rfl (fldT1 _ ·)) ?_
  refine zat (nv Y) rfl (zad rfl rfl b1 rfl uN rfl (iN _)) ?_;simp only [aP,lA,lZ,lS]
  refine zat (.bool q) rfl (zai (args:=[nv Y]) rfl rfl (fun W => zac Tryz.func96 rfl rfl _ W) (fun W hW => by rw [kq.out]; exact isz_calls Y kY.out W)) ?_
  refine zaa (.bool q) rfl (zbd rfl rfl rfl) ?_;simp only [aP,lA,lZ,lS]
  refine zaa (.bool q) rfl (zah (.inr rfl) rfl) ?_;simp only [aP,lA,lZ,lS]
  exact zak
 refine zar rfl ?_
 intro w3 hE
 replace hf:=hf.ext hE
 replace hx:=hx.trans hE
 clear hE
 go_wp2
 go_ret
 exact ⟨rfl,hx⟩
theorem on_far1 {b : Nat} (X Y : Nat) (hX : X < top) (h0 : X ≠ 0) {w : World} (hF : Fp w b) :
  Calls Tryz.prog 49 #[cv b,qv X Y true] w fun e w' => e = .returned (.bool false) ∧ Ext w w':=by
 have kX:=veil hX
 have k0:=veil h0
 clear hX h0
 unfold cv qv cc fv qc
 go_enter Tryz.func49,Tryz.ntmps49
 go_upto_region 1 with (fail)
 obtain ⟨hx,b0,b1⟩:=blocks2 w (.cells #[.func (.func 83) #[ptrTo b] #[],.func (.func 95) #[ptrTo b] #[],.func (.func 35) #[ptrTo b] #[],.func (.func 33) #[ptrTo b] #[]] 82) (.cells #[vI vU (wd X 0),vI vU (wd X 1),vI vU (wd X 2),vI vU (wd X 3),vI vU (wd Y 0),vI vU (wd Y 1),vI vU (wd Y 2),vI vU (wd Y 3),.bool (true)] 29)
 generalize (w.alloc (.cells #[.func (.func 83) #[ptrTo b] #[],.func (.func 95) #[ptrTo b] #[],.func (.func 35) #[ptrTo b] #[],.func (.func 33) #[ptrTo b] #[]] 82)).alloc (.cells #[vI vU (wd X 0),vI vU (wd X 1),vI vU (wd X 2),vI vU (wd X 3),vI vU (wd Y 0),vI vU (wd Y 1),vI vU (wd Y 2),vI vU (wd Y 3),.bool (true)] 29) = w1 at *
 have b0 : w1.heap[w.heap.size]? = some (.cells (cc b) 82 (0,0)):=b0
 have b1 : w1.heap[w.heap.size + 1]? = some (.cells (qc X Y true) 29 (0,0)):=b1
 have hf:=hF.ext hx
 clear hF
 refine' zan (m:=2) (A:=_) (by kernel_rfl) ?h1 ?h2
 case h1 =>
  refine zaa (.pointer (some ⟨w.heap.size + 1,8,none⟩)) rfl (zaf rfl rfl (fldT2 _ ·)) ?_
  refine zaa (.bool true) rfl (zaq rfl rfl b1 rfl (zdg ·)) ?_;simp only [aP,lA,lZ,lS]
  exact zak
 refine zar rfl ?_
 intro w2 hE
 replace b1:=hE.block b1
 replace hf:=hf.ext hE
 replace hx:=hx.trans hE
 clear hE
 go_upto_region 2 with (fail)
 refine' zdt (m:=9) (A:=_) ?h2a ?h2b
 case h2a =>
  refine zaa (ptrTo (w.heap.size + 1)) rfl (zaf rfl rfl (fldT0 _ ·)) ?_
  refine zaa (nv X) rfl (zad rfl rfl b1 rfl uN rfl (iN _)) ?_;simp only [aP,lA,lZ,lS]
  refine zaa (.bool false) rfl (zai (args:=[nv X]) rfl rfl (fun W => zac Tryz.func96 rfl rfl _ W) (fun W hW => isz_no k0.out kX.out W)) ?_
  refine zaa (.bool false) rfl (zah (.inl rfl) rfl) ?_;simp only [aP,lA,lZ,lS]
  refine zch rfl ?_
  refine zch rfl ?_;simp only [aP,lA,lZ,lS]
  refine zch rfl ?_
  refine zaa (.bool false) rfl (zbd rfl rfl rfl) ?_;simp only [aP,lA,lZ,lS]
  refine zaa (.bool false) rfl (zah (.inr rfl) rfl) ?_;simp only [aP,lA,lZ,lS]
  exact zak
 refine zar rfl ?_
 intro w3 hE
 replace hf:=hf.ext hE
 replace hx:=hx.trans hE
 clear hE
 go_wp2
 go_ret
 exact ⟨rfl,hx⟩
theorem on_out {b : Nat} (X Y : Nat) (hX : X < top) (h0 : ¬ X < Pt.pp) {w : World} (hF : Fp w b) :
  Calls Tryz.prog 49 #[cv b,qv X Y false] w fun e w' => e = .returned (.bool false) ∧ Ext w w':=by
 have kX:=veil hX
 have k0:=veil h0
 clear hX h0
 unfold cv qv cc fv qc
 go_enter Tryz.func49,Tryz.ntmps49
 go_upto_region 1 with (fail)
 obtain ⟨hx,b0,b1⟩:=blocks2 w (.cells #[.func (.func 83) #[ptrTo b] #[],.func (.func 95) #[ptrTo b] #[],.func (.func 35) #[ptrTo b] #[],.func (.func 33) #[ptrTo b] #[]] 82) (.cells #[vI vU (wd X 0),vI vU (wd X 1),vI vU (wd X 2),vI vU (wd X 3),vI vU (wd Y 0),vI vU (wd Y 1),vI vU (wd Y 2),vI vU (wd Y 3),.bool (false)] 29)
 generalize (w.alloc (.cells #[.func (.func 83) #[ptrTo b] #[],.func (.func 95) #[ptrTo b] #[],.func (.func 35) #[ptrTo b] #[],.func (.func 33) #[ptrTo b] #[]] 82)).alloc (.cells #[vI vU (wd X 0),vI vU (wd X 1),vI vU (wd X 2),vI vU (wd X 3),vI vU (wd Y 0),vI vU (wd Y 1),vI vU (wd Y 2),vI vU (wd Y 3),.bool (false)] 29) = w1 at *
 have b0 : w1.heap[w.heap.size]? = some (.cells (cc b) 82 (0,0)):=b0
 have b1 : w1.heap[w.heap.size + 1]? = some (.cells (qc X Y false) 29 (0,0)):=b1
 have hf:=hF.ext hx
 clear hF
 refine' zan (m:=2) (A:=_) (by kernel_rfl) ?h1 ?h2
 case h1 =>
  refine zaa (.pointer (some ⟨w.heap.size + 1,8,none⟩)) rfl (zaf rfl rfl (fldT2 _ ·)) ?_
  refine zaa (.bool false) rfl (zaq rfl rfl b1 rfl (zdg ·)) ?_;simp only [aP,lA,lZ,lS]
  exact zak
 refine zar rfl ?_
 intro w2 hE
 replace b1:=hE.block b1
 replace hf:=hf.ext hE
 replace hx:=hx.trans hE
 clear hE
 go_upto_region 3 with (fail)
 refine' zdb (m:=12) (A:=_) 12 (by kernel_rfl) (by kernel_rfl) ?h2a ?h2b
 case h2a =>
  refine zaa (ptrTo (w.heap.size + 1)) rfl (zaf rfl rfl (fldT0 _ ·)) ?_
  refine zaa (nv X) rfl (zad rfl rfl b1 rfl uN rfl (iN _)) ?_;simp only [aP,lA,lZ,lS]
  refine zaa (nv Pt.pp) rfl (zai (args:=[]) rfl rfl (fun W => zac Tryz.func94 rfl rfl _ W) (fun W hW => pP_is W)) ?_
  refine zaa (.int .i64 (cmpN X Pt.pp)) rfl (zai (args:=[nv X,nv Pt.pp]) rfl rfl (fun W => zac Tryz.func46 rfl rfl _ W) (fun W hW => cmp_no kX.out W)) ?_;simp only [aP,lA,lZ,lS]
  refine zaa (.bool true) rfl (zha rfl rfl (cmp_no_ge k0.out)) ?_
  refine zaa (.bool true) rfl (zah (.inl rfl) rfl) ?_;simp only [aP,lA,lZ,lS]
  refine zch rfl ?_
  refine zch rfl ?_;simp only [aP,lA,lZ,lS]
  refine zch rfl ?_
  refine zch rfl ?_;simp only [aP,lA,lZ,lS]
  refine zch rfl ?_
  refine zaa (.bool true) rfl (zbd rfl rfl rfl) ?_;simp only [aP,lA,lZ,lS]
  exact zak
 refine zck rfl (by kernel_rfl) ?_
 intro w3 hE
 refine NoPanic.normal ?_
 replace hf:=hf.ext hE
 replace hx:=hx.trans hE
 clear hE
 go_wp2
 go_ret
 exact ⟨rfl,hx⟩
theorem on_high {b : Nat} (X Y : Nat) (hX : X < Pt.pp) (hY : Y < top) (h0 : ¬ Y < Pt.pp) {w : World} (hF : Fp w b) :
  Calls Tryz.prog 49 #[cv b,qv X Y false] w fun e w' => e = .returned (.bool false) ∧ Ext w w':=by
 have kX:=veil hX
 have kY:=veil hY
 have k0:=veil h0
 clear hX hY h0
 unfold cv qv cc fv qc
 go_enter Tryz.func49,Tryz.ntmps49
 go_upto_region 1 with (fail)
 obtain ⟨hx,b0,b1⟩:=blocks2 w (.cells #[.func (.func 83) #[ptrTo b] #[],.func (.func 95) #[ptrTo b] #[],.func (.func 35) #[ptrTo b] #[],.func (.func 33) #[ptrTo b] #[]] 82) (.cells #[vI vU (wd X 0),vI vU (wd X 1),vI vU (wd X 2),vI vU (wd X 3),vI vU (wd Y 0),vI vU (wd Y 1),vI vU (wd Y 2),vI vU (wd Y 3),.bool (false)] 29)
 generalize (w.alloc (.cells #[.func (.func 83) #[ptrTo b] #[],.func (.func 95) #[ptrTo b] #[],.func (.func 35) #[ptrTo b] #[],.func (.func 33) #[ptrTo b] #[]] 82)).alloc (.cells #[vI vU (wd X 0),vI vU (wd X 1),vI vU (wd X 2),vI vU (wd X 3),vI vU (wd Y 0),vI vU (wd Y 1),vI vU (wd Y 2),vI vU (wd Y 3),.bool (false)] 29) = w1 at *
 have b0 : w1.heap[w.heap.size]? = some (.cells (cc b) 82 (0,0)):=b0
 have b1 : w1.heap[w.heap.size + 1]? = some (.cells (qc X Y false) 29 (0,0)):=b1
 have hf:=hF.ext hx
 clear hF
 refine' zan (m:=2) (A:=_) (by kernel_rfl) ?h1 ?h2
 case h1 =>
  refine zaa (.pointer (some ⟨w.heap.size + 1,8,none⟩)) rfl (zaf rfl rfl (fldT2 _ ·)) ?_
  refine zaa (.bool false) rfl (zaq rfl rfl b1 rfl (zdg ·)) ?_;simp only [aP,lA,lZ,lS]
  exact zak
 refine zar rfl ?_
 intro w2 hE
 replace b1:=hE.block b1
 replace hf:=hf.ext hE
 replace hx:=hx.trans hE
 clear hE
 go_upto_region 3 with (fail)
 refine' zdb (m:=12) (A:=_) 12 (by kernel_rfl) (by kernel_rfl) ?h2a ?h2b
 case h2a =>
  refine zaa (ptrTo (w.heap.size + 1)) rfl (zaf rfl rfl (fldT0 _ ·)) ?_
  refine zaa (nv X) rfl (zad rfl rfl b1 rfl uN rfl (iN _)) ?_;simp only [aP,lA,lZ,lS]
  refine zaa (nv Pt.pp) rfl (zai (args:=[]) rfl rfl (fun W => zac Tryz.func94 rfl rfl _ W) (fun W hW => pP_is W)) ?_
  refine zaa (.int .i64 (-1)) rfl (zai (args:=[nv X,nv Pt.pp]) rfl rfl (fun W => zac Tryz.func46 rfl rfl _ W) (fun W hW => cmp_in kX.out W)) ?_;simp only [aP,lA,lZ,lS]
  refine zaa (.bool false) rfl (zha rfl rfl (by decide)) ?_
  refine zaa (.bool false) rfl (zah (.inl rfl) rfl) ?_;simp only [aP,lA,lZ,lS]
  refine zat (.pointer (some ⟨w.heap.size + 1,4,none⟩)) rfl (zaf rfl rfl (fldT1 _ ·)) ?_
  refine zat (nv Y) rfl (zad rfl rfl b1 rfl uN rfl (iN _)) ?_;simp only [aP,lA,lZ,lS]
  refine zat (nv Pt.pp) rfl (zai (args:=[]) rfl rfl (fun W => zac Tryz.func94 rfl rfl _ W) (fun W hW => pP_is W)) ?_
  refine zat (.int .i64 (cmpN Y Pt.pp)) rfl (zai (args:=[nv Y,nv Pt.pp]) rfl rfl (fun W => zac Tryz.func46 rfl rfl _ W) (fun W hW => cmp_no kY.out W)) ?_;simp only [aP,lA,lZ,lS]
  refine zat (.bool true) rfl (zha rfl rfl (cmp_no_ge k0.out)) ?_
  refine zaa (.bool true) rfl (zbd rfl rfl rfl) ?_;simp only [aP,lA,lZ,lS]
  exact zak
 refine zck rfl (by kernel_rfl) ?_
 intro w3 hE
 refine NoPanic.normal ?_
 replace hf:=hf.ext hE
 replace hx:=hx.trans hE
 clear hE
 go_wp2
 go_ret
 exact ⟨rfl,hx⟩
theorem on_near {b : Nat} (x y : Fe) {w : World} (hF : Fp w b) :
  Calls Tryz.prog 49 #[cv b,qv x.val y.val false] w fun e w' => e = .returned (.bool (decide ((y * y).val = (x * x * x - (x + x + x) + Pt.F Pt.bb).val))) ∧ Ext w w':=by
 obtain ⟨sq,hsq⟩ : ∃ t : Fe,t = x * x:=⟨_,rfl⟩
 obtain ⟨cube,hcube⟩ : ∃ t : Fe,t = sq * x:=⟨_,rfl⟩
 obtain ⟨lhs,hlhs⟩ : ∃ t : Fe,t = y * y:=⟨_,rfl⟩
 obtain ⟨tr,htr⟩ : ∃ t : Fe,t = x + x + x:=⟨_,rfl⟩
 obtain ⟨d,hd⟩ : ∃ t : Fe,t = cube - tr:=⟨_,rfl⟩
 obtain ⟨r,hr⟩ : ∃ t : Fe,t = d + Pt.F Pt.bb:=⟨_,rfl⟩
 have hfin : x * x * x - (x + x + x) + Pt.F Pt.bb = r:=by
  subst hr hd htr hlhs hcube hsq
  rfl
 rw [hfin,← hlhs]
 clear hfin
 have ksq:=veil hsq
 have kcube:=veil hcube
 have klhs:=veil hlhs
 have ktr:=veil htr
 have kd:=veil hd
 have kr:=veil hr
 clear hr hd htr hlhs hcube hsq
 have kx:=veil x.isLt
 have ky:=veil y.isLt
 unfold cv qv cc fv qc
 go_enter Tryz.func49,Tryz.ntmps49
 go_upto_region 1 with (fail)
 obtain ⟨hx,b0,b1⟩:=blocks2 w (.cells #[.func (.func 83) #[ptrTo b] #[],.func (.func 95) #[ptrTo b] #[],.func (.func 35) #[ptrTo b] #[],.func (.func 33) #[ptrTo b] #[]] 82) (.cells #[vI vU (wd (x.val) 0),vI vU (wd (x.val) 1),vI vU (wd (x.val) 2),vI vU (wd (x.val) 3),vI vU (wd (y.val) 0),vI vU (wd (y.val) 1),vI vU (wd (y.val) 2),vI vU (wd (y.val) 3),.bool (false)] 29)
 generalize (w.alloc (.cells #[.func (.func 83) #[ptrTo b] #[],.func (.func 95) #[ptrTo b] #[],.func (.func 35) #[ptrTo b] #[],.func (.func 33) #[ptrTo b] #[]] 82)).alloc (.cells #[vI vU (wd (x.val) 0),vI vU (wd (x.val) 1),vI vU (wd (x.val) 2),vI vU (wd (x.val) 3),vI vU (wd (y.val) 0),vI vU (wd (y.val) 1),vI vU (wd (y.val) 2),vI vU (wd (y.val) 3),.bool (false)] 29) = w1 at *
 have b0 : w1.heap[w.heap.size]? = some (.cells (cc b) 82 (0,0)):=b0
 have b1 : w1.heap[w.heap.size + 1]? = some (.cells (qc x.val y.val false) 29 (0,0)):=b1
 have hf:=hF.ext hx
 clear hF
 refine' zan (m:=2) (A:=_) (by kernel_rfl) ?h1 ?h2
 case h1 =>
  refine zaa (.pointer (some ⟨w.heap.size + 1,8,none⟩)) rfl (zaf rfl rfl (fldT2 _ ·)) ?_
  refine zaa (.bool false) rfl (zaq rfl rfl b1 rfl (zdg ·)) ?_;simp only [aP,lA,lZ,lS]
  exact zak
 refine zar rfl ?_
 intro w2 hE
 replace b0:=hE.block b0
 replace b1:=hE.block b1
 replace hf:=hf.ext hE
 replace hx:=hx.trans hE
 clear hE
 go_upto_region 3 with (fail)
 refine' zdb (m:=12) (A:=_) 12 (by kernel_rfl) (by kernel_rfl) ?h2a ?h2b
 case h2a =>
  refine zaa (ptrTo (w.heap.size + 1)) rfl (zaf rfl rfl (fldT0 _ ·)) ?_
  refine zaa (nv x.val) rfl (zad rfl rfl b1 rfl uN rfl (iN _)) ?_;simp only [aP,lA,lZ,lS]
  refine zaa (nv Pt.pp) rfl (zai (args:=[]) rfl rfl (fun W => zac Tryz.func94 rfl rfl _ W) (fun W hW => pP_is W)) ?_
  refine zaa (.int .i64 (-1)) rfl (zai (args:=[nv x.val,nv Pt.pp]) rfl rfl (fun W => zac Tryz.func46 rfl rfl _ W) (fun W hW => cmp_in kx.out W)) ?_;simp only [aP,lA,lZ,lS]
  refine zaa (.bool false) rfl (zha rfl rfl (by decide)) ?_
  refine zaa (.bool false) rfl (zah (.inl rfl) rfl) ?_;simp only [aP,lA,lZ,lS]
  refine zat (.pointer (some ⟨w.heap.size + 1,4,none⟩)) rfl (zaf rfl rfl (fldT1 _ ·)) ?_
  refine zat (nv y.val) rfl (zad rfl rfl b1 rfl uN rfl (iN _)) ?_;simp only [aP,lA,lZ,lS]
  refine zat (nv Pt.pp) rfl (zai (args:=[]) rfl rfl (fun W => zac Tryz.func94 rfl rfl _ W) (fun W hW => pP_is W)) ?_
  refine zat (.int .i64 (-1)) rfl (zai (args:=[nv y.val,nv Pt.pp]) rfl rfl (fun W => zac Tryz.func46 rfl rfl _ W) (fun W hW => cmp_in ky.out W)) ?_;simp only [aP,lA,lZ,lS]
  refine zat (.bool false) rfl (zha rfl rfl (by decide)) ?_
  refine zaa (.bool false) rfl (zbd rfl rfl rfl) ?_;simp only [aP,lA,lZ,lS]
  exact zak
 refine zck rfl (by kernel_rfl) ?_
 intro w3 hE
 refine NoPanic.normal ?_
 replace b0:=hE.block b0
 replace b1:=hE.block b1
 replace hf:=hf.ext hE
 replace hx:=hx.trans hE
 clear hE
 go_upto_region 5 with (fail)
 refine' zbw (m:=12) (A:=_) 13 (by kernel_rfl) (by kernel_rfl) (by kernel_rfl) ?h3a ?h3b
 case h3a =>
  refine zaa (.pointer (some ⟨w.heap.size,2,none⟩)) rfl (zaf rfl rfl (fldK2 _ ·)) ?_
  refine zaa (fv 35 b) rfl (zaq rfl rfl b0 rfl (zav ·)) ?_;simp only [aP,lA,lZ,lS]
  refine zaa (.pointer (some ⟨w.heap.size,2,none⟩)) rfl (zaf rfl rfl (fldK2 _ ·)) ?_
  refine zaa (fv 35 b) rfl (zaq rfl rfl b0 rfl (zav ·)) ?_;simp only [aP,lA,lZ,lS]
  refine zaa (ptrTo (w.heap.size + 1)) rfl (zaf rfl rfl (fldT0 _ ·)) ?_
  refine zaa (nv x.val) rfl (zad rfl rfl b1 rfl uN rfl (iN _)) ?_;simp only [aP,lA,lZ,lS]
  refine zaa (ptrTo (w.heap.size + 1)) rfl (zaf rfl rfl (fldT0 _ ·)) ?_
  refine zaa (nv x.val) rfl (zad rfl rfl b1 rfl uN rfl (iN _)) ?_;simp only [aP,lA,lZ,lS]
  refine zaa (nv sq.val) rfl (zaz (args:=[nv x.val,nv x.val]) rfl rfl rfl (zbj _ ·) (fun W hW => zbt ksq.out (hf.ext hW))) ?_
  refine zaa (ptrTo (w.heap.size + 1)) rfl (zaf rfl rfl (fldT0 _ ·)) ?_;simp only [aP,lA,lZ,lS]
  refine zaa (nv x.val) rfl (zad rfl rfl b1 rfl uN rfl (iN _)) ?_
  refine zaa (nv cube.val) rfl (zaz (args:=[nv sq.val,nv x.val]) rfl rfl rfl (zbj _ ·) (fun W hW => zbt kcube.out (hf.ext hW))) ?_;simp only [aP,lA,lZ,lS]
  exact zak
 refine zcv _ _ rfl rfl rfl rfl rfl rfl rfl rfl rfl (by kernel_rfl) (by kernel_rfl) (by kernel_rfl) rfl rfl (hzN ·) (fun _ => rfl) (fun _ => rfl) (iN _) rfl (zbe _) ?_
 intro gcube w4 hgcube bcube hE
 refine NoPanic.normal ?_
 replace b0:=hE.block b0
 replace b1:=hE.block b1
 replace hf:=hf.ext hE
 replace hx:=hx.trans hE
 clear hE
 simp only [aP,lA,lZ,lS]
 clear hgcube
 go_upto_region 6 with (fail)
 refine' zbw (m:=21) (A:=_) 21 (by kernel_rfl) (by kernel_rfl) (by kernel_rfl) ?h4a ?h4b
 case h4a =>
  refine zaa (.pointer (some ⟨w.heap.size,2,none⟩)) rfl (zaf rfl rfl (fldK2 _ ·)) ?_
  refine zaa (fv 35 b) rfl (zaq rfl rfl b0 rfl (zav ·)) ?_;simp only [aP,lA,lZ,lS]
  refine zaa (.pointer (some ⟨w.heap.size + 1,4,none⟩)) rfl (zaf rfl rfl (fldT1 _ ·)) ?_
  refine zaa (nv y.val) rfl (zad rfl rfl b1 rfl uN rfl (iN _)) ?_;simp only [aP,lA,lZ,lS]
  refine zaa (.pointer (some ⟨w.heap.size + 1,4,none⟩)) rfl (zaf rfl rfl (fldT1 _ ·)) ?_
  refine zaa (nv y.val) rfl (zad rfl rfl b1 rfl uN rfl (iN _)) ?_;simp only [aP,lA,lZ,lS]
  refine zaa (nv lhs.val) rfl (zaz (args:=[nv y.val,nv y.val]) rfl rfl rfl (zbj _ ·) (fun W hW => zbt klhs.out (hf.ext hW))) ?_
  refine zaa (ptrTo w.heap.size) rfl (zaf rfl rfl (fldK0 _ ·)) ?_;simp only [aP,lA,lZ,lS]
  refine zaa (fv 83 b) rfl (zaq rfl rfl b0 rfl (zav ·)) ?_
  refine zaa (.pointer (some ⟨w.heap.size,1,none⟩)) rfl (zaf rfl rfl (fldK1 _ ·)) ?_;simp only [aP,lA,lZ,lS]
  refine zaa (fv 95 b) rfl (zaq rfl rfl b0 rfl (zav ·)) ?_
  refine zaa (nv cube.val) rfl (zad rfl rfl bcube rfl uN rfl (iN _)) ?_;simp only [aP,lA,lZ,lS]
  refine zaa (cv b) rfl (zad rfl rfl b0 rfl Tryz.underlying82 rfl (iK _)) ?_
  refine zaa (ptrTo (w.heap.size + 1)) rfl (zaf rfl rfl (fldT0 _ ·)) ?_;simp only [aP,lA,lZ,lS]
  refine zaa (nv x.val) rfl (zad rfl rfl b1 rfl uN rfl (iN _)) ?_
  refine zaa (nv tr.val) rfl (zai (args:=[cv b,nv x.val]) rfl rfl (fun W => zac Tryz.func97 rfl rfl _ W) (fun W hW => trp_calls ktr.out (hf.ext hW))) ?_;simp only [aP,lA,lZ,lS]
  refine zaa (nv d.val) rfl (zaz (args:=[nv cube.val,nv tr.val]) rfl rfl rfl (zde _ ·) (fun W hW => zds kd.out (hf.ext hW))) ?_
  refine zaa (nv ((Pt.F Pt.bb : Fe).val)) rfl (zai (args:=[]) rfl rfl (fun W => zac Tryz.func98 rfl rfl _ W) (fun W hW => bb_is W)) ?_;simp only [aP,lA,lZ,lS]
  refine zaa (nv r.val) rfl (zaz (args:=[nv d.val,nv ((Pt.F Pt.bb : Fe).val)]) rfl rfl rfl (he_kAdd _ ·) (fun W hW => kadd_p kr.out (hf.ext hW))) ?_
  refine zaa (.bool (decide (lhs.val = r.val))) rfl (made_eqn rfl rfl rfl (zee _) (zee _)) ?_;simp only [aP,lA,lZ,lS]
  refine zaa (.bool (decide (lhs.val = r.val))) rfl (zah (.inr rfl) rfl) ?_;simp only [aP,lA,lZ,lS]
  exact zak
 refine zck rfl (by kernel_rfl) ?_
 intro w5 hE
 refine NoPanic.normal ?_
 replace hf:=hf.ext hE
 replace hx:=hx.trans hE
 clear hE
 go_wp2
 go_ret
 exact ⟨rfl,hx⟩
def Rep (x y z : Fe) : Pt.P Pt.pp → Prop
 | none => z = 0
 | some (X,Y) => z ≠ 0 ∧ x = X * (z * z) ∧ y = Y * (z * z * z)
section
variable {n : Nat} [NeZero n]
theorem rt_m {X Y z l x Z s u : Fin n} (hl : l * (Y + Y) = 3 * (X * X - 1)) (hx : x = X * (z * z)) (hZ : Z = Y * (z * z * z) * z + Y * (z * z * z) * z) (hs : s = x - z * z) (hu : u = x + z * z) : s * u + s * u + s * u = l * Z:=by
 subst hs hu hx hZ
 have h : l * (Y * (z * z * z) * z + Y * (z * z * z) * z) = l * (Y + Y) * (z * z * z * z):=by grobner
 rw [h,hl]
 grobner
theorem rt_c {X Y z x y Z : Fin n} (hx : x = X * (z * z)) (hy : y = Y * (z * z * z)) (hZ : Z = y * z + y * z) : (x * (y * y) + x * (y * y)) + (x * (y * y) + x * (y * y)) = X * (Z * Z):=by
 subst hZ hy hx
 grobner
theorem rt_x {m l Z c X : Fin n} (hm : m = l * Z) (hc : c = X * (Z * Z)) : m * m - (c + c) = (l * l - X - X) * (Z * Z):=by
 subst hm hc
 grobner
theorem rt_t {Y z y Z : Fin n} (hy : y = Y * (z * z * z)) (hZ : Z = y * z + y * z) : ((y * y * (y * y) + y * y * (y * y)) + (y * y * (y * y) + y * y * (y * y))) + ((y * y * (y * y) + y * y * (y * y)) + (y * y * (y * y) + y * y * (y * y))) = Y * (Z * Z * Z):=by
 subst hZ hy
 grobner
theorem rt_y {m l Z c X x3 X3 t Y : Fin n} (hm : m = l * Z) (hc : c = X * (Z * Z)) (hx : x3 = X3 * (Z * Z)) (ht : t = Y * (Z * Z * Z)) : m * (c - x3) - t = (l * (X - X3) - Y) * (Z * Z * Z):=by
 subst hm hc hx ht
 grobner
theorem rp_run {X1 X2 z x : Fin n} (hx : x = X1 * (z * z)) : X2 * (z * z) - x = (X2 - X1) * (z * z):=by subst hx; grobner
theorem rp_rise {Y1 Y2 z y : Fin n} (hy : y = Y1 * (z * z * z)) : Y2 * (z * z * z) - y = (Y2 - Y1) * (z * z * z):=by subst hy; grobner
theorem rp_l {X1 X2 Y1 Y2 z l run Z : Fin n} (hl : l * (X2 - X1) = Y2 - Y1) (hr : run = (X2 - X1) * (z * z)) (hZ : Z = z * run) : (Y2 - Y1) * (z * z * z) = l * Z:=by
 subst hZ hr
 rw [← hl]
 grobner
theorem rp_x {X1 X2 z l run Z rise x : Fin n} (hx : x = X1 * (z * z)) (hr : run = (X2 - X1) * (z * z)) (hZ : Z = z * run) (hs : rise = l * Z) :
  rise * rise - run * run * run - (x * (run * run) + x * (run * run)) = (l * l - X1 - X2) * (Z * Z):=by
 subst hs hZ hr hx
 grobner
theorem rp_y {X1 Y1 X2 z l run Z rise x y x3 X3 : Fin n} (hx : x = X1 * (z * z)) (hy : y = Y1 * (z * z * z)) (hr : run = (X2 - X1) * (z * z)) (hZ : Z = z * run) (hs : rise = l * Z) (h3 : x3 = X3 * (Z * Z)) :
  rise * (x * (run * run) - x3) - y * (run * run * run) = (l * (X1 - X3) - Y1) * (Z * Z * Z):=by
 subst h3 hs hZ hr hx hy
 grobner
theorem rf_x {X x z t : Fin n} (hx : x = X * (z * z)) (ht : z * t = 1) : x * (t * t) = X:=by
 subst hx
 have h : X * (z * z) * (t * t) = X * (z * t) * (z * t):=by grobner
 rw [h,ht]
 grobner
theorem rf_y {Y y z t : Fin n} (hy : y = Y * (z * z * z)) (ht : z * t = 1) : y * (t * t * t) = Y:=by
 subst hy
 have h : Y * (z * z * z) * (t * t * t) = Y * (z * t) * (z * t) * (z * t):=by grobner
 rw [h,ht]
 grobner
theorem three_x (x : Fin n) : x + x + x = 3 * x:=by grobner
theorem opp_of {y1 y2 : Fin n} (h : (y1 - y2) * (y1 - (0 - y2)) = 0) (hz : ∀ x y : Fin n,x * y = 0 → x = 0 ∨ y = 0) (hn : y1 ≠ y2) : y1 = 0 - y2:=by
 rcases hz _ _ h with h | h
 ·
  exact absurd (Pt.eq_of_sub h) hn
 ·
  exact Pt.eq_of_sub h
theorem opp_sq {y1 y2 : Fin n} (h : y1 * y1 = y2 * y2) : (y1 - y2) * (y1 - (0 - y2)) = 0:=by grobner
end
end Go.Proofs.YtmfjigcdhijkjaaGreatDoor
