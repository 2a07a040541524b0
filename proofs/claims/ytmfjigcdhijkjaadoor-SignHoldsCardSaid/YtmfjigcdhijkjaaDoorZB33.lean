/-
  Of C1 C2 C3 C5 C7 C8.
-/
import Derived.Deep.RegionHeld3
import Derived.Test.YtmfjigcdhijkjaaDoorZB13
import Derived.Test.YtmfjigcdhijkjaaDoorZB32
import Derived.Test.YtmfjigcdhijkjaaDoorZB22
import Derived.Test.YtmfjigcdhijkjaaDoorZB30
import Derived.Test.YtmfjigcdhijkjaaDoorZB23
import Derived.Test.YtmfjigcdhijkjaaDoorZB19
import Derived.Test.YtmfjigcdhijkjaaDoorZB3
import Derived.Test.YtmfjigcdhijkjaaDoorZB12
import Derived.Test.YtmfjigcdhijkjaaDoorZB1
import Derived.Test.YtmfjigcdhijkjaaDoorZB5
import Derived.Test.YtmfjigcdhijkjaaDoorZB11
set_option maxRecDepth 1000000
set_option maxHeartbeats 20000000
namespace Go.Proofs.YtmfjigcdhijkjaaDoor
open Go.RowKit
open Go.Act renaming put → aP
open List renaming setIfInBounds_toArray → lA, set_cons_zero → lZ, set_cons_succ → lS
def Fp (w : World) (b : Nat) : Prop:=∃ N Q,Fok Pt.pp N Q ∧ Fb w b Pt.pp N Q
theorem Fp.ext {w w' : World} {b : Nat} (h : Fp w b) (k : Ext w w') : Fp w' b:=by
 obtain ⟨N,Q,h1,h2⟩:=h
 exact ⟨N,Q,h1,h2.call k⟩
theorem Fp.lt {w : World} {b : Nat} (h : Fp w b) : b < w.heap.size:=by
 obtain ⟨N,Q,h1,h2⟩:=h
 exact h2.lt
abbrev Fe:=Fin Pt.pp
def sc (x y z : Nat) : Array Value:=#[.int .u64 (wd x 0),.int .u64 (wd x 1),.int .u64 (wd x 2),.int .u64 (wd x 3),.int .u64 (wd y 0),.int .u64 (wd y 1),.int .u64 (wd y 2),.int .u64 (wd y 3),.int .u64 (wd z 0),.int .u64 (wd z 1),.int .u64 (wd z 2),.int .u64 (wd z 3)]
def sv (x y z : Nat) : Value:=.agg (sc x y z)
def fv (k b : Nat) : Value:=.func (.func k) #[ptrTo b] #[]
def cc (b : Nat) : Array Value:=#[fv 67 b,fv 69 b,fv 33 b,fv 31 b]
def cv (b : Nat) : Value:=.agg (cc b)
theorem zen (x y z : Nat) : (sc x y z).all (·.oneCell') = true:=by simp [sc,Value.oneCell']
theorem cc_one (b : Nat) : (cc b).all (·.oneCell') = true:=by simp [cc,fv,Value.oneCell']
theorem iS (x y z : Nat) : (Tryd.prog.info? 88).map (·.size) = some (sc x y z).size:=by kernel_rfl
theorem iK (b : Nat) : (Tryd.prog.info? 75).map (·.size) = some (cc b).size:=by kernel_rfl
theorem zdq (x : Fe) : x.val < top:=Nat.lt_trans x.isLt zgk
theorem fe_mod (x : Fe) : x.val % Pt.pp = x.val:=Nat.mod_eq_of_lt x.isLt
theorem kadd_p {b : Nat} {x y t : Fe} (ht : t = x + y) {w : World} (hF : Fp w b) : Calls Tryd.prog 67 #[ptrTo b,nv x.val,nv y.val] w fun e w' => e = .returned (nv t.val) ∧ Ext w w':=by
 obtain ⟨N,Q,h1,h2⟩:=hF
 exact zga b x.val y.val Pt.pp N Q t.val (zdq x) (zdq y) h1 (by rw [fe_mod,fe_mod,Pt.v_add,ht]) w h2
theorem zdh {b : Nat} {x y t : Fe} (ht : t = x - y) {w : World} (hF : Fp w b) : Calls Tryd.prog 69 #[ptrTo b,nv x.val,nv y.val] w fun e w' => e = .returned (nv t.val) ∧ Ext w w':=by
 obtain ⟨N,Q,h1,h2⟩:=hF
 exact fsub2_calls b x.val y.val Pt.pp N Q t.val (zdq x) (zdq y) h1 (by rw [fe_mod,fe_mod,Pt.v_sub,ht]) w h2
theorem zbk {b : Nat} {x y t : Fe} (ht : t = x * y) {w : World} (hF : Fp w b) : Calls Tryd.prog 33 #[ptrTo b,nv x.val,nv y.val] w fun e w' => e = .returned (nv t.val) ∧ Ext w w':=by
 obtain ⟨N,Q,h1,h2⟩:=hF
 exact fmul2_calls b x.val y.val Pt.pp N Q t.val (zdq x) (zdq y) h1 (by rw [Pt.v_mul,ht]) w h2
theorem kinv_p {b : Nat} {x t : Fe} (hx : x ≠ 0) (ht : t = Pt.E256.inv x) {w : World} (hF : Fp w b) : Calls Tryd.prog 31 #[ptrTo b,nv x.val] w fun e w' => e = .returned (.tuple #[nv t.val,.nilIface]) ∧ Ext w w':=by
 obtain ⟨N,Q,h1,h2⟩:=hF
 refine (zgs b x.val Pt.pp N Q (zdq x) h1 w h2).mono ?_
 rintro e w' ⟨⟨y,hy,hi,rfl⟩,hb⟩
 have hg:=Pt.v_gcd hx
 rw [zgq hg,Pt.v_inv hy (hi hg),ht]
 exact ⟨rfl,hb⟩
theorem kinv_z {b : Nat} {w : World} (hF : Fp w b) : Calls Tryd.prog 31 #[ptrTo b,nv 0] w fun e w' => e = .returned (.tuple #[nv 0,.iface 34 (.int .i64 4)]) ∧ Ext w w':=by
 obtain ⟨N,Q,h1,h2⟩:=hF
 refine (zgs b 0 Pt.pp N Q (Nat.two_pow_pos 256) h1 w h2).mono ?_
 rintro e w' ⟨⟨y,hy,hi,rfl⟩,hb⟩
 have hg : ¬ Nat.gcd 0 Pt.pp = 1:=by rw [Nat.gcd_zero_left]; decide +kernel
 rw [invRet_no hg]
 exact ⟨rfl,hb⟩
/-! ### operations -/
section
variable {P : Program} {o : Oper} {a : Act} {w : World}
end
theorem zas (W : World) : (isAgg 71).run Tryd.prog W = .ok false W:=by simp [isAgg,go_sem]
theorem isn_inv (W : World) : (isAgg 69).run Tryd.prog W = .ok false W:=by simp [isAgg,go_sem]
section
variable (g : Nat) (W : World)
theorem fldK0 : (Instr.fieldAt 75 (ptrTo g) 0).run Tryd.prog W = .ok (.pointer (some ⟨g,0,none⟩)) W:=by simp [Instr.fieldAt,go_sem]
theorem fldK1 : (Instr.fieldAt 75 (ptrTo g) 1).run Tryd.prog W = .ok (.pointer (some ⟨g,1,none⟩)) W:=by simp [Instr.fieldAt,go_sem]
theorem fldK2 : (Instr.fieldAt 75 (ptrTo g) 2).run Tryd.prog W = .ok (.pointer (some ⟨g,2,none⟩)) W:=by simp [Instr.fieldAt,go_sem]
theorem fldK3 : (Instr.fieldAt 75 (ptrTo g) 3).run Tryd.prog W = .ok (.pointer (some ⟨g,3,none⟩)) W:=by simp [Instr.fieldAt,go_sem]
theorem fldS0 : (Instr.fieldAt 88 (ptrTo g) 0).run Tryd.prog W = .ok (.pointer (some ⟨g,0,none⟩)) W:=by simp [Instr.fieldAt,go_sem]
theorem fldS1 : (Instr.fieldAt 88 (ptrTo g) 1).run Tryd.prog W = .ok (.pointer (some ⟨g,4,none⟩)) W:=by simp [Instr.fieldAt,go_sem]
theorem fldS2 : (Instr.fieldAt 88 (ptrTo g) 2).run Tryd.prog W = .ok (.pointer (some ⟨g,8,none⟩)) W:=by simp [Instr.fieldAt,go_sem]
theorem hzS : (Instr.alloc 88 true (.tuple #[])).run Tryd.prog W = .ok (ptrTo W.heap.size) (W.alloc (.cells #[.int .u64 0,.int .u64 0,.int .u64 0,.int .u64 0,.int .u64 0,.int .u64 0,.int .u64 0,.int .u64 0,.int .u64 0,.int .u64 0,.int .u64 0,.int .u64 0] 88)):=by simp [Instr.alloc,go_sem]
theorem hzK : (Instr.alloc 75 true (.tuple #[])).run Tryd.prog W = .ok (ptrTo W.heap.size) (W.alloc (.cells #[.nilFunc,.nilFunc,.nilFunc,.nilFunc] 75)):=by simp [Instr.alloc,go_sem]
theorem bldS (x y z : Nat) : (Instr.build 88 [(0,nv x),(1,nv y),(2,nv z)].toArray).run Tryd.prog W = .ok (sv x y z) W:=by simp [Instr.build,go_sem,nv,nc,sv,sc]
theorem bldK (b : Nat) : (Instr.build 75 [(0,fv 67 b),(1,fv 69 b),(2,fv 33 b),(3,fv 31 b)].toArray).run Tryd.prog W = .ok (cv b) W:=by simp [Instr.build,go_sem,fv,cv,cc]
theorem bldS0 : (Instr.build 88 [].toArray).run Tryd.prog W = .ok (sv 0 0 0) W:=by
 obtain ⟨h0,h1,h2,h3⟩:=wd_z
 unfold sv sc
 rw [h0,h1,h2,h3]
 simp [Instr.build,go_sem]
theorem bldGx : (Instr.build 24 [(0,.int .u64 17627433388654248598),(1,.int .u64 8575836109218198432),(2,.int .u64 17923454489921339634),(3,.int .u64 7716867327612699207)].toArray).run Tryd.prog W = .ok (nv Pt.gx) W:=by
 obtain ⟨h0,h1,h2,h3⟩:=gx_lits
 unfold nv nc
 rw [h0,h1,h2,h3]
 simp [Instr.build,go_sem]
theorem bldGy : (Instr.build 24 [(0,.int .u64 14678990851816772085),(1,.int .u64 3156516839386865358),(2,.int .u64 10297457778147434006),(3,.int .u64 5756518291402817435)].toArray).run Tryd.prog W = .ok (nv Pt.gy) W:=by
 obtain ⟨h0,h1,h2,h3⟩:=gy_lits
 unfold nv nc
 rw [h0,h1,h2,h3]
 simp [Instr.build,go_sem]
end
theorem he_kAdd (args : Array Value) (W : World) : (callFunc 67 args).run Tryd.prog W = .ok (.enter 67 args) W:=zab Tryd.func67 rfl rfl args W
theorem zcx (args : Array Value) (W : World) : (callFunc 69 args).run Tryd.prog W = .ok (.enter 69 args) W:=zab Tryd.func69 rfl rfl args W
theorem zbg (args : Array Value) (W : World) : (callFunc 33 args).run Tryd.prog W = .ok (.enter 33 args) W:=zab Tryd.func33 rfl rfl args W
theorem he_kInv (args : Array Value) (W : World) : (callFunc 31 args).run Tryd.prog W = .ok (.enter 31 args) W:=zab Tryd.func31 rfl rfl args W
theorem zde {b : Nat} {x t : Fe} (ht : t = x + x) {w : World} (hF : Fp w b) :
  Calls Tryd.prog 78 #[cv b,nv x.val] w fun e w' => e = .returned (nv t.val) ∧ Ext w w':=by
 have kt:=veil ht
 clear ht
 unfold cv nv cc fv nc
 go_enter Tryd.func78,Tryd.ntmps78
 go_upto_region 1 with (fail)
 obtain ⟨hx,b0,b1,b2⟩:=blocks3 w (.cells #[.func (.func 67) #[ptrTo b] #[],.func (.func 69) #[ptrTo b] #[],.func (.func 33) #[ptrTo b] #[],.func (.func 31) #[ptrTo b] #[]] 75) (.cells #[.int .u64 (wd (x.val) 0),.int .u64 (wd (x.val) 1),.int .u64 (wd (x.val) 2),.int .u64 (wd (x.val) 3)] 24) (.cells #[.int .u64 0,.int .u64 0,.int .u64 0,.int .u64 0] 24)
 generalize ((w.alloc (.cells #[.func (.func 67) #[ptrTo b] #[],.func (.func 69) #[ptrTo b] #[],.func (.func 33) #[ptrTo b] #[],.func (.func 31) #[ptrTo b] #[]] 75)).alloc (.cells #[.int .u64 (wd (x.val) 0),.int .u64 (wd (x.val) 1),.int .u64 (wd (x.val) 2),.int .u64 (wd (x.val) 3)] 24)).alloc (.cells #[.int .u64 0,.int .u64 0,.int .u64 0,.int .u64 0] 24) = w1 at *
 have b0 : w1.heap[w.heap.size]? = some (.cells (cc b) 75 (0,0)):=b0
 have b1 : w1.heap[w.heap.size + 1]? = some (.cells (nc x.val) 24 (0,0)):=b1
 have hf:=hF.ext hx
 clear hF
 refine' zaj (m:=5) (A:=_) (by kernel_rfl) ?h1 ?h2
 case h1 =>
  refine zaa (ptrTo w.heap.size) rfl (zad rfl rfl (fldK0 _ ·)) ?_;simp only [aP,lA,lZ,lS]
  refine zaa (fv 67 b) rfl (zai rfl rfl b0 rfl (zas ·)) ?_;simp only [aP,lA,lZ,lS]
  refine zaa (nv x.val) rfl (zac rfl rfl b1 rfl uN rfl (iN _)) ?_;simp only [aP,lA,lZ,lS]
  refine zaa (nv x.val) rfl (zac rfl rfl b1 rfl uN rfl (iN _)) ?_;simp only [aP,lA,lZ,lS]
  refine zaa (nv t.val) rfl (zav (args:=[nv x.val,nv x.val]) rfl rfl rfl (he_kAdd _ ·) (fun W hW => kadd_p kt.out (hf.ext hW))) ?_;simp only [aP,lA,lZ,lS]
  exact zah
 refine zbj _ rfl rfl rfl rfl rfl rfl b2 (iN _) rfl (zbe _) ?_
 intro w2 hB hb
 go_wp2
 exact bodyPost_ret (results_cell_row rfl _ _ (w.heap.size + 1 + 1) 24 (nc t.val) (0,0) _ rfl hb Tryd.underlying24 rfl (by kernel_rfl)) rfl ⟨rfl,hx.new hB (by omega)⟩
theorem trp_calls {b : Nat} {x t : Fe} (ht : t = x + x + x) {w : World} (hF : Fp w b) :
  Calls Tryd.prog 71 #[cv b,nv x.val] w fun e w' => e = .returned (nv t.val) ∧ Ext w w':=by
 obtain ⟨y,hy⟩ : ∃ t : Fe,t = x + x:=⟨_,rfl⟩
 rw [← hy] at ht
 have ky:=veil hy
 clear hy
 have kt:=veil ht
 clear ht
 unfold cv nv cc fv nc
 go_enter Tryd.func71,Tryd.ntmps71
 go_upto_region 1 with (fail)
 obtain ⟨hx,b0,b1,b2⟩:=blocks3 w (.cells #[.func (.func 67) #[ptrTo b] #[],.func (.func 69) #[ptrTo b] #[],.func (.func 33) #[ptrTo b] #[],.func (.func 31) #[ptrTo b] #[]] 75) (.cells #[.int .u64 (wd (x.val) 0),.int .u64 (wd (x.val) 1),.int .u64 (wd (x.val) 2),.int .u64 (wd (x.val) 3)] 24) (.cells #[.int .u64 0,.int .u64 0,.int .u64 0,.int .u64 0] 24)
 generalize ((w.alloc (.cells #[.func (.func 67) #[ptrTo b] #[],.func (.func 69) #[ptrTo b] #[],.func (.func 33) #[ptrTo b] #[],.func (.func 31) #[ptrTo b] #[]] 75)).alloc (.cells #[.int .u64 (wd (x.val) 0),.int .u64 (wd (x.val) 1),.int .u64 (wd (x.val) 2),.int .u64 (wd (x.val) 3)] 24)).alloc (.cells #[.int .u64 0,.int .u64 0,.int .u64 0,.int .u64 0] 24) = w1 at *
 have b0 : w1.heap[w.heap.size]? = some (.cells (cc b) 75 (0,0)):=b0
 have b1 : w1.heap[w.heap.size + 1]? = some (.cells (nc x.val) 24 (0,0)):=b1
 have hf:=hF.ext hx
 clear hF
 refine' zbn (m:=7) (A:=_) 7 (by kernel_rfl) (by kernel_rfl) (by kernel_rfl) ?h1 ?h2
 case h1 =>
  refine zaa (ptrTo w.heap.size) rfl (zad rfl rfl (fldK0 _ ·)) ?_;simp only [aP,lA,lZ,lS]
  refine zaa (fv 67 b) rfl (zai rfl rfl b0 rfl (zas ·)) ?_;simp only [aP,lA,lZ,lS]
  refine zaa (cv b) rfl (zac rfl rfl b0 rfl Tryd.underlying75 rfl (iK _)) ?_;simp only [aP,lA,lZ,lS]
  refine zaa (nv x.val) rfl (zac rfl rfl b1 rfl uN rfl (iN _)) ?_;simp only [aP,lA,lZ,lS]
  refine zaa (nv y.val) rfl (zaf (args:=[cv b,nv x.val]) rfl rfl (fun W => zab Tryd.func78 rfl rfl _ W) (fun W hW => zde ky.out (hf.ext hW))) ?_;simp only [aP,lA,lZ,lS]
  refine zaa (nv x.val) rfl (zac rfl rfl b1 rfl uN rfl (iN _)) ?_;simp only [aP,lA,lZ,lS]
  refine zaa (nv t.val) rfl (zav (args:=[nv y.val,nv x.val]) rfl rfl rfl (he_kAdd _ ·) (fun W hW => kadd_p kt.out (hf.ext hW))) ?_;simp only [aP,lA,lZ,lS]
  exact zah
 refine zfj _ rfl rfl rfl rfl rfl (by kernel_rfl) (by kernel_rfl) rfl rfl rfl b2 (iN _) rfl (zbe _) ?_
 intro w2 hB hb
 refine NoPanic.normal ?_
 go_wp2
 exact bodyPost_ret (results_cell_row rfl _ _ (w.heap.size + 1 + 1) 24 (nc t.val) (0,0) _ rfl hb Tryd.underlying24 rfl (by kernel_rfl)) rfl ⟨rfl,hx.new hB (by omega)⟩
theorem pP_calls (w : World) : Calls Tryd.prog 68 #[] w fun e w' => e = .returned (.agg #[.int .u64 (wd (Pt.pp) 0),.int .u64 (wd (Pt.pp) 1),.int .u64 (wd (Pt.pp) 2),.int .u64 (wd (Pt.pp) 3)]) ∧ Below w.heap.size w w':=by
 obtain ⟨l0,l1,l2,l3⟩:=pp_lits
 rw [l0,l1,l2,l3]
 clear l0 l1 l2 l3
 go_enter Tryd.func68,Tryd.ntmps68
 go_wp2
 exact bodyPost_ret (results_cell_row rfl _ _ w.heap.size 24 #[.int .u64 18446744073709551615,.int .u64 4294967295,.int .u64 0,.int .u64 18446744069414584321] (0,0) _ rfl (heap_alloc_last w _) Tryd.underlying24 rfl (by kernel_rfl)) rfl ⟨rfl,(Below.refl _ _).alloc (Nat.le_refl _) _⟩
theorem bb_calls (w : World) : Calls Tryd.prog 72 #[] w fun e w' => e = .returned (.agg #[.int .u64 (wd (Pt.bb) 0),.int .u64 (wd (Pt.bb) 1),.int .u64 (wd (Pt.bb) 2),.int .u64 (wd (Pt.bb) 3)]) ∧ Below w.heap.size w w':=by
 obtain ⟨l0,l1,l2,l3⟩:=bb_lits
 rw [l0,l1,l2,l3]
 clear l0 l1 l2 l3
 go_enter Tryd.func72,Tryd.ntmps72
 go_wp2
 exact bodyPost_ret (results_cell_row rfl _ _ w.heap.size 24 #[.int .u64 4309448131093880907,.int .u64 7285987128567378166,.int .u64 12964664127075681980,.int .u64 6540974713487397863] (0,0) _ rfl (heap_alloc_last w _) Tryd.underlying24 rfl (by kernel_rfl)) rfl ⟨rfl,(Below.refl _ _).alloc (Nat.le_refl _) _⟩
theorem isz_calls (X : Nat) (hX : X < top) (w : World) :
  Calls Tryd.prog 70 #[nv X] w fun e w' => e = .returned (.bool (decide (X = 0))) ∧ Ext w w':=by
 unfold nv nc
 have kq:=fun W => eql_zero hX W
 obtain ⟨q,hq⟩ : ∃ q,q = decide (X = 0):=⟨_,rfl⟩
 rw [← hq] at kq ⊢
 have hA : (w.alloc (.cells #[.int .u64 (wd X 0),.int .u64 (wd X 1),.int .u64 (wd X 2),.int .u64 (wd X 3)] 24)).rowIs w.heap.size 24 4 (fun j => .int .u64 (wd X j)):=zap (n:=4) (by simp) rfl (arr4 fun j => .int .u64 (wd X j))
 obtain ⟨c0,c1,c2,c3⟩:=zan hA
 clear hq hX hA
 go_enter Tryd.func70,Tryd.ntmps70
 go_wp2
 go_ret
 exact ⟨rfl,(Below.refl _ _).alloc (Nat.le_refl _) _⟩
theorem isz_no {X : Nat} (h : X ≠ 0) (hX : X < top) (w : World) : Calls Tryd.prog 70 #[nv X] w fun e w' => e = .returned (.bool false) ∧ Ext w w':=by
 have k:=isz_calls X hX w
 rwa [decide_eq_false h] at k
theorem zhe {X : Nat} (h : X = 0) (w : World) : Calls Tryd.prog 70 #[nv X] w fun e w' => e = .returned (.bool true) ∧ Ext w w':=by
 have k:=isz_calls X (by rw [h]; exact Nat.two_pow_pos 256) w
 rwa [decide_eq_true h] at k
section
variable {P : Program} {o : Oper} {a : Act} {w : World}
end
theorem cmp_in {X : Nat} (h : X < Pt.pp) (w : World) : Calls Tryd.prog 47 #[nv X,nv Pt.pp] w fun e w' => e = .returned (.int .i64 (-1)) ∧ Ext w w' :=
 kcmp X Pt.pp (-1) (by unfold cmpN; rw [if_pos h]) (Nat.lt_trans h zgk) zgk w
theorem cmp_no {X : Nat} (hX : X < top) (w : World) : Calls Tryd.prog 47 #[nv X,nv Pt.pp] w fun e w' => e = .returned (.int .i64 (cmpN X Pt.pp)) ∧ Ext w w' :=
 kcmp X Pt.pp _ rfl hX zgk w
theorem cmp_no_ge {X : Nat} (h : ¬ X < Pt.pp) : decide (0 ≤ cmpN X Pt.pp) = true:=by
 have:=cmp_ge X Pt.pp
 simp only [this,h,not_false_eq_true,decide_true]
theorem pP_is (w : World) : Calls Tryd.prog 68 #[] w fun e w' => e = .returned (nv Pt.pp) ∧ Ext w w':=pP_calls w
theorem bb_is (w : World) : Calls Tryd.prog 72 #[] w fun e w' => e = .returned (nv (Pt.F Pt.bb : Fe).val) ∧ Ext w w':=by
 have h : (Pt.F Pt.bb : Fe).val = Pt.bb:=Nat.mod_eq_of_lt bb_lt
 rw [h]
 exact bb_calls w
theorem zgb (w : World) : Calls Tryd.prog 36 #[] w fun e w' => ∃ b,e = .returned (cv b) ∧ Fp w' b ∧ Ext w w':=by
 have hp : Pt.pp % 2 = 1:=by decide +kernel
 have hp2 : 2 < Pt.pp:=by decide +kernel
 have K1:=veil (fun W => new_good Pt.pp hp hp2 zgk W)
 have K0:=veil pP_calls
 clear hp hp2
 generalize hM : Pt.pp = M at K0 K1
 go_enter Tryd.func36,Tryd.ntmps36
 go_wp2_with fail
 refine (K0.out _).mono ?_
 rintro e w1 ⟨rfl,hb1⟩
 go_wp2_with fail
 refine (K1.out _).mono ?_
 rintro e w2 ⟨⟨b,N,Q,hK,hF,hle,rfl⟩,hb2⟩
 have hx : Ext w w2:=(Ext.alloc w _).trans (Ext.trans hb1 hb2)
 have hf : Fp w2 b:=⟨N,Q,hM ▸ hK,hM ▸ hF⟩
 have b0 : w2.heap[w.heap.size]? = some (.cells #[.nilFunc,.nilFunc,.nilFunc,.nilFunc] 75 (0,0)):=Ext.block (Ext.trans hb1 hb2) (zdp (w:=w) rfl)
 have hne : w.heap.size < b:=by have h1:=hb1.size; simp at h1; omega
 clear hK hF hM K0 K1 hb1 hb2 hle
 go_upto_region 2 with (fail)
 refine' zaj (m:=9) (A:=_) (by kernel_rfl) ?h1 ?h2
 case h1 =>
  refine zaa (ptrTo b) rfl (zae (.inl rfl) rfl) ?_;simp only [aP,lA,lZ,lS]
  refine zaa (fv 67 b) rfl (zgf rfl rfl) ?_;simp only [aP,lA,lZ,lS]
  refine zaa (ptrTo b) rfl (zae (.inl rfl) rfl) ?_;simp only [aP,lA,lZ,lS]
  refine zaa (fv 69 b) rfl (zgf rfl rfl) ?_;simp only [aP,lA,lZ,lS]
  refine zaa (ptrTo b) rfl (zae (.inl rfl) rfl) ?_;simp only [aP,lA,lZ,lS]
  refine zaa (fv 33 b) rfl (zgf rfl rfl) ?_;simp only [aP,lA,lZ,lS]
  refine zaa (ptrTo b) rfl (zae (.inl rfl) rfl) ?_;simp only [aP,lA,lZ,lS]
  refine zaa (fv 31 b) rfl (zgf rfl rfl) ?_;simp only [aP,lA,lZ,lS]
  refine zaa (cv b) rfl (zau (vs:=[(0,fv 67 b),(1,fv 69 b),(2,fv 33 b),(3,fv 31 b)]) rfl rfl (fun W => bldK W _)) ?_;simp only [aP,lA,lZ,lS]
  exact zah
 refine zbj _ rfl rfl rfl rfl rfl rfl b0 (iK _) rfl (cc_one _) ?_
 intro w3 hB hb
 go_wp2
 have hf' : Fp w3 b:=by
  obtain ⟨N,Q,h1,h2⟩:=hf
  exact ⟨N,Q,h1,h2.of_block (hB.block b h2.lt (by intro e; simp at e; omega))⟩
 exact bodyPost_ret (results_cell_row rfl _ _ w.heap.size 75 (cc b) (0,0) _ rfl hb Tryd.underlying75 rfl (by kernel_rfl)) rfl ⟨b,rfl,hf',hx.new hB (Nat.le_refl _)⟩
theorem lift_far (x y : Nat) (w : World) :
  Calls Tryd.prog 48 #[qv x y true] w fun e w' => e = .returned (sv 0 0 0) ∧ Ext w w':=by
 unfold qv qc
 go_enter Tryd.func48,Tryd.ntmps48
 go_upto_region 1 with (fail)
 obtain ⟨hx,b0,b1⟩:=blocks2 w (.cells #[.int .u64 (wd x 0),.int .u64 (wd x 1),.int .u64 (wd x 2),.int .u64 (wd x 3),.int .u64 (wd y 0),.int .u64 (wd y 1),.int .u64 (wd y 2),.int .u64 (wd y 3),.bool (true)] 40) (.cells #[.int .u64 0,.int .u64 0,.int .u64 0,.int .u64 0,.int .u64 0,.int .u64 0,.int .u64 0,.int .u64 0,.int .u64 0,.int .u64 0,.int .u64 0,.int .u64 0] 88)
 generalize (w.alloc (.cells #[.int .u64 (wd x 0),.int .u64 (wd x 1),.int .u64 (wd x 2),.int .u64 (wd x 3),.int .u64 (wd y 0),.int .u64 (wd y 1),.int .u64 (wd y 2),.int .u64 (wd y 3),.bool (true)] 40)).alloc (.cells #[.int .u64 0,.int .u64 0,.int .u64 0,.int .u64 0,.int .u64 0,.int .u64 0,.int .u64 0,.int .u64 0,.int .u64 0,.int .u64 0,.int .u64 0,.int .u64 0] 88) = w1 at *
 have b0 : w1.heap[w.heap.size]? = some (.cells (qc x y true) 40 (0,0)):=b0
 refine' zaj (m:=2) (A:=_) (by kernel_rfl) ?h1 ?h2
 case h1 =>
  refine zaa (.pointer (some ⟨w.heap.size,8,none⟩)) rfl (zad rfl rfl (fldT2 _ ·)) ?_;simp only [aP,lA,lZ,lS]
  refine zaa (.bool true) rfl (zai rfl rfl b0 rfl (zbr ·)) ?_;simp only [aP,lA,lZ,lS]
  exact zah
 refine zam rfl ?_
 intro w2 hE
 replace b1:=hE.block b1
 replace hx:=hx.trans hE
 clear hE
 go_upto_region 2 with (fail)
 refine' zaj (m:=1) (A:=_) (by kernel_rfl) ?h2a ?h2b
 case h2a =>
  refine zaa (sv 0 0 0) rfl (zau rfl rfl (bldS0 ·)) ?_;simp only [aP,lA,lZ,lS]
  exact zah
 refine zbj _ rfl rfl rfl rfl rfl rfl b1 (iS _ _ _) rfl (zen _ _ _) ?_
 intro w3 hB hb
 go_wp2
 exact bodyPost_ret (results_cell_row rfl _ _ (w.heap.size + 1) 88 (sc 0 0 0) (0,0) _ rfl hb Tryd.underlying88 rfl (by kernel_rfl)) rfl ⟨rfl,hx.new hB (by omega)⟩
theorem lift_near (x y : Nat) (w : World) :
  Calls Tryd.prog 48 #[qv x y false] w fun e w' => e = .returned (sv x y 1) ∧ Ext w w':=by
 unfold qv qc
 go_enter Tryd.func48,Tryd.ntmps48
 go_upto_region 1 with (fail)
 obtain ⟨hx,b0,b1⟩:=blocks2 w (.cells #[.int .u64 (wd x 0),.int .u64 (wd x 1),.int .u64 (wd x 2),.int .u64 (wd x 3),.int .u64 (wd y 0),.int .u64 (wd y 1),.int .u64 (wd y 2),.int .u64 (wd y 3),.bool (false)] 40) (.cells #[.int .u64 0,.int .u64 0,.int .u64 0,.int .u64 0,.int .u64 0,.int .u64 0,.int .u64 0,.int .u64 0,.int .u64 0,.int .u64 0,.int .u64 0,.int .u64 0] 88)
 generalize (w.alloc (.cells #[.int .u64 (wd x 0),.int .u64 (wd x 1),.int .u64 (wd x 2),.int .u64 (wd x 3),.int .u64 (wd y 0),.int .u64 (wd y 1),.int .u64 (wd y 2),.int .u64 (wd y 3),.bool (false)] 40)).alloc (.cells #[.int .u64 0,.int .u64 0,.int .u64 0,.int .u64 0,.int .u64 0,.int .u64 0,.int .u64 0,.int .u64 0,.int .u64 0,.int .u64 0,.int .u64 0,.int .u64 0] 88) = w1 at *
 have b0 : w1.heap[w.heap.size]? = some (.cells (qc x y false) 40 (0,0)):=b0
 refine' zaj (m:=2) (A:=_) (by kernel_rfl) ?h1 ?h2
 case h1 =>
  refine zaa (.pointer (some ⟨w.heap.size,8,none⟩)) rfl (zad rfl rfl (fldT2 _ ·)) ?_;simp only [aP,lA,lZ,lS]
  refine zaa (.bool false) rfl (zai rfl rfl b0 rfl (zbr ·)) ?_;simp only [aP,lA,lZ,lS]
  exact zah
 refine zam rfl ?_
 intro w2 hE
 replace b0:=hE.block b0
 replace b1:=hE.block b1
 replace hx:=hx.trans hE
 clear hE
 go_upto_region 3 with (fail)
 refine' zaj (m:=6) (A:=_) (by kernel_rfl) ?h2a ?h2b
 case h2a =>
  refine zaa (ptrTo w.heap.size) rfl (zad rfl rfl (fldT0 _ ·)) ?_;simp only [aP,lA,lZ,lS]
  refine zaa (nv x) rfl (zac rfl rfl b0 rfl uN rfl (iN _)) ?_;simp only [aP,lA,lZ,lS]
  refine zaa (.pointer (some ⟨w.heap.size,4,none⟩)) rfl (zad rfl rfl (fldT1 _ ·)) ?_;simp only [aP,lA,lZ,lS]
  refine zaa (nv y) rfl (zac rfl rfl b0 rfl uN rfl (iN _)) ?_;simp only [aP,lA,lZ,lS]
  refine zaa (nv 1) rfl (zau (vs:=[(0,.int .u64 1)]) rfl rfl (bldN1 ·)) ?_;simp only [aP,lA,lZ,lS]
  refine zaa (sv x y 1) rfl (zau (vs:=[(0,nv x),(1,nv y),(2,nv 1)]) rfl rfl (fun W => bldS W _ _ _)) ?_;simp only [aP,lA,lZ,lS]
  exact zah
 refine zbj _ rfl rfl rfl rfl rfl rfl b1 (iS _ _ _) rfl (zen _ _ _) ?_
 intro w3 hB hb
 go_wp2
 exact bodyPost_ret (results_cell_row rfl _ _ (w.heap.size + 1) 88 (sc x y 1) (0,0) _ rfl hb Tryd.underlying88 rfl (by kernel_rfl)) rfl ⟨rfl,hx.new hB (by omega)⟩
theorem zgu (w : World) :
  Calls Tryd.prog 26 #[] w fun e w' => e = .returned (qv Pt.gx Pt.gy false) ∧ Ext w w':=by
 unfold qv qc
 go_enter Tryd.func26,Tryd.ntmps26
 go_upto_region 1 with (fail)
 obtain ⟨hx,b0⟩:=blocks1 w (.cells #[.int .u64 0,.int .u64 0,.int .u64 0,.int .u64 0,.int .u64 0,.int .u64 0,.int .u64 0,.int .u64 0,.bool false] 40)
 generalize w.alloc (.cells #[.int .u64 0,.int .u64 0,.int .u64 0,.int .u64 0,.int .u64 0,.int .u64 0,.int .u64 0,.int .u64 0,.bool false] 40) = w1 at *
 refine' zaj (m:=3) (A:=_) (by kernel_rfl) ?h1 ?h2
 case h1 =>
  refine zaa (nv Pt.gx) rfl (zau (vs:=[(0,.int .u64 17627433388654248598),(1,.int .u64 8575836109218198432),(2,.int .u64 17923454489921339634),(3,.int .u64 7716867327612699207)]) rfl rfl (bldGx ·)) ?_;simp only [aP,lA,lZ,lS]
  refine zaa (nv Pt.gy) rfl (zau (vs:=[(0,.int .u64 14678990851816772085),(1,.int .u64 3156516839386865358),(2,.int .u64 10297457778147434006),(3,.int .u64 5756518291402817435)]) rfl rfl (bldGy ·)) ?_;simp only [aP,lA,lZ,lS]
  refine zaa (qv Pt.gx Pt.gy false) rfl (zau (vs:=[(0,nv Pt.gx),(1,nv Pt.gy)]) rfl rfl (fun W => bldT W _ _)) ?_;simp only [aP,lA,lZ,lS]
  exact zah
 refine zbj _ rfl rfl rfl rfl rfl rfl b0 (iT _ _ _) rfl (zdd _ _ _) ?_
 intro w2 hB hb
 go_wp2
 exact bodyPost_ret (results_cell_row rfl _ _ (w.heap.size) 40 (qc Pt.gx Pt.gy false) (0,0) _ rfl hb Tryd.underlying40 rfl (by kernel_rfl)) rfl ⟨rfl,hx.new hB (by omega)⟩
theorem flat_far {b : Nat} (x y : Nat) {w : World} (hF : Fp w b) :
  Calls Tryd.prog 53 #[cv b,sv x y 0] w fun e w' => e = .returned (qv 0 0 true) ∧ Ext w w':=by
 unfold cv sv cc fv sc
 go_enter Tryd.func53,Tryd.ntmps53
 go_upto_region 1 with (fail)
 obtain ⟨hx,b0,b1,b2⟩:=blocks3 w (.cells #[.func (.func 67) #[ptrTo b] #[],.func (.func 69) #[ptrTo b] #[],.func (.func 33) #[ptrTo b] #[],.func (.func 31) #[ptrTo b] #[]] 75) (.cells #[.int .u64 (wd x 0),.int .u64 (wd x 1),.int .u64 (wd x 2),.int .u64 (wd x 3),.int .u64 (wd y 0),.int .u64 (wd y 1),.int .u64 (wd y 2),.int .u64 (wd y 3),.int .u64 (wd 0 0),.int .u64 (wd 0 1),.int .u64 (wd 0 2),.int .u64 (wd 0 3)] 88) (.cells #[.int .u64 0,.int .u64 0,.int .u64 0,.int .u64 0,.int .u64 0,.int .u64 0,.int .u64 0,.int .u64 0,.bool false] 40)
 generalize ((w.alloc (.cells #[.func (.func 67) #[ptrTo b] #[],.func (.func 69) #[ptrTo b] #[],.func (.func 33) #[ptrTo b] #[],.func (.func 31) #[ptrTo b] #[]] 75)).alloc (.cells #[.int .u64 (wd x 0),.int .u64 (wd x 1),.int .u64 (wd x 2),.int .u64 (wd x 3),.int .u64 (wd y 0),.int .u64 (wd y 1),.int .u64 (wd y 2),.int .u64 (wd y 3),.int .u64 (wd 0 0),.int .u64 (wd 0 1),.int .u64 (wd 0 2),.int .u64 (wd 0 3)] 88)).alloc (.cells #[.int .u64 0,.int .u64 0,.int .u64 0,.int .u64 0,.int .u64 0,.int .u64 0,.int .u64 0,.int .u64 0,.bool false] 40) = w1 at *
 have b0 : w1.heap[w.heap.size]? = some (.cells (cc b) 75 (0,0)):=b0
 have b1 : w1.heap[w.heap.size + 1]? = some (.cells (sc x y 0) 88 (0,0)):=b1
 have hf:=hF.ext hx
 clear hF
 refine' zaj (m:=8) (A:=_) (by kernel_rfl) ?h1 ?h2
 case h1 =>
  refine zaa (.pointer (some ⟨w.heap.size,3,none⟩)) rfl (zad rfl rfl (fldK3 _ ·)) ?_;simp only [aP,lA,lZ,lS]
  refine zaa (fv 31 b) rfl (zai rfl rfl b0 rfl (isn_inv ·)) ?_;simp only [aP,lA,lZ,lS]
  refine zaa (.pointer (some ⟨w.heap.size + 1,8,none⟩)) rfl (zad rfl rfl (fldS2 _ ·)) ?_;simp only [aP,lA,lZ,lS]
  refine zaa (nv 0) rfl (zac rfl rfl b1 rfl uN rfl (iN _)) ?_;simp only [aP,lA,lZ,lS]
  refine zaa (.tuple #[nv 0,.iface 34 (.int .i64 4)]) rfl (zav (args:=[nv 0]) rfl rfl rfl (he_kInv _ ·) (fun W hW => kinv_z (hf.ext hW))) ?_;simp only [aP,lA,lZ,lS]
  refine zaa (.tuple #[nv 0,.iface 34 (.int .i64 4)]) rfl (zae (.inl rfl) rfl) ?_;simp only [aP,lA,lZ,lS]
  refine zaa (nv 0) rfl (zar rfl rfl rfl) ?_;simp only [aP,lA,lZ,lS]
  refine zaa (.iface 34 (.int .i64 4)) rfl (zar rfl rfl rfl) ?_;simp only [aP,lA,lZ,lS]
  exact zah
 refine zbf _ _ rfl rfl rfl rfl rfl rfl rfl (hzN ·) (fun _ => rfl) (fun _ => rfl) (iN _) rfl (zbe _) ?_
 intro gt w2 hgt bt hE
 replace b2:=hE.block b2
 replace hf:=hf.ext hE
 replace hx:=hx.trans hE
 clear hE
 simp only [aP,lA,lZ,lS]
 clear hgt
 go_upto_region 3 with (fail)
 refine' zaj (m:=1) (A:=_) (by kernel_rfl) ?h2a ?h2b
 case h2a =>
  refine zaa (qv 0 0 true) rfl (zau rfl rfl (bldTF ·)) ?_;simp only [aP,lA,lZ,lS]
  exact zah
 refine zbj _ rfl rfl rfl rfl rfl rfl b2 (iT _ _ _) rfl (zdd _ _ _) ?_
 intro w3 hB hb
 go_wp2
 exact bodyPost_ret (results_cell_row rfl _ _ (w.heap.size + 1 + 1) 40 (qc 0 0 true) (0,0) _ rfl hb Tryd.underlying40 rfl (by kernel_rfl)) rfl ⟨rfl,hx.new hB (by omega)⟩
def flat2 (x y z : Fe) : Fe × Fe:=(x * (Pt.E256.inv z * Pt.E256.inv z),y * (Pt.E256.inv z * Pt.E256.inv z * Pt.E256.inv z))
theorem flat_near {b : Nat} (x y z : Fe) (hz : z ≠ 0) {w : World} (hF : Fp w b) :
  Calls Tryd.prog 53 #[cv b,sv x.val y.val z.val] w fun e w' => e = .returned (qv (flat2 x y z).1.val (flat2 x y z).2.val false) ∧ Ext w w':=by
 obtain ⟨iv,hiv⟩ : ∃ t : Fe,t = Pt.E256.inv z:=⟨_,rfl⟩
 obtain ⟨sq,hsq⟩ : ∃ t : Fe,t = iv * iv:=⟨_,rfl⟩
 obtain ⟨X,hX⟩ : ∃ t : Fe,t = x * sq:=⟨_,rfl⟩
 obtain ⟨cb,hcb⟩ : ∃ t : Fe,t = sq * iv:=⟨_,rfl⟩
 obtain ⟨Y,hY⟩ : ∃ t : Fe,t = y * cb:=⟨_,rfl⟩
 have hfin : flat2 x y z = (X,Y):=by
  unfold flat2
  rw [hY,hcb,hX,hsq,hiv]
 rw [hfin]
 clear hfin
 have kiv:=veil hiv
 have ksq:=veil hsq
 have kX:=veil hX
 have kcb:=veil hcb
 have kY:=veil hY
 clear hY hcb hX hsq hiv
 have kz0:=veil hz
 clear hz
 show Calls Tryd.prog 53 #[cv b,sv x.val y.val z.val] w fun e w' => e = .returned (qv X.val Y.val false) ∧ Ext w w'
 unfold cv sv cc fv sc
 go_enter Tryd.func53,Tryd.ntmps53
 go_upto_region 1 with (fail)
 obtain ⟨hx,b0,b1,b2⟩:=blocks3 w (.cells #[.func (.func 67) #[ptrTo b] #[],.func (.func 69) #[ptrTo b] #[],.func (.func 33) #[ptrTo b] #[],.func (.func 31) #[ptrTo b] #[]] 75) (.cells #[.int .u64 (wd (x.val) 0),.int .u64 (wd (x.val) 1),.int .u64 (wd (x.val) 2),.int .u64 (wd (x.val) 3),.int .u64 (wd (y.val) 0),.int .u64 (wd (y.val) 1),.int .u64 (wd (y.val) 2),.int .u64 (wd (y.val) 3),.int .u64 (wd (z.val) 0),.int .u64 (wd (z.val) 1),.int .u64 (wd (z.val) 2),.int .u64 (wd (z.val) 3)] 88) (.cells #[.int .u64 0,.int .u64 0,.int .u64 0,.int .u64 0,.int .u64 0,.int .u64 0,.int .u64 0,.int .u64 0,.bool false] 40)
 generalize ((w.alloc (.cells #[.func (.func 67) #[ptrTo b] #[],.func (.func 69) #[ptrTo b] #[],.func (.func 33) #[ptrTo b] #[],.func (.func 31) #[ptrTo b] #[]] 75)).alloc (.cells #[.int .u64 (wd (x.val) 0),.int .u64 (wd (x.val) 1),.int .u64 (wd (x.val) 2),.int .u64 (wd (x.val) 3),.int .u64 (wd (y.val) 0),.int .u64 (wd (y.val) 1),.int .u64 (wd (y.val) 2),.int .u64 (wd (y.val) 3),.int .u64 (wd (z.val) 0),.int .u64 (wd (z.val) 1),.int .u64 (wd (z.val) 2),.int .u64 (wd (z.val) 3)] 88)).alloc (.cells #[.int .u64 0,.int .u64 0,.int .u64 0,.int .u64 0,.int .u64 0,.int .u64 0,.int .u64 0,.int .u64 0,.bool false] 40) = w1 at *
 have b0 : w1.heap[w.heap.size]? = some (.cells (cc b) 75 (0,0)):=b0
 have b1 : w1.heap[w.heap.size + 1]? = some (.cells (sc x.val y.val z.val) 88 (0,0)):=b1
 have hf:=hF.ext hx
 clear hF
 refine' zaj (m:=8) (A:=_) (by kernel_rfl) ?h1 ?h2
 case h1 =>
  refine zaa (.pointer (some ⟨w.heap.size,3,none⟩)) rfl (zad rfl rfl (fldK3 _ ·)) ?_;simp only [aP,lA,lZ,lS]
  refine zaa (fv 31 b) rfl (zai rfl rfl b0 rfl (isn_inv ·)) ?_;simp only [aP,lA,lZ,lS]
  refine zaa (.pointer (some ⟨w.heap.size + 1,8,none⟩)) rfl (zad rfl rfl (fldS2 _ ·)) ?_;simp only [aP,lA,lZ,lS]
  refine zaa (nv z.val) rfl (zac rfl rfl b1 rfl uN rfl (iN _)) ?_;simp only [aP,lA,lZ,lS]
  refine zaa (.tuple #[nv iv.val,.nilIface]) rfl (zav (args:=[nv z.val]) rfl rfl rfl (he_kInv _ ·) (fun W hW => kinv_p kz0.out kiv.out (hf.ext hW))) ?_;simp only [aP,lA,lZ,lS]
  refine zaa (.tuple #[nv iv.val,.nilIface]) rfl (zae (.inl rfl) rfl) ?_;simp only [aP,lA,lZ,lS]
  refine zaa (nv iv.val) rfl (zar rfl rfl rfl) ?_;simp only [aP,lA,lZ,lS]
  refine zaa (.nilIface) rfl (zar rfl rfl rfl) ?_;simp only [aP,lA,lZ,lS]
  exact zah
 refine zbf _ _ rfl rfl rfl rfl rfl rfl rfl (hzN ·) (fun _ => rfl) (fun _ => rfl) (iN _) rfl (zbe _) ?_
 intro gt w2 hgt bt hE
 replace b0:=hE.block b0
 replace b1:=hE.block b1
 replace b2:=hE.block b2
 replace hf:=hf.ext hE
 replace hx:=hx.trans hE
 clear hE
 simp only [aP,lA,lZ,lS]
 clear hgt
 go_upto_region 4 with (fail)
 refine' zaj (m:=5) (A:=_) (by kernel_rfl) ?h2a ?h2b
 case h2a =>
  refine zaa (.pointer (some ⟨w.heap.size,2,none⟩)) rfl (zad rfl rfl (fldK2 _ ·)) ?_;simp only [aP,lA,lZ,lS]
  refine zaa (fv 33 b) rfl (zai rfl rfl b0 rfl (zas ·)) ?_;simp only [aP,lA,lZ,lS]
  refine zaa (nv iv.val) rfl (zac rfl rfl bt rfl uN rfl (iN _)) ?_;simp only [aP,lA,lZ,lS]
  refine zaa (nv iv.val) rfl (zac rfl rfl bt rfl uN rfl (iN _)) ?_;simp only [aP,lA,lZ,lS]
  refine zaa (nv sq.val) rfl (zav (args:=[nv iv.val,nv iv.val]) rfl rfl rfl (zbg _ ·) (fun W hW => zbk ksq.out (hf.ext hW))) ?_;simp only [aP,lA,lZ,lS]
  exact zah
 refine zcm _ _ rfl rfl rfl rfl rfl rfl rfl (hzN ·) (fun _ => rfl) (fun _ => rfl) (iN _) rfl (zbe _) ?_
 intro gsq w3 hgsq bsq hE
 replace b0:=hE.block b0
 replace b1:=hE.block b1
 replace b2:=hE.block b2
 replace bt:=hE.block bt
 replace hf:=hf.ext hE
 replace hx:=hx.trans hE
 clear hE
 simp only [aP,lA,lZ,lS]
 clear hgsq
 go_upto_region 5 with (fail)
 refine' zbn (m:=17) (A:=_) 17 (by kernel_rfl) (by kernel_rfl) (by kernel_rfl) ?h3a ?h3b
 case h3a =>
  refine zaa (.pointer (some ⟨w.heap.size,2,none⟩)) rfl (zad rfl rfl (fldK2 _ ·)) ?_;simp only [aP,lA,lZ,lS]
  refine zaa (fv 33 b) rfl (zai rfl rfl b0 rfl (zas ·)) ?_;simp only [aP,lA,lZ,lS]
  refine zaa (ptrTo (w.heap.size + 1)) rfl (zad rfl rfl (fldS0 _ ·)) ?_;simp only [aP,lA,lZ,lS]
  refine zaa (nv x.val) rfl (zac rfl rfl b1 rfl uN rfl (iN _)) ?_;simp only [aP,lA,lZ,lS]
  refine zaa (nv sq.val) rfl (zac rfl rfl bsq rfl uN rfl (iN _)) ?_;simp only [aP,lA,lZ,lS]
  refine zaa (nv X.val) rfl (zav (args:=[nv x.val,nv sq.val]) rfl rfl rfl (zbg _ ·) (fun W hW => zbk kX.out (hf.ext hW))) ?_;simp only [aP,lA,lZ,lS]
  refine zaa (.pointer (some ⟨w.heap.size,2,none⟩)) rfl (zad rfl rfl (fldK2 _ ·)) ?_;simp only [aP,lA,lZ,lS]
  refine zaa (fv 33 b) rfl (zai rfl rfl b0 rfl (zas ·)) ?_;simp only [aP,lA,lZ,lS]
  refine zaa (.pointer (some ⟨w.heap.size + 1,4,none⟩)) rfl (zad rfl rfl (fldS1 _ ·)) ?_;simp only [aP,lA,lZ,lS]
  refine zaa (nv y.val) rfl (zac rfl rfl b1 rfl uN rfl (iN _)) ?_;simp only [aP,lA,lZ,lS]
  refine zaa (.pointer (some ⟨w.heap.size,2,none⟩)) rfl (zad rfl rfl (fldK2 _ ·)) ?_;simp only [aP,lA,lZ,lS]
  refine zaa (fv 33 b) rfl (zai rfl rfl b0 rfl (zas ·)) ?_;simp only [aP,lA,lZ,lS]
  refine zaa (nv sq.val) rfl (zac rfl rfl bsq rfl uN rfl (iN _)) ?_;simp only [aP,lA,lZ,lS]
  refine zaa (nv iv.val) rfl (zac rfl rfl bt rfl uN rfl (iN _)) ?_;simp only [aP,lA,lZ,lS]
  refine zaa (nv cb.val) rfl (zav (args:=[nv sq.val,nv iv.val]) rfl rfl rfl (zbg _ ·) (fun W hW => zbk kcb.out (hf.ext hW))) ?_;simp only [aP,lA,lZ,lS]
  refine zaa (nv Y.val) rfl (zav (args:=[nv y.val,nv cb.val]) rfl rfl rfl (zbg _ ·) (fun W hW => zbk kY.out (hf.ext hW))) ?_;simp only [aP,lA,lZ,lS]
  refine zaa (qv X.val Y.val false) rfl (zau (vs:=[(0,nv X.val),(1,nv Y.val)]) rfl rfl (fun W => bldT W _ _)) ?_;simp only [aP,lA,lZ,lS]
  exact zah
 refine zfj _ rfl rfl rfl rfl rfl (by kernel_rfl) (by kernel_rfl) rfl rfl rfl b2 (iT _ _ _) rfl (zdd _ _ _) ?_
 intro w4 hB hb
 refine NoPanic.normal ?_
 go_wp2
 exact bodyPost_ret (results_cell_row rfl _ _ (w.heap.size + 1 + 1) 40 (qc X.val Y.val false) (0,0) _ rfl hb Tryd.underlying40 rfl (by kernel_rfl)) rfl ⟨rfl,hx.new hB (by omega)⟩
theorem on_far0 {b : Nat} (Y : Nat) (hY : Y < top) {w : World} (hF : Fp w b) :
  Calls Tryd.prog 37 #[cv b,qv 0 Y true] w fun e w' => e = .returned (.bool (decide (Y = 0))) ∧ Ext w w':=by
 have kY:=veil hY
 clear hY
 obtain ⟨q,hq⟩ : ∃ q,q = decide (Y = 0):=⟨_,rfl⟩
 rw [← hq]
 have kq:=veil hq
 clear hq
 unfold cv qv cc fv qc
 go_enter Tryd.func37,Tryd.ntmps37
 go_upto_region 1 with (fail)
 obtain ⟨hx,b0,b1⟩:=blocks2 w (.cells #[.func (.func 67) #[ptrTo b] #[],.func (.func 69) #[ptrTo b] #[],.func (.func 33) #[ptrTo b] #[],.func (.func 31) #[ptrTo b] #[]] 75) (.cells #[.int .u64 (wd 0 0),.int .u64 (wd 0 1),.int .u64 (wd 0 2),.int .u64 (wd 0 3),.int .u64 (wd Y 0),.int .u64 (wd Y 1),.int .u64 (wd Y 2),.int .u64 (wd Y 3),.bool (true)] 40)
 generalize (w.alloc (.cells #[.func (.func 67) #[ptrTo b] #[],.func (.func 69) #[ptrTo b] #[],.func (.func 33) #[ptrTo b] #[],.func (.func 31) #[ptrTo b] #[]] 75)).alloc (.cells #[.int .u64 (wd 0 0),.int .u64 (wd 0 1),.int .u64 (wd 0 2),.int .u64 (wd 0 3),.int .u64 (wd Y 0),.int .u64 (wd Y 1),.int .u64 (wd Y 2),.int .u64 (wd Y 3),.bool (true)] 40) = w1 at *
 have b0 : w1.heap[w.heap.size]? = some (.cells (cc b) 75 (0,0)):=b0
 have b1 : w1.heap[w.heap.size + 1]? = some (.cells (qc 0 Y true) 40 (0,0)):=b1
 have hf:=hF.ext hx
 clear hF
 refine' zaj (m:=2) (A:=_) (by kernel_rfl) ?h1 ?h2
 case h1 =>
  refine zaa (.pointer (some ⟨w.heap.size + 1,8,none⟩)) rfl (zad rfl rfl (fldT2 _ ·)) ?_;simp only [aP,lA,lZ,lS]
  refine zaa (.bool true) rfl (zai rfl rfl b1 rfl (zbr ·)) ?_;simp only [aP,lA,lZ,lS]
  exact zah
 refine zam rfl ?_
 intro w2 hE
 replace b1:=hE.block b1
 replace hf:=hf.ext hE
 replace hx:=hx.trans hE
 clear hE
 go_upto_region 2 with (fail)
 refine' zbp (m:=9) (A:=_) ?h2a ?h2b
 case h2a =>
  refine zaa (ptrTo (w.heap.size + 1)) rfl (zad rfl rfl (fldT0 _ ·)) ?_;simp only [aP,lA,lZ,lS]
  refine zaa (nv 0) rfl (zac rfl rfl b1 rfl uN rfl (iN _)) ?_;simp only [aP,lA,lZ,lS]
  refine zaa (.bool true) rfl (zaf (args:=[nv 0]) rfl rfl (fun W => zab Tryd.func70 rfl rfl _ W) (fun W hW => zhe rfl W)) ?_;simp only [aP,lA,lZ,lS]
  refine zaa (.bool true) rfl (zae (.inl rfl) rfl) ?_;simp only [aP,lA,lZ,lS]
  refine zag (.pointer (some ⟨w.heap.size + 1,4,none⟩)) rfl (zad rfl rfl (fldT1 _ ·)) ?_;simp only [aP,lA,lZ,lS]
  refine zag (nv Y) rfl (zac rfl rfl b1 rfl uN rfl (iN _)) ?_;simp only [aP,lA,lZ,lS]
  refine zag (.bool q) rfl (zaf (args:=[nv Y]) rfl rfl (fun W => zab Tryd.func70 rfl rfl _ W) (fun W hW => by rw [kq.out]; exact isz_calls Y kY.out W)) ?_;simp only [aP,lA,lZ,lS]
  refine zaa (.bool q) rfl (zaq rfl rfl rfl) ?_;simp only [aP,lA,lZ,lS]
  refine zaa (.bool q) rfl (zae (.inr rfl) rfl) ?_;simp only [aP,lA,lZ,lS]
  exact zah
 refine zam rfl ?_
 intro w3 hE
 replace hf:=hf.ext hE
 replace hx:=hx.trans hE
 clear hE
 go_wp2
 go_ret
 exact ⟨rfl,hx⟩
theorem on_far1 {b : Nat} (X Y : Nat) (hX : X < top) (h0 : X ≠ 0) {w : World} (hF : Fp w b) :
  Calls Tryd.prog 37 #[cv b,qv X Y true] w fun e w' => e = .returned (.bool false) ∧ Ext w w':=by
 have kX:=veil hX
 have k0:=veil h0
 clear hX h0
 unfold cv qv cc fv qc
 go_enter Tryd.func37,Tryd.ntmps37
 go_upto_region 1 with (fail)
 obtain ⟨hx,b0,b1⟩:=blocks2 w (.cells #[.func (.func 67) #[ptrTo b] #[],.func (.func 69) #[ptrTo b] #[],.func (.func 33) #[ptrTo b] #[],.func (.func 31) #[ptrTo b] #[]] 75) (.cells #[.int .u64 (wd X 0),.int .u64 (wd X 1),.int .u64 (wd X 2),.int .u64 (wd X 3),.int .u64 (wd Y 0),.int .u64 (wd Y 1),.int .u64 (wd Y 2),.int .u64 (wd Y 3),.bool (true)] 40)
 generalize (w.alloc (.cells #[.func (.func 67) #[ptrTo b] #[],.func (.func 69) #[ptrTo b] #[],.func (.func 33) #[ptrTo b] #[],.func (.func 31) #[ptrTo b] #[]] 75)).alloc (.cells #[.int .u64 (wd X 0),.int .u64 (wd X 1),.int .u64 (wd X 2),.int .u64 (wd X 3),.int .u64 (wd Y 0),.int .u64 (wd Y 1),.int .u64 (wd Y 2),.int .u64 (wd Y 3),.bool (true)] 40) = w1 at *
 have b0 : w1.heap[w.heap.size]? = some (.cells (cc b) 75 (0,0)):=b0
 have b1 : w1.heap[w.heap.size + 1]? = some (.cells (qc X Y true) 40 (0,0)):=b1
 have hf:=hF.ext hx
 clear hF
 refine' zaj (m:=2) (A:=_) (by kernel_rfl) ?h1 ?h2
 case h1 =>
  refine zaa (.pointer (some ⟨w.heap.size + 1,8,none⟩)) rfl (zad rfl rfl (fldT2 _ ·)) ?_;simp only [aP,lA,lZ,lS]
  refine zaa (.bool true) rfl (zai rfl rfl b1 rfl (zbr ·)) ?_;simp only [aP,lA,lZ,lS]
  exact zah
 refine zam rfl ?_
 intro w2 hE
 replace b1:=hE.block b1
 replace hf:=hf.ext hE
 replace hx:=hx.trans hE
 clear hE
 go_upto_region 2 with (fail)
 refine' zbp (m:=9) (A:=_) ?h2a ?h2b
 case h2a =>
  refine zaa (ptrTo (w.heap.size + 1)) rfl (zad rfl rfl (fldT0 _ ·)) ?_;simp only [aP,lA,lZ,lS]
  refine zaa (nv X) rfl (zac rfl rfl b1 rfl uN rfl (iN _)) ?_;simp only [aP,lA,lZ,lS]
  refine zaa (.bool false) rfl (zaf (args:=[nv X]) rfl rfl (fun W => zab Tryd.func70 rfl rfl _ W) (fun W hW => isz_no k0.out kX.out W)) ?_;simp only [aP,lA,lZ,lS]
  refine zaa (.bool false) rfl (zae (.inl rfl) rfl) ?_;simp only [aP,lA,lZ,lS]
  refine zaw rfl ?_;simp only [aP,lA,lZ,lS]
  refine zaw rfl ?_;simp only [aP,lA,lZ,lS]
  refine zaw rfl ?_;simp only [aP,lA,lZ,lS]
  refine zaa (.bool false) rfl (zaq rfl rfl rfl) ?_;simp only [aP,lA,lZ,lS]
  refine zaa (.bool false) rfl (zae (.inr rfl) rfl) ?_;simp only [aP,lA,lZ,lS]
  exact zah
 refine zam rfl ?_
 intro w3 hE
 replace hf:=hf.ext hE
 replace hx:=hx.trans hE
 clear hE
 go_wp2
 go_ret
 exact ⟨rfl,hx⟩
theorem on_out {b : Nat} (X Y : Nat) (hX : X < top) (h0 : ¬ X < Pt.pp) {w : World} (hF : Fp w b) :
  Calls Tryd.prog 37 #[cv b,qv X Y false] w fun e w' => e = .returned (.bool false) ∧ Ext w w':=by
 have kX:=veil hX
 have k0:=veil h0
 clear hX h0
 unfold cv qv cc fv qc
 go_enter Tryd.func37,Tryd.ntmps37
 go_upto_region 1 with (fail)
 obtain ⟨hx,b0,b1⟩:=blocks2 w (.cells #[.func (.func 67) #[ptrTo b] #[],.func (.func 69) #[ptrTo b] #[],.func (.func 33) #[ptrTo b] #[],.func (.func 31) #[ptrTo b] #[]] 75) (.cells #[.int .u64 (wd X 0),.int .u64 (wd X 1),.int .u64 (wd X 2),.int .u64 (wd X 3),.int .u64 (wd Y 0),.int .u64 (wd Y 1),.int .u64 (wd Y 2),.int .u64 (wd Y 3),.bool (false)] 40)
 generalize (w.alloc (.cells #[.func (.func 67) #[ptrTo b] #[],.func (.func 69) #[ptrTo b] #[],.func (.func 33) #[ptrTo b] #[],.func (.func 31) #[ptrTo b] #[]] 75)).alloc (.cells #[.int .u64 (wd X 0),.int .u64 (wd X 1),.int .u64 (wd X 2),.int .u64 (wd X 3),.int .u64 (wd Y 0),.int .u64 (wd Y 1),.int .u64 (wd Y 2),.int .u64 (wd Y 3),.bool (false)] 40) = w1 at *
 have b0 : w1.heap[w.heap.size]? = some (.cells (cc b) 75 (0,0)):=b0
 have b1 : w1.heap[w.heap.size + 1]? = some (.cells (qc X Y false) 40 (0,0)):=b1
 have hf:=hF.ext hx
 clear hF
 refine' zaj (m:=2) (A:=_) (by kernel_rfl) ?h1 ?h2
 case h1 =>
  refine zaa (.pointer (some ⟨w.heap.size + 1,8,none⟩)) rfl (zad rfl rfl (fldT2 _ ·)) ?_;simp only [aP,lA,lZ,lS]
  refine zaa (.bool false) rfl (zai rfl rfl b1 rfl (zbr ·)) ?_;simp only [aP,lA,lZ,lS]
  exact zah
 refine zam rfl ?_
 intro w2 hE
 replace b1:=hE.block b1
 replace hf:=hf.ext hE
 replace hx:=hx.trans hE
 clear hE
 go_upto_region 3 with (fail)
 refine' zcc (m:=12) (A:=_) 12 (by kernel_rfl) (by kernel_rfl) ?h2a ?h2b
 case h2a =>
  refine zaa (ptrTo (w.heap.size + 1)) rfl (zad rfl rfl (fldT0 _ ·)) ?_;simp only [aP,lA,lZ,lS]
  refine zaa (nv X) rfl (zac rfl rfl b1 rfl uN rfl (iN _)) ?_;simp only [aP,lA,lZ,lS]
  refine zaa (nv Pt.pp) rfl (zaf (args:=[]) rfl rfl (fun W => zab Tryd.func68 rfl rfl _ W) (fun W hW => pP_is W)) ?_;simp only [aP,lA,lZ,lS]
  refine zaa (.int .i64 (cmpN X Pt.pp)) rfl (zaf (args:=[nv X,nv Pt.pp]) rfl rfl (fun W => zab Tryd.func47 rfl rfl _ W) (fun W hW => cmp_no kX.out W)) ?_;simp only [aP,lA,lZ,lS]
  refine zaa (.bool true) rfl (zfy rfl rfl (cmp_no_ge k0.out)) ?_;simp only [aP,lA,lZ,lS]
  refine zaa (.bool true) rfl (zae (.inl rfl) rfl) ?_;simp only [aP,lA,lZ,lS]
  refine zaw rfl ?_;simp only [aP,lA,lZ,lS]
  refine zaw rfl ?_;simp only [aP,lA,lZ,lS]
  refine zaw rfl ?_;simp only [aP,lA,lZ,lS]
  refine zaw rfl ?_;simp only [aP,lA,lZ,lS]
  refine zaw rfl ?_;simp only [aP,lA,lZ,lS]
  refine zaa (.bool true) rfl (zaq rfl rfl rfl) ?_;simp only [aP,lA,lZ,lS]
  exact zah
 refine zbq rfl (by kernel_rfl) ?_
 intro w3 hE
 refine NoPanic.normal ?_
 replace hf:=hf.ext hE
 replace hx:=hx.trans hE
 clear hE
 go_wp2
 go_ret
 exact ⟨rfl,hx⟩
theorem on_high {b : Nat} (X Y : Nat) (hX : X < Pt.pp) (hY : Y < top) (h0 : ¬ Y < Pt.pp) {w : World} (hF : Fp w b) :
  Calls Tryd.prog 37 #[cv b,qv X Y false] w fun e w' => e = .returned (.bool false) ∧ Ext w w':=by
 have kX:=veil hX
 have kY:=veil hY
 have k0:=veil h0
 clear hX hY h0
 unfold cv qv cc fv qc
 go_enter Tryd.func37,Tryd.ntmps37
 go_upto_region 1 with (fail)
 obtain ⟨hx,b0,b1⟩:=blocks2 w (.cells #[.func (.func 67) #[ptrTo b] #[],.func (.func 69) #[ptrTo b] #[],.func (.func 33) #[ptrTo b] #[],.func (.func 31) #[ptrTo b] #[]] 75) (.cells #[.int .u64 (wd X 0),.int .u64 (wd X 1),.int .u64 (wd X 2),.int .u64 (wd X 3),.int .u64 (wd Y 0),.int .u64 (wd Y 1),.int .u64 (wd Y 2),.int .u64 (wd Y 3),.bool (false)] 40)
 generalize (w.alloc (.cells #[.func (.func 67) #[ptrTo b] #[],.func (.func 69) #[ptrTo b] #[],.func (.func 33) #[ptrTo b] #[],.func (.func 31) #[ptrTo b] #[]] 75)).alloc (.cells #[.int .u64 (wd X 0),.int .u64 (wd X 1),.int .u64 (wd X 2),.int .u64 (wd X 3),.int .u64 (wd Y 0),.int .u64 (wd Y 1),.int .u64 (wd Y 2),.int .u64 (wd Y 3),.bool (false)] 40) = w1 at *
 have b0 : w1.heap[w.heap.size]? = some (.cells (cc b) 75 (0,0)):=b0
 have b1 : w1.heap[w.heap.size + 1]? = some (.cells (qc X Y false) 40 (0,0)):=b1
 have hf:=hF.ext hx
 clear hF
 refine' zaj (m:=2) (A:=_) (by kernel_rfl) ?h1 ?h2
 case h1 =>
  refine zaa (.pointer (some ⟨w.heap.size + 1,8,none⟩)) rfl (zad rfl rfl (fldT2 _ ·)) ?_;simp only [aP,lA,lZ,lS]
  refine zaa (.bool false) rfl (zai rfl rfl b1 rfl (zbr ·)) ?_;simp only [aP,lA,lZ,lS]
  exact zah
 refine zam rfl ?_
 intro w2 hE
 replace b1:=hE.block b1
 replace hf:=hf.ext hE
 replace hx:=hx.trans hE
 clear hE
 go_upto_region 3 with (fail)
 refine' zcc (m:=12) (A:=_) 12 (by kernel_rfl) (by kernel_rfl) ?h2a ?h2b
 case h2a =>
  refine zaa (ptrTo (w.heap.size + 1)) rfl (zad rfl rfl (fldT0 _ ·)) ?_;simp only [aP,lA,lZ,lS]
  refine zaa (nv X) rfl (zac rfl rfl b1 rfl uN rfl (iN _)) ?_;simp only [aP,lA,lZ,lS]
  refine zaa (nv Pt.pp) rfl (zaf (args:=[]) rfl rfl (fun W => zab Tryd.func68 rfl rfl _ W) (fun W hW => pP_is W)) ?_;simp only [aP,lA,lZ,lS]
  refine zaa (.int .i64 (-1)) rfl (zaf (args:=[nv X,nv Pt.pp]) rfl rfl (fun W => zab Tryd.func47 rfl rfl _ W) (fun W hW => cmp_in kX.out W)) ?_;simp only [aP,lA,lZ,lS]
  refine zaa (.bool false) rfl (zfy rfl rfl (by decide)) ?_;simp only [aP,lA,lZ,lS]
  refine zaa (.bool false) rfl (zae (.inl rfl) rfl) ?_;simp only [aP,lA,lZ,lS]
  refine zag (.pointer (some ⟨w.heap.size + 1,4,none⟩)) rfl (zad rfl rfl (fldT1 _ ·)) ?_;simp only [aP,lA,lZ,lS]
  refine zag (nv Y) rfl (zac rfl rfl b1 rfl uN rfl (iN _)) ?_;simp only [aP,lA,lZ,lS]
  refine zag (nv Pt.pp) rfl (zaf (args:=[]) rfl rfl (fun W => zab Tryd.func68 rfl rfl _ W) (fun W hW => pP_is W)) ?_;simp only [aP,lA,lZ,lS]
  refine zag (.int .i64 (cmpN Y Pt.pp)) rfl (zaf (args:=[nv Y,nv Pt.pp]) rfl rfl (fun W => zab Tryd.func47 rfl rfl _ W) (fun W hW => cmp_no kY.out W)) ?_;simp only [aP,lA,lZ,lS]
  refine zag (.bool true) rfl (zfy rfl rfl (cmp_no_ge k0.out)) ?_;simp only [aP,lA,lZ,lS]
  refine zaa (.bool true) rfl (zaq rfl rfl rfl) ?_;simp only [aP,lA,lZ,lS]
  exact zah
 refine zbq rfl (by kernel_rfl) ?_
 intro w3 hE
 refine NoPanic.normal ?_
 replace hf:=hf.ext hE
 replace hx:=hx.trans hE
 clear hE
 go_wp2
 go_ret
 exact ⟨rfl,hx⟩
theorem on_near {b : Nat} (x y : Fe) {w : World} (hF : Fp w b) :
  Calls Tryd.prog 37 #[cv b,qv x.val y.val false] w fun e w' => e = .returned (.bool (decide ((y * y).val = (x * x * x - (x + x + x) + Pt.F Pt.bb).val))) ∧ Ext w w':=by
 obtain ⟨sq,hsq⟩ : ∃ t : Fe,t = x * x:=⟨_,rfl⟩
 obtain ⟨cube,hcube⟩ : ∃ t : Fe,t = sq * x:=⟨_,rfl⟩
 obtain ⟨lhs,hlhs⟩ : ∃ t : Fe,t = y * y:=⟨_,rfl⟩
 obtain ⟨tr,htr⟩ : ∃ t : Fe,t = x + x + x:=⟨_,rfl⟩
 obtain ⟨d,hd⟩ : ∃ t : Fe,t = cube - tr:=⟨_,rfl⟩
 obtain ⟨r,hr⟩ : ∃ t : Fe,t = d + Pt.F Pt.bb:=⟨_,rfl⟩
 have hfin : x * x * x - (x + x + x) + Pt.F Pt.bb = r:=by
  subst hr hd htr hlhs hcube hsq
  rfl
 rw [hfin,← hlhs]
 clear hfin
 have ksq:=veil hsq
 have kcube:=veil hcube
 have klhs:=veil hlhs
 have ktr:=veil htr
 have kd:=veil hd
 have kr:=veil hr
 clear hr hd htr hlhs hcube hsq
 have kx:=veil x.isLt
 have ky:=veil y.isLt
 unfold cv qv cc fv qc
 go_enter Tryd.func37,Tryd.ntmps37
 go_upto_region 1 with (fail)
 obtain ⟨hx,b0,b1⟩:=blocks2 w (.cells #[.func (.func 67) #[ptrTo b] #[],.func (.func 69) #[ptrTo b] #[],.func (.func 33) #[ptrTo b] #[],.func (.func 31) #[ptrTo b] #[]] 75) (.cells #[.int .u64 (wd (x.val) 0),.int .u64 (wd (x.val) 1),.int .u64 (wd (x.val) 2),.int .u64 (wd (x.val) 3),.int .u64 (wd (y.val) 0),.int .u64 (wd (y.val) 1),.int .u64 (wd (y.val) 2),.int .u64 (wd (y.val) 3),.bool (false)] 40)
 generalize (w.alloc (.cells #[.func (.func 67) #[ptrTo b] #[],.func (.func 69) #[ptrTo b] #[],.func (.func 33) #[ptrTo b] #[],.func (.func 31) #[ptrTo b] #[]] 75)).alloc (.cells #[.int .u64 (wd (x.val) 0),.int .u64 (wd (x.val) 1),.int .u64 (wd (x.val) 2),.int .u64 (wd (x.val) 3),.int .u64 (wd (y.val) 0),.int .u64 (wd (y.val) 1),.int .u64 (wd (y.val) 2),.int .u64 (wd (y.val) 3),.bool (false)] 40) = w1 at *
 have b0 : w1.heap[w.heap.size]? = some (.cells (cc b) 75 (0,0)):=b0
 have b1 : w1.heap[w.heap.size + 1]? = some (.cells (qc x.val y.val false) 40 (0,0)):=b1
 have hf:=hF.ext hx
 clear hF
 refine' zaj (m:=2) (A:=_) (by kernel_rfl) ?h1 ?h2
 case h1 =>
  refine zaa (.pointer (some ⟨w.heap.size + 1,8,none⟩)) rfl (zad rfl rfl (fldT2 _ ·)) ?_;simp only [aP,lA,lZ,lS]
  refine zaa (.bool false) rfl (zai rfl rfl b1 rfl (zbr ·)) ?_;simp only [aP,lA,lZ,lS]
  exact zah
 refine zam rfl ?_
 intro w2 hE
 replace b0:=hE.block b0
 replace b1:=hE.block b1
 replace hf:=hf.ext hE
 replace hx:=hx.trans hE
 clear hE
 go_upto_region 3 with (fail)
 refine' zcc (m:=12) (A:=_) 12 (by kernel_rfl) (by kernel_rfl) ?h2a ?h2b
 case h2a =>
  refine zaa (ptrTo (w.heap.size + 1)) rfl (zad rfl rfl (fldT0 _ ·)) ?_;simp only [aP,lA,lZ,lS]
  refine zaa (nv x.val) rfl (zac rfl rfl b1 rfl uN rfl (iN _)) ?_;simp only [aP,lA,lZ,lS]
  refine zaa (nv Pt.pp) rfl (zaf (args:=[]) rfl rfl (fun W => zab Tryd.func68 rfl rfl _ W) (fun W hW => pP_is W)) ?_;simp only [aP,lA,lZ,lS]
  refine zaa (.int .i64 (-1)) rfl (zaf (args:=[nv x.val,nv Pt.pp]) rfl rfl (fun W => zab Tryd.func47 rfl rfl _ W) (fun W hW => cmp_in kx.out W)) ?_;simp only [aP,lA,lZ,lS]
  refine zaa (.bool false) rfl (zfy rfl rfl (by decide)) ?_;simp only [aP,lA,lZ,lS]
  refine zaa (.bool false) rfl (zae (.inl rfl) rfl) ?_;simp only [aP,lA,lZ,lS]
  refine zag (.pointer (some ⟨w.heap.size + 1,4,none⟩)) rfl (zad rfl rfl (fldT1 _ ·)) ?_;simp only [aP,lA,lZ,lS]
  refine zag (nv y.val) rfl (zac rfl rfl b1 rfl uN rfl (iN _)) ?_;simp only [aP,lA,lZ,lS]
  refine zag (nv Pt.pp) rfl (zaf (args:=[]) rfl rfl (fun W => zab Tryd.func68 rfl rfl _ W) (fun W hW => pP_is W)) ?_;simp only [aP,lA,lZ,lS]
  refine zag (.int .i64 (-1)) rfl (zaf (args:=[nv y.val,nv Pt.pp]) rfl rfl (fun W => zab Tryd.func47 rfl rfl _ W) (fun W hW => cmp_in ky.out W)) ?_;simp only [aP,lA,lZ,lS]
  refine zag (.bool false) rfl (zfy rfl rfl (by decide)) ?_;simp only [aP,lA,lZ,lS]
  refine zaa (.bool false) rfl (zaq rfl rfl rfl) ?_;simp only [aP,lA,lZ,lS]
  exact zah
 refine zbq rfl (by kernel_rfl) ?_
 intro w3 hE
 refine NoPanic.normal ?_
 replace b0:=hE.block b0
 replace b1:=hE.block b1
 replace hf:=hf.ext hE
 replace hx:=hx.trans hE
 clear hE
 go_upto_region 5 with (fail)
 refine' zbn (m:=12) (A:=_) 13 (by kernel_rfl) (by kernel_rfl) (by kernel_rfl) ?h3a ?h3b
 case h3a =>
  refine zaa (.pointer (some ⟨w.heap.size,2,none⟩)) rfl (zad rfl rfl (fldK2 _ ·)) ?_;simp only [aP,lA,lZ,lS]
  refine zaa (fv 33 b) rfl (zai rfl rfl b0 rfl (zas ·)) ?_;simp only [aP,lA,lZ,lS]
  refine zaa (.pointer (some ⟨w.heap.size,2,none⟩)) rfl (zad rfl rfl (fldK2 _ ·)) ?_;simp only [aP,lA,lZ,lS]
  refine zaa (fv 33 b) rfl (zai rfl rfl b0 rfl (zas ·)) ?_;simp only [aP,lA,lZ,lS]
  refine zaa (ptrTo (w.heap.size + 1)) rfl (zad rfl rfl (fldT0 _ ·)) ?_;simp only [aP,lA,lZ,lS]
  refine zaa (nv x.val) rfl (zac rfl rfl b1 rfl uN rfl (iN _)) ?_;simp only [aP,lA,lZ,lS]
  refine zaa (ptrTo (w.heap.size + 1)) rfl (zad rfl rfl (fldT0 _ ·)) ?_;simp only [aP,lA,lZ,lS]
  refine zaa (nv x.val) rfl (zac rfl rfl b1 rfl uN rfl (iN _)) ?_;simp only [aP,lA,lZ,lS]
  refine zaa (nv sq.val) rfl (zav (args:=[nv x.val,nv x.val]) rfl rfl rfl (zbg _ ·) (fun W hW => zbk ksq.out (hf.ext hW))) ?_;simp only [aP,lA,lZ,lS]
  refine zaa (ptrTo (w.heap.size + 1)) rfl (zad rfl rfl (fldT0 _ ·)) ?_;simp only [aP,lA,lZ,lS]
  refine zaa (nv x.val) rfl (zac rfl rfl b1 rfl uN rfl (iN _)) ?_;simp only [aP,lA,lZ,lS]
  refine zaa (nv cube.val) rfl (zav (args:=[nv sq.val,nv x.val]) rfl rfl rfl (zbg _ ·) (fun W hW => zbk kcube.out (hf.ext hW))) ?_;simp only [aP,lA,lZ,lS]
  exact zah
 refine zcn _ _ rfl rfl rfl rfl rfl rfl rfl rfl rfl (by kernel_rfl) (by kernel_rfl) (by kernel_rfl) rfl rfl (hzN ·) (fun _ => rfl) (fun _ => rfl) (iN _) rfl (zbe _) ?_
 intro gcube w4 hgcube bcube hE
 refine NoPanic.normal ?_
 replace b0:=hE.block b0
 replace b1:=hE.block b1
 replace hf:=hf.ext hE
 replace hx:=hx.trans hE
 clear hE
 simp only [aP,lA,lZ,lS]
 clear hgcube
 go_upto_region 6 with (fail)
 refine' zbn (m:=21) (A:=_) 21 (by kernel_rfl) (by kernel_rfl) (by kernel_rfl) ?h4a ?h4b
 case h4a =>
  refine zaa (.pointer (some ⟨w.heap.size,2,none⟩)) rfl (zad rfl rfl (fldK2 _ ·)) ?_;simp only [aP,lA,lZ,lS]
  refine zaa (fv 33 b) rfl (zai rfl rfl b0 rfl (zas ·)) ?_;simp only [aP,lA,lZ,lS]
  refine zaa (.pointer (some ⟨w.heap.size + 1,4,none⟩)) rfl (zad rfl rfl (fldT1 _ ·)) ?_;simp only [aP,lA,lZ,lS]
  refine zaa (nv y.val) rfl (zac rfl rfl b1 rfl uN rfl (iN _)) ?_;simp only [aP,lA,lZ,lS]
  refine zaa (.pointer (some ⟨w.heap.size + 1,4,none⟩)) rfl (zad rfl rfl (fldT1 _ ·)) ?_;simp only [aP,lA,lZ,lS]
  refine zaa (nv y.val) rfl (zac rfl rfl b1 rfl uN rfl (iN _)) ?_;simp only [aP,lA,lZ,lS]
  refine zaa (nv lhs.val) rfl (zav (args:=[nv y.val,nv y.val]) rfl rfl rfl (zbg _ ·) (fun W hW => zbk klhs.out (hf.ext hW))) ?_;simp only [aP,lA,lZ,lS]
  refine zaa (ptrTo w.heap.size) rfl (zad rfl rfl (fldK0 _ ·)) ?_;simp only [aP,lA,lZ,lS]
  refine zaa (fv 67 b) rfl (zai rfl rfl b0 rfl (zas ·)) ?_;simp only [aP,lA,lZ,lS]
  refine zaa (.pointer (some ⟨w.heap.size,1,none⟩)) rfl (zad rfl rfl (fldK1 _ ·)) ?_;simp only [aP,lA,lZ,lS]
  refine zaa (fv 69 b) rfl (zai rfl rfl b0 rfl (zas ·)) ?_;simp only [aP,lA,lZ,lS]
  refine zaa (nv cube.val) rfl (zac rfl rfl bcube rfl uN rfl (iN _)) ?_;simp only [aP,lA,lZ,lS]
  refine zaa (cv b) rfl (zac rfl rfl b0 rfl Tryd.underlying75 rfl (iK _)) ?_;simp only [aP,lA,lZ,lS]
  refine zaa (ptrTo (w.heap.size + 1)) rfl (zad rfl rfl (fldT0 _ ·)) ?_;simp only [aP,lA,lZ,lS]
  refine zaa (nv x.val) rfl (zac rfl rfl b1 rfl uN rfl (iN _)) ?_;simp only [aP,lA,lZ,lS]
  refine zaa (nv tr.val) rfl (zaf (args:=[cv b,nv x.val]) rfl rfl (fun W => zab Tryd.func71 rfl rfl _ W) (fun W hW => trp_calls ktr.out (hf.ext hW))) ?_;simp only [aP,lA,lZ,lS]
  refine zaa (nv d.val) rfl (zav (args:=[nv cube.val,nv tr.val]) rfl rfl rfl (zcx _ ·) (fun W hW => zdh kd.out (hf.ext hW))) ?_;simp only [aP,lA,lZ,lS]
  refine zaa (nv ((Pt.F Pt.bb : Fe).val)) rfl (zaf (args:=[]) rfl rfl (fun W => zab Tryd.func72 rfl rfl _ W) (fun W hW => bb_is W)) ?_;simp only [aP,lA,lZ,lS]
  refine zaa (nv r.val) rfl (zav (args:=[nv d.val,nv ((Pt.F Pt.bb : Fe).val)]) rfl rfl rfl (he_kAdd _ ·) (fun W hW => kadd_p kr.out (hf.ext hW))) ?_;simp only [aP,lA,lZ,lS]
  refine zaa (.bool (decide (lhs.val = r.val))) rfl (made_eqn rfl rfl rfl (zdq _) (zdq _)) ?_;simp only [aP,lA,lZ,lS]
  refine zaa (.bool (decide (lhs.val = r.val))) rfl (zae (.inr rfl) rfl) ?_;simp only [aP,lA,lZ,lS]
  exact zah
 refine zbq rfl (by kernel_rfl) ?_
 intro w5 hE
 refine NoPanic.normal ?_
 replace hf:=hf.ext hE
 replace hx:=hx.trans hE
 clear hE
 go_wp2
 go_ret
 exact ⟨rfl,hx⟩
end Go.Proofs.YtmfjigcdhijkjaaDoor
