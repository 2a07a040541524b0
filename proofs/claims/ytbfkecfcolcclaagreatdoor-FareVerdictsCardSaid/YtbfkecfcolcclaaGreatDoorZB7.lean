/-
  Of K9 J2 J0 Ra Pa Ls Svb Svc Nwc Pb Pc Svd Pd.
-/
import Derived.Deep.MidRow
import Derived.Deep.Slices
import Derived.Laws.OwnMore
import Derived.Maps.AppendAt
import Derived.Test.YtbfkecfcolcclaaGreatDoorZB6
import Derived.Test.YtbfkecfcolcclaaGreatDoorZB5
import Derived.Test.YtbfkecfcolcclaaGreatDoorZB1
set_option maxRecDepth 1000000
set_option maxHeartbeats 20000000
namespace Go.Proofs.YtbfkecfcolcclaaGreatDoor
open Go.RowKit
open Go.Value renaming int → vI
open Go.IntKind renaming u64 → vU
open Go.Act renaming put → aP
open List renaming setIfInBounds_toArray → lA, set_cons_zero → lZ, set_cons_succ → lS
def checkB (L : Low) (X Y : Nat) (f : Bool) (bs : List Nat) : Tk × Nat:=match openB bs with
 | none => (⟨0,0,0,0,0⟩,2)
 | some (t,r,s) => if L.vf X Y f (L.dg (tkB t)) r s = true then (t,0) else (⟨0,0,0,0,0⟩,8)
theorem checkB_none {L : Low} {X Y : Nat} {f : Bool} {bs : List Nat} (h : openB bs = none) : checkB L X Y f bs = (⟨0,0,0,0,0⟩,2):=by
 unfold checkB
 rw [h]
theorem zex {L : Low} {X Y : Nat} {f : Bool} {bs : List Nat} {t : Tk} {r s : Nat} (h : openB bs = some (t,r,s)) : checkB L X Y f bs = if L.vf X Y f (L.dg (tkB t)) r s = true then (t,0) else (⟨0,0,0,0,0⟩,8):=by
 unfold checkB
 rw [h]
theorem zaj {P : Program} {fn : Func} {q s : Tmp} {ty : TypeId} (h : fn.results = #[.cell q ty,.tmp s]) (tmps : Array Value) (w : World) (g : Nat) (t : TypeId) (cs : Array Value) (fr : Nat × Nat) (d : TypeDesc)
  (hq : tmps.getD q undef = .pointer (some ⟨g,0,none⟩)) (hg : w.heap[g]? = some (.cells cs t fr)) (hu : P.underlying ty = some d) (hd : d.isRow = true) (hi : (P.info? ty).map (·.size) = some cs.size) :
  (results fn tmps).run P w = .ok (.tuple #[.agg cs,tmps.getD s undef]) w:=by
 have hq' : tmps[q]?.getD undef = .pointer (some ⟨g,0,none⟩):=by simpa using hq
 have hl : (loadVar ty ⟨g,0,none⟩).run P w = .ok (.agg cs) w:=run_loadVar_mid w g 0 ty cs.toList d (fun j v hv => by rw [cell_of_row w g (0 + j) cs t fr hg,Nat.zero_add]; simpa using hv) hu hd (by simpa using hi)
 simp [results,h,hq',asAddr,hl]
theorem openA_all {bs : List Nat} {T G : Array Value} {y : Value} (h : OpenA bs T G y) : ∃ t r s o,T = tkC t ∧ G = gc r s ∧ y = .bool o ∧ ((openB bs = none ∧ o = false) ∨ (openB bs = some (t,r,s) ∧ o = true)):=by
 rcases h with ⟨h,rfl,rfl,rfl⟩ | ⟨t,r,s,h,rfl,rfl,rfl⟩
 ·
  exact ⟨_,_,_,_,rfl,rfl,rfl,.inl ⟨h,rfl⟩⟩
 ·
  exact ⟨_,_,_,_,rfl,rfl,rfl,.inr ⟨h,rfl⟩⟩
theorem zat (w1 : World) (o o2 : Obj) : ((w1.alloc o).alloc o2).heap[w1.heap.size]? = some o ∧ ((w1.alloc o).alloc o2).heap[w1.heap.size + 1]? = some o2:=by
 have h:=zab (w1.alloc o) o2
 rw [World.size_alloc] at h
 exact ⟨(Ext.alloc (w1.alloc o) o2).block (zab w1 o),h⟩
theorem zdy (w1 : World) (o o2 : Obj) : Ext w1 ((w1.alloc o).alloc o2):=(Ext.alloc _ _).trans (Ext.alloc _ _)
theorem Up.calls {P : Program} {w : World} {D : World → Prop} (h : Up w D) {f : FuncId} {args : Array Value} {v : Value} (k : ∀ W,Ext w W → Calls P f args W fun _e w' => _e = .returned v ∧ Ext W w') (x : Gw D) :
  Calls P f args x.val fun _e w' => _e = .returned v ∧ ∃ y : Gw D,w' = y.val :=
 (k _ (h.grown _ x.property)).mono fun _ w' ⟨he,hE⟩ => ⟨he,⟨w',h.up _ _ x.property hE⟩,rfl⟩
theorem rcheck9_calls {L : Low} (R : LowR L) (X Y : Nat) (f : Bool) (hX : X < top) (hY : Y < top) (A : Option Addr) (m c : Nat) (bs : List Nat) (hm : m = bs.length) (hmc : m ≤ c) (hle : m ≤ 100000) (w : World) (hS : Bs w A bs) :
  Calls Tryz.prog 57 #[.slice A m c,qv X Y f] w fun e w' => e = .returned (.tuple #[tkV (checkB L X Y f bs).1,.int .i64 ((checkB L X Y f bs).2 : Int)]) ∧ Ext w w':=by
 have KO:=veil (fun W => zjk R A m c bs hm hmc (by omega) W)
 have KP:=veil (fun W => zhx R A m c bs hm hmc (by omega) W)
 have HB:=veil hS
 have HX:=veil (And.intro hX hY)
 obtain ⟨C,hC⟩ : ∃ C,C = qc X Y f:=⟨_,rfl⟩
 have HC:=veil (And.intro hC (And.intro (show (Tryz.prog.info? 60).map (·.size) = some C.size by rw [hC]; exact iT X Y f) (show C.all (·.oneCell') = true by rw [hC]; exact zgm X Y f)))
 unfold qv
 rw [← hC]
 clear hm hmc hle hS hX hY hC
 go_enter Tryz.func57,Tryz.ntmps57
 go_upto_region 1 with (fail)
 obtain ⟨g3,hg3⟩ : ∃ g,g = w.heap.size:=⟨_,rfl⟩
 obtain ⟨g4,hg4⟩ : ∃ g,g = w.heap.size + 1:=⟨_,rfl⟩
 obtain ⟨w0,hw0⟩ : ∃ W,W = (w.alloc (.cells C 60)).alloc (.cells TZ 24):=⟨_,rfl⟩
 have h3:=(zat w (.cells C 60) (.cells TZ 24)).1
 have h4:=(zat w (.cells C 60) (.cells TZ 24)).2
 have hE0:=zdy w (.cells C 60) (.cells TZ 24)
 rw [← hw0,← hg3] at h3
 rw [← hw0,← hg4] at h4
 rw [← hw0] at hE0
 have H0:=veil (And.intro hE0 (And.intro h3 (And.intro h4 (And.intro (show w.heap.size ≤ g4 by omega) (HB.out.ext hE0)))))
 unfold TZ at hw0
 rw [← hw0,← hg4,← hg3]
 clear hw0 hg3 hg4 hE0 h3 h4
 go_upto_region 2 with (first
  | (go_at_call 55; refine (KO.out w0 H0.out.2.2.2.2).mono ?_; rintro e w1 ⟨T,G,y,rfl,hE1,hA⟩; obtain ⟨t,r,s,o,rfl,rfl,rfl,hY⟩:=openA_all hA)
  | ((with_reducible refine zac ?_); refine wpList_store_row rfl 24 _ _ rfl w1.heap.size (tkC t) rfl rfl 24 _ (zat w1 _ _).1 (iTk t) rfl (zbd t) ?_)
  | ((with_reducible refine zac ?_); refine wpList_store_row rfl 69 _ _ rfl (w1.heap.size + 1) (gc r s) rfl rfl 69 _ (zcg _ (zat w1 _ _).2 (Nat.lt_succ_self _)) (iSg r s) rfl (zcm r s) ?_))
 have hF:=zbx (T:=tkC t) (G:=gc r s) (zdy w1 (.cells TZ 24) (.cells Z8 69)) (zat w1 _ _).1 (zat w1 _ _).2 ⟨Nat.le_refl _,Nat.lt_succ_self _⟩
 have hE0:=H0.out.1.trans hE1
 have hS1:=(H0.out.2.2.2.2.ext hE1).ext hF.1
 have h31:=(hE1.trans hF.1).block H0.out.2.1
 have h41:=(hE1.trans hF.1).block H0.out.2.2.1
 have hE2:=hE0.trans hF.1
 have h6:=hF.2.1
 have h7:=hF.2.2
 clear hF hE0 hE1 hA
 obtain ⟨g6,hg6⟩ : ∃ g,g = w1.heap.size:=⟨_,rfl⟩
 obtain ⟨g7,hg7⟩ : ∃ g,g = w1.heap.size + 1:=⟨_,rfl⟩
 rw [← hg7,← hg6] at hE2 h6 h7 h31 h41 hS1 ⊢
 obtain ⟨w2,hw2⟩ : ∃ W,W = (((w1.alloc (.cells TZ 24)).alloc (.cells Z8 69)).setRow g6 (tkC t)).setRow g7 (gc r s):=⟨_,rfl⟩
 rw [← hw2] at hE2 h6 h7 h31 h41 hS1
 unfold TZ Z8 at hw2
 rw [← hw2]
 have H2:=veil (And.intro hE2 (And.intro h31 (And.intro h41 (And.intro h6 (And.intro h7 (And.intro H0.out.2.2.2.1 hS1))))))
 have HY:=veil hY
 clear hw2 hg6 hg7 hE2 h31 h41 h6 h7 hS1 hY KO H0
 rcases HY.out with ⟨hp,rfl⟩ | ⟨hp,rfl⟩
 ·
  have hr:=checkB_none (L:=L) (X:=X) (Y:=Y) (f:=f) hp
  clear HY hp
  go_wp2_with ((with_reducible refine zac ?_); refine wpList_store_row rfl 24 _ _ rfl g4 TZ rfl rfl 24 _ H2.out.2.2.1 iTZ rfl zbr ?_)
  refine bodyPost_ret (zaj rfl _ _ g4 24 TZ (0,0) _ rfl (setRow_heap w2 g4 _ TZ 24 (0,0) H2.out.2.2.1) Tryz.underlying24 rfl iTZ) rfl ⟨by rw [hr]; rfl,zae H2.out.1 H2.out.2.2.2.2.2.1 _⟩
 ·
  have hr:=zex (L:=L) (X:=X) (Y:=Y) (f:=f) hp
  have hso:=zgi HB.out.1 hp
  have HR:=veil hr
  have HO:=veil hso
  clear HY hp hr hso
  go_upto_region 5 with (first
   | (go_at_call 84; refine (KP.out _ H2.out.2.2.2.2.2.2).mono ?_; rintro e w3 ⟨x,G,y,rfl,hE3,hA⟩; obtain ⟨r2,s2,body,A2,c2,o,rfl,rfl,hc2,hl2,hB2,rfl,hZ⟩:=partsA_all HB.out.1 hA)
   | ((with_reducible refine zac ?_); refine wpList_store_row rfl 69 _ _ rfl w3.heap.size (gc r2 s2) rfl rfl 69 _ (zab w3 _) (iSg r2 s2) rfl (zcm r2 s2) ?_; rw [World.setRow_alloc_new]))
  have hbody : body = tkB t:=by
   rcases hZ with ⟨h,_⟩ | ⟨h,_⟩
   ·
    rw [HO.out.2.2.1] at h; cases h
   ·
    have h2:=HO.out.2.2.1.symm.trans h
    injection h2 with h2
    injection h2 with h2
    exact h2.symm
  have hE4:=hE3.trans (Ext.alloc w3 (.cells (gc r2 s2) 69))
  have hB4:=hB2.ext (Ext.alloc w3 (.cells (gc r2 s2) 69))
  subst hbody
  clear hZ hA hB2 hE3
  generalize w3.alloc (.cells (gc r2 s2) 69) = w4 at *
  have H4:=veil (And.intro (H2.out.1.trans hE4) (And.intro (hE4.block H2.out.2.1) (And.intro (hE4.block H2.out.2.2.1) (And.intro (hE4.block H2.out.2.2.2.1) (And.intro (hE4.block H2.out.2.2.2.2.1) (And.intro H2.out.2.2.2.2.2.1 hB4))))))
  clear hE4 hB4 H2 KP
  obtain ⟨v,hv⟩ : ∃ v,v = L.vf X Y f (L.dg (tkB t)) r s:=⟨_,rfl⟩
  have KS:=veil (fun W (hW : Ext w4 W) => R.sum A2 (tkB t).length c2 (tkB t) W rfl (by omega) (H4.out.2.2.2.2.2.2.ext hW))
  have KV : Hid (∀ W : World,Calls Tryz.prog 86 #[.agg C,dgv (L.dg (tkB t)),.agg (gc r s)] W fun e w' => e = .returned (.bool v) ∧ Ext W w'):=veil (fun W => by
   have h:=R.ver X Y f (L.dg (tkB t)) r s W HX.out.1 HX.out.2 (by have:=HO.out.2.2.2.1; exact this) (by have:=HO.out.2.2.2.2; exact this) (L.dgb _)
   unfold qv gv at h
   rw [← HC.out.1,← hv] at h
   exact h)
  have HV:=veil hv
  clear hv
  refine zds 6 [(true,[0,1,2,3,4,5])] (by kernel_rfl) (by kernel_rfl) fun Q' hQ' => ?_
  refine' zbs (A:=_) _ rfl (by kernel_rfl) ?h1 ?h2
  case h1 =>
   intro D hD hN
   have K1:=veil (fun x : Gw D => hD.calls (v:=dgv (L.dg (tkB t))) (fun W hW => KS.out W hW) x)
   have K2:=veil (fun x : Gw D => hD.calls (v:=.bool v) (fun W _ => KV.out W) x)
   simp only [pickI,consO,List.getElem?_cons_zero,List.getElem?_cons_succ]
   go_big_quiet_want
   refine zch (.agg C) (fun x => zaw rfl rfl (hD.block H4.out.2.1 x) Tryz.underlying60 rfl HC.out.2.1) ?_
   simp only [aP,lA,lZ,lS]
   go_big_quiet_on
   iterate 2 (go_big_quiet_step (exact K1.out _))
   go_big_quiet_want
   refine zch (.agg (gc r s)) (fun x => zaw rfl rfl (hD.block H4.out.2.2.2.2.1 x) Tryz.underlying69 rfl (iSg r s)) ?_
   simp only [aP,lA,lZ,lS]
   go_big_quiet_on
   iterate 2 (go_big_quiet_step (exact K2.out _))
   exact zcx
  refine zcu hQ' fun w5 hE5 => ?_
  have H5:=veil (And.intro (H4.out.1.trans hE5) (And.intro (hE5.block H4.out.2.2.1) (And.intro (hE5.block H4.out.2.2.2.1) H4.out.2.2.2.2.2.1)))
  clear hE5 H4 KS KV
  cases v with
  | false =>
   have hr : checkB L X Y f bs = (⟨0,0,0,0,0⟩,8):=by rw [HR.out,← HV.out]; rfl
   go_wp2_with ((with_reducible refine zac ?_); refine wpList_store_row rfl 24 _ _ rfl g4 TZ rfl rfl 24 _ H5.out.2.1 iTZ rfl zbr ?_)
   refine bodyPost_ret (zaj rfl _ _ g4 24 TZ (0,0) _ rfl (setRow_heap w5 g4 _ TZ 24 (0,0) H5.out.2.1) Tryz.underlying24 rfl iTZ) rfl ⟨by rw [hr]; rfl,zae H5.out.1 H5.out.2.2.2 _⟩
  | true =>
   have hr : checkB L X Y f bs = (t,0):=by rw [HR.out,← HV.out]; rfl
   go_wp2_with (first
    | ((with_reducible refine zaa 36 ?_); refine wpList_load_row rfl 24 _ rfl g6 rfl 24 (tkC t) (0,0) _ H5.out.2.2.1 Tryz.underlying24 rfl (iTk t) ?_)
    | ((with_reducible refine zac ?_); refine wpList_store_row rfl 24 _ _ rfl g4 (tkC t) rfl rfl 24 _ H5.out.2.1 (iTk t) rfl (zbd t) ?_))
   refine bodyPost_ret (zaj rfl _ _ g4 24 (tkC t) (0,0) _ rfl (setRow_heap w5 g4 _ (tkC t) 24 (0,0) H5.out.2.1) Tryz.underlying24 rfl (iTk t)) rfl ⟨by rw [hr]; rfl,zae H5.out.1 H5.out.2.2.2 _⟩
end Go.Proofs.YtbfkecfcolcclaaGreatDoor
namespace Go.Proofs.YtbfkecfcolcclaaGreatDoor
theorem findK_cnt {l : List Ky} {id at_ : Int} {k : Ky} (h : findK l id at_ = some k) : cntK k id at_ = true ∧ k ∈ l:=by
 unfold findK at h
 exact ⟨List.find?_some (p:=fun k => cntK k id at_) h,List.mem_of_find?_eq_some h⟩
def kcheckB (L : Low) (l : List Ky) (bs : List Nat) (at_ : Int) : Tk × Nat:=match openB bs with
 | none => (⟨0,0,0,0,0⟩,2)
 | some (t,_,_) => match findK l t.k at_ with
  | none => (⟨0,0,0,0,0⟩,4)
  | some k => checkB L k.x k.y k.f bs
theorem zec {L : Low} {l : List Ky} {bs : List Nat} {at_ : Int} (h : openB bs = none) : kcheckB L l bs at_ = (⟨0,0,0,0,0⟩,2):=by
 unfold kcheckB
 rw [h]
theorem zdb {L : Low} {l : List Ky} {bs : List Nat} {at_ : Int} {t : Tk} {r s : Nat} (h : openB bs = some (t,r,s)) : kcheckB L l bs at_ = match findK l t.k at_ with
  | none => (⟨0,0,0,0,0⟩,4)
  | some k => checkB L k.x k.y k.f bs:=by
 unfold kcheckB
 rw [h]
end Go.Proofs.YtbfkecfcolcclaaGreatDoor
namespace Go.Proofs.YtbfkecfcolcclaaGreatDoor
abbrev Rv:=Int × Int
def rvS (l : List Rv) (i : Nat) : Int:=(l.getD i (0,0)).1
def rvF (l : List Rv) (i : Nat) : Int:=(l.getD i (0,0)).2
def okR (l : List Rv) (i : Nat) : Prop:=1 ≤ rvS l i ∧ rvS l i ≤ 2147483647 ∧ 0 ≤ rvF l i ∧ rvF l i ≤ 1073741824 ∧ (0 < i → rvS l (i - 1) < rvS l i)
instance (l : List Rv) (i : Nat) : Decidable (okR l i):=by unfold okR; exact inferInstance
def mayRs (l : List Rv) : Bool:=decide (l.length ≤ 200 ∧ ∀ i,i < l.length → okR l i)
def Ris : List Rv → Prop
 | [] => True
 | [_] => True
 | x :: y :: r => x.1 < y.1 ∧ Ris (y :: r)
theorem Ris.tail {x : Rv} {l : List Rv} (h : Ris (x :: l)) : Ris l:=by
 cases l with
 | nil => trivial
 | cons y r => exact h.2
theorem Ris.head {x : Rv} {l : List Rv} (h : Ris (x :: l)) : ∀ y ∈ l,x.1 < y.1:=by
 induction l generalizing x with
 | nil => intro y hy; cases hy
 | cons z r ih =>
  intro y hy
  rcases List.mem_cons.1 hy with rfl | hy
  ·
   exact h.1
  ·
   exact Int.lt_trans h.1 (ih h.2 y hy)
theorem Ris.cons {x : Rv} {l : List Rv} (h : ∀ y ∈ l,x.1 < y.1) (hl : Ris l) : Ris (x :: l):=by
 cases l with
 | nil => trivial
 | cons y r => exact ⟨h y List.mem_cons_self,hl⟩
theorem ris_of : ∀ {l : List Rv},(∀ i,i < l.length → 0 < i → rvS l (i - 1) < rvS l i) → Ris l
 | [],_ => trivial
 | [_],_ => trivial
 | x :: y :: r,h => ⟨h 1 (by simp) (by decide),ris_of fun i hi h0 => by
   have:=h (i + 1) (by simpa using hi) (by omega)
   obtain ⟨k,rfl⟩ : ∃ k,i = k + 1:=⟨i - 1,by omega⟩
   exact this⟩
theorem mayRs_ris {l : List Rv} (h : mayRs l = true) : Ris l:=ris_of fun i hi h0 => ((of_decide_eq_true h).2 i hi).2.2.2.2 h0
/-! ### from when a serial is revoked -/
def look : List Rv → Int → Option Int
 | [],_ => none
 | x :: r,s => if x.1 = s then some x.2 else look r s
theorem look_none {l : List Rv} {s : Int} (h : ∀ y ∈ l,y.1 ≠ s) : look l s = none:=by
 induction l with
 | nil => rfl
 | cons x r ih =>
  show (if x.1 = s then _ else _) = _
  rw [if_neg (h x List.mem_cons_self)]
  exact ih fun y hy => h y (List.mem_cons_of_mem _ hy)
theorem look_mem {l : List Rv} {s f : Int} (h : look l s = some f) : (s,f) ∈ l:=by
 induction l with
 | nil => cases h
 | cons x r ih =>
  unfold look at h
  split at h
  ·
   rename_i e
   injection h with h
   subst e h
   exact List.mem_cons_self
  ·
   exact List.mem_cons_of_mem _ (ih h)
def isR (l : List Rv) (s t : Int) : Bool:=match look l s with
 | some f => decide (0 ≤ f) && decide (f ≤ t)
 | none => false
/-! ### one put in among others -/
def both : Option Int → Option Int → Option Int
 | some a,some b => some (if b < a then b else a)
 | some a,none => some a
 | none,some b => some b
 | none,none => none
theorem look_from {l : List Rv} (h : mayRs l = true) {s f : Int} (hl : look l s = some f) : 0 ≤ f:=by
 have hm:=look_mem hl
 obtain ⟨i,hi,e⟩:=List.mem_iff_getElem.1 hm
 have:=((of_decide_eq_true h).2 i hi).2.2.1
 unfold rvF at this
 rw [List.getD_eq_getElem?_getD,List.getElem?_eq_getElem hi,e] at this
 exact this
end Go.Proofs.YtbfkecfcolcclaaGreatDoor
namespace Go.Proofs.YtbfkecfcolcclaaGreatDoor
theorem rv_get {l : List Rv} {i : Nat} (h : i < l.length) : l[i]? = some (l.getD i (0,0)):=by rw [List.getD_eq_getElem?_getD,List.getElem?_eq_getElem h]; rfl
theorem mayRs_false {l : List Rv} {j : Nat} (hj : j < l.length) (h : ¬ okR l j) : mayRs l = false:=decide_eq_false fun hh => h (hh.2 j hj)
theorem mayRs_len {l : List Rv} (h : ∀ j,j < l.length → okR l j) : mayRs l = decide (l.length ≤ 200):=by
 unfold mayRs
 by_cases hc : l.length ≤ 200
 ·
  rw [decide_eq_true hc,decide_eq_true ⟨hc,h⟩]
 ·
  rw [decide_eq_false hc,decide_eq_false fun hh => hc hh.1]
/-! ### what it tells -/
def fromR (l : List Rv) (s : Int) : Int:=match look l s with
 | some f => f
 | none => -1
theorem isR_from (l : List Rv) (s t : Int) : isR l s t = (decide (0 ≤ fromR l s) && decide (fromR l s ≤ t)):=by
 unfold isR fromR
 cases look l s with
 | some f => rfl
 | none => rfl
theorem look_idx {s : Int} : ∀ {l : List Rv} {i : Nat},i < l.length → (∀ j,j < i → rvS l j ≠ s) → rvS l i = s → look l s = some (rvF l i)
 | [],_,h,_,_ => by simp at h
 | x :: r,0,_,_,h => by
  unfold look
  rw [if_pos (show x.1 = s from h)]
  rfl
 | x :: r,i + 1,hi,hn,h => by
  unfold look
  rw [if_neg (show ¬ x.1 = s from hn 0 (by omega))]
  exact look_idx (l:=r) (i:=i) (by simpa using hi) (fun j hj => hn (j + 1) (by omega)) h
theorem look_no {s : Int} {l : List Rv} (h : ∀ j,j < l.length → rvS l j ≠ s) : look l s = none:=look_none fun y hy => by
 obtain ⟨j,hj,rfl⟩:=List.mem_iff_getElem.1 hy
 have:=h j hj
 unfold rvS at this
 rwa [List.getD_eq_getElem?_getD,List.getElem?_eq_getElem hj] at this
theorem zjr {s : Int} : ∀ {l : List Rv},look l s = none → ∀ y ∈ l,y.1 ≠ s
 | [],_,_,hy => by cases hy
 | x :: r,h,y,hy => by
  unfold look at h
  split at h
  ·
   cases h
  ·
   rename_i hne
   rcases List.mem_cons.1 hy with rfl | hy
   ·
    exact hne
   ·
    exact zjr h y hy
theorem look_of_mem {s f : Int} : ∀ {l : List Rv},Ris l → (s,f) ∈ l → look l s = some f
 | [],_,h => by cases h
 | x :: r,hr,h => by
  unfold look
  rcases List.mem_cons.1 h with e | h
  ·
   rw [← e,if_pos rfl]
  ·
   have:=hr.head _ h
   rw [if_neg (show ¬ x.1 = s from fun e => by have h2 : x.1 < s:=this; omega)]
   exact look_of_mem hr.tail h
theorem any_isR {l : List Rv} (h : mayRs l = true) (s t : Int) : (l.any fun r => decide (r.1 = s) && decide (r.2 ≤ t)) = isR l s t:=by
 unfold isR
 cases hl : look l s with
 | none =>
  rw [List.any_eq_false]
  intro y hy
  have:=zjr hl y hy
  simp [this]
 | some f =>
  have hm:=look_mem hl
  have h0:=look_from h hl
  show _ = (decide (0 ≤ f) && decide (f ≤ t))
  by_cases hf : f ≤ t
  ·
   rw [decide_eq_true hf,decide_eq_true h0,List.any_eq_true.2 ⟨(s,f),hm,by simp [hf]⟩]
   rfl
  ·
   rw [decide_eq_false hf,Bool.and_false,List.any_eq_false]
   intro y hy
   by_cases hs : y.1 = s
   ·
    have : look l s = some y.2:=look_of_mem (mayRs_ris h) (by rw [← hs]; exact hy)
    rw [hl] at this
    obtain rfl:=Option.some.inj this
    simp [hf]
   ·
    simp [hs]
/-! ### bytes -/
/-! ### made compact -/
/-! ### sorted -/
end Go.Proofs.YtbfkecfcolcclaaGreatDoor
namespace Go.Proofs.YtbfkecfcolcclaaGreatDoor
structure Pd where
 id : Int
 mi : Int
 sv : Sv
def noPd : Pd:=⟨0,0,noSv⟩
def okP (l : List Pd) (i : Nat) : Prop:=1 ≤ (l.getD i noPd).id ∧ (l.getD i noPd).id ≤ 16 ∧ (0 < i → (l.getD (i - 1) noPd).id < (l.getD i noPd).id) ∧ 1 ≤ (l.getD i noPd).mi ∧ (l.getD i noPd).mi ≤ 1048576 ∧ mayV (l.getD i noPd).sv = true
instance (l : List Pd) (i : Nat) : Decidable (okP l i):=by unfold okP; infer_instance
def mayP (l : List Pd) : Bool:=decide (l.length ≤ 16 ∧ ∀ i,i < l.length → okP l i)
theorem mayP_no {l : List Pd} {i : Nat} (hi : i < l.length) (h : ¬ okP l i) : mayP l = false:=decide_eq_false fun k => h (k.2 i hi)
theorem mayP_len {l : List Pd} (h : ∀ i,i < l.length → okP l i) : mayP l = decide (l.length ≤ 16):=by
 unfold mayP
 by_cases c : l.length ≤ 16
 ·
  rw [decide_eq_true c,decide_eq_true ⟨c,h⟩]
 ·
  rw [decide_eq_false c,decide_eq_false fun k => c k.1]
theorem mayP_ok {l : List Pd} (h : mayP l = true) {i : Nat} (hi : i < l.length) : okP l i:=(of_decide_eq_true h).2 i hi
theorem mayP_16 {l : List Pd} (h : mayP l = true) : l.length ≤ 16:=(of_decide_eq_true h).1
theorem mayP_rise {l : List Pd} (h : mayP l = true) {i : Nat} : ∀ {j : Nat},i < j → j < l.length → (l.getD i noPd).id < (l.getD j noPd).id
 | 0,h1,_ => by omega
 | j + 1,h1,h2 => by
  have h3:=(mayP_ok h h2).2.2.1 (by omega)
  rw [Nat.add_sub_cancel] at h3
  by_cases c : i = j
  ·
   rw [c]; exact h3
  ·
   have:=mayP_rise h (i:=i) (j:=j) (by omega) (by omega)
   omega
def prodP (l : List Pd) (p : Int) : Option Pd:=l.find? fun x => decide (x.id = p)
theorem prodP_no {l : List Pd} {p : Int} (h : ∀ j,j < l.length → (l.getD j noPd).id ≠ p) : prodP l p = none:=List.find?_eq_none.2 fun x hx => by
 obtain ⟨i,hi,rfl⟩:=List.mem_iff_getElem.1 hx
 have:=h i hi
 rw [List.getD_eq_getElem?_getD,List.getElem?_eq_getElem hi] at this
 simpa using this
theorem prodP_is {l : List Pd} {p : Int} : ∀ {i : Nat},i < l.length → (l.getD i noPd).id = p → (∀ j,j < i → (l.getD j noPd).id ≠ p) → prodP l p = some (l.getD i noPd):=by
 induction l with
 | nil => intro i h; simp at h
 | cons x r ih =>
  intro i h1 h2 h3
  unfold prodP
  cases i with
  | zero =>
   have : x.id = p:=h2
   rw [List.find?_cons_of_pos (by simpa using this)]
   rfl
  | succ i =>
   have h0 : x.id ≠ p:=h3 0 (by omega)
   rw [List.find?_cons_of_neg (by simpa using h0)]
   exact ih (i:=i) (by simpa using h1) (by simpa using h2) fun j hj => by have:=h3 (j + 1) (by omega); simpa using this
theorem prodP_at {l : List Pd} {p : Int} (h : mayP l = true) {i : Nat} (h1 : i < l.length) (h2 : (l.getD i noPd).id = p) : prodP l p = some (l.getD i noPd):=prodP_is h1 h2 fun j hj e => by
 have:=mayP_rise h hj h1
 omega
theorem prodP_in {l : List Pd} {p : Int} {x : Pd} (h : prodP l p = some x) : ∃ i,i < l.length ∧ l.getD i noPd = x:=by
 obtain ⟨i,hi,e⟩:=List.mem_iff_getElem.1 (List.mem_of_find?_eq_some h)
 exact ⟨i,hi,by rw [List.getD_eq_getElem?_getD,List.getElem?_eq_getElem hi]; exact e⟩
def whyX (x : Pd) (t : Tk) (z a : Int) : Int:=if t.z / 2 ^ z.toNat % 2 = 0 then 5 else if a < t.f ∨ t.f + x.mi ≤ a ∨ runsV x.sv (a / 1440) = false then 6 else 1
def whyV (l : List Pd) (t : Tk) (z a : Int) : Int:=match prodP l t.p with
 | none => 7
 | some x => whyX x t z a
def placeB (z a : Int) : Bool:=decide (0 ≤ z ∧ z ≤ 7 ∧ 0 ≤ a ∧ a ≤ 1073741824)
def coversV (l : List Pd) (t : Tk) (z a : Int) : Bool:=mayP l && (mayT t && (placeB z a && decide (whyV l t z a = 1)))
def verdV (L : Low) (K : List Ky) (R : List Rv) (l : List Pd) (bs : List Nat) (z a : Int) : Int :=
 if (kcheckB L K bs a).2 = 2 then 2 else if (kcheckB L K bs a).2 ≠ 0 then 3 else if isR R (kcheckB L K bs a).1.s a = true then 4 else whyV l (kcheckB L K bs a).1 z a
def argV (K : List Ky) (R : List Rv) (l : List Pd) (z a : Int) : Bool:=mayK K && (mayRs R && (mayP l && placeB z a))
theorem kcheckB_may {L : Low} {K : List Ky} {bs : List Nat} {a : Int} (hb : Byt bs) (h : (kcheckB L K bs a).2 = 0) : mayT (kcheckB L K bs a).1 = true:=by
 cases ho : openB bs with
 | none => rw [zec ho] at h; cases h
 | some v =>
  obtain ⟨t,r,s⟩:=v
  have hm:=(zgi hb ho).2.1
  rw [zdb ho] at h ⊢
  split at h
  ·
   cases h
  ·
   rename_i k hk
   rw [zex ho] at h ⊢
   split at h
   ·
    rename_i c
    rw [if_pos c]
    exact hm
   ·
    cases h
end Go.Proofs.YtbfkecfcolcclaaGreatDoor
namespace Go.Proofs.YtbfkecfcolcclaaGreatDoor
open Go.RowKit
open Go.Value renaming int → vI
open Go.IntKind renaming u64 → vU
open Go.Act renaming put → aP
open List renaming setIfInBounds_toArray → lA, set_cons_zero → lZ, set_cons_succ → lS
section
variable {α : Type} {sz : Nat} {cs : α → List Value} {w w' : World} {v : Value} {l : List α} {P : Program}
def Ls (sz : Nat) (cs : α → List Value) (w : World) (v : Value) (l : List α) : Prop :=
 ∃ A c,v = .slice A l.length c ∧ l.length ≤ c ∧ (l.length = 0 ∨ ∃ b o,A = some ⟨b,o,none⟩ ∧ b < w.heap.size ∧ ∀ i x,l[i]? = some x → w.rangeAt b (o + i * sz) (cs x))
theorem zan (h : Ext w w') {b o : Nat} {L : List Value} (hb : b < w.heap.size) (hr : w.rangeAt b o L) : w'.rangeAt b o L:=fun j u hu => (h.cell hb).trans (hr j u hu)
theorem Ls.ext (h : Ls sz cs w v l) (k : Ext w w') : Ls sz cs w' v l:=by
 obtain ⟨A,c,e,hc,hx⟩:=h
 exact ⟨A,c,e,hc,hx.imp id fun ⟨b,o,ha,hb,hr⟩ => ⟨b,o,ha,Nat.lt_of_lt_of_le hb (Below.size k),fun i x hi => zan k hb (hr i x hi)⟩⟩
theorem Ls.nil (w : World) (A : Option Addr) (c : Nat) : Ls sz cs w (.slice A 0 c) ([] : List α):=⟨A,c,rfl,Nat.zero_le _,.inl rfl⟩
theorem Ls.at (h : Ls sz cs w v l) {i : Nat} (hi : i < l.length) : ∃ b o c,v = .slice (some ⟨b,o,none⟩) l.length c ∧ l.length ≤ c ∧ b < w.heap.size ∧ ∀ i x,l[i]? = some x → w.rangeAt b (o + i * sz) (cs x):=by
 obtain ⟨A,c,e,hc,hx⟩:=h
 rcases hx with h0 | ⟨b,o,rfl,hb,hr⟩
 ·
  omega
 ·
  exact ⟨b,o,c,e,hc,hb,hr⟩
variable {base ty : Nat}
theorem ls_one {g c : Nat} {x : α} {fr : Nat × Nat} (hg : w.heap[g]? = some (.cells (cs x).toArray ty fr)) (hc : 1 ≤ c:=by decide) : Ls sz cs w (.slice (some ⟨g,0,none⟩) 1 c) [x] :=
 ⟨_,c,rfl,hc,.inr ⟨g,0,rfl,(Array.getElem?_eq_some_iff.1 hg).1,fun i y hi j u hu => by
  match i,hi with
  | 0,hi =>
   obtain rfl : x = y:=by simpa using hi
   simp only [Nat.zero_mul,Nat.zero_add]
   rw [cell_of_row w g j _ _ _ hg]
   simpa using hu⟩⟩
theorem ls_of {H : Type} {enc : TypeId × Value → H} {t e fuel base : Nat} {sp : Nat → Bool} {hd : Bool} {d : DataW H} {p : List MemPlace} (ht : P.underlying t = some (.slice e)) (hsz : P.cellsOf e = sz) (h0 : 0 < sz)
  (he : ∀ n cs' y,DataW.trod enc P w base sp hd n e cs' = some y → ∃ x,cs' = cs x) (hf : DataW.trod enc P w base sp hd fuel t [v] = some (d,p)) : ∃ l : List α,Ls sz cs w v l:=by
 rcases Go.Deep.open_slice ht hf with ⟨h,_⟩ | ⟨a,len,cap,m,n,D,Pl,h,_,hlc,_,hm,_,hx⟩
 ·
  simp only [List.cons.injEq,and_true] at h
  rw [h]
  exact ⟨[],Ls.nil _ _ _⟩
 ·
  simp only [List.cons.injEq,and_true] at h
  have hlm : len ≤ m:=by rw [hm]; split <;> omega
  have each : ∀ i,i < len → ∃ x : α,(cs x).length = sz ∧ ∀ j u,(cs x)[j]? = some u → w.cell? ((a.add (i * sz)).add j) = some u:=by
   intro i hi
   obtain ⟨cs',h1,h2⟩:=hx i (by omega)
   rw [hsz] at h1
   obtain ⟨_,hlen,hcell⟩:=World.cells?_some h1
   obtain ⟨x,rfl⟩:=he _ _ _ h2
   refine ⟨x,hlen,fun j u hu => ?_⟩
   have hj:=(List.getElem?_eq_some_iff.1 hu).1
   rw [hcell j (by omega),hu]
  by_cases hl0 : len = 0
  ·
   rw [h,hl0]
   exact ⟨[],Ls.nil _ _ _⟩
  ·
   obtain ⟨x0,_⟩:=each 0 (by omega)
   haveI : Inhabited α:=⟨x0⟩
   obtain ⟨q,hq⟩:=Go.Deep.choose_lt each
   refine ⟨(List.range len).map q,some a,cap,by rw [h]; simp,by simpa using hlc,.inr ?_⟩
   obtain ⟨b,off,spot⟩:=a
   have h00 : ∃ u,(cs (q 0))[0]? = some u:=⟨_,List.getElem?_eq_getElem (by rw [(hq 0 (by omega)).1]; exact h0)⟩
   obtain ⟨u0,hu0⟩:=h00
   have hc0:=(hq 0 (by omega)).2 0 u0 hu0
   have hspot : spot = none:=by simpa [Addr.add] using World.cell?_spot hc0
   subst hspot
   have hblk : b < w.heap.size:=by
    have:=World.block_lt_of_cell? w _ hc0
    simpa [Addr.add] using this
   refine ⟨b,off,rfl,hblk,fun i x hi j u hu => ?_⟩
   have hil : i < len:=by
    have:=(List.getElem?_eq_some_iff.1 hi).1
    simpa using this
   obtain rfl : q i = x:=by simpa [hil] using hi
   have:=(hq i hil).2 j u hu
   rw [Addr.add_mid,Addr.add_mid] at this
   exact this
end
def dC (x : Int) : List Value:=[.int .i64 x]
abbrev Ds (w : World) (v : Value) (l : List Int) : Prop:=Ls 1 dC w v l
theorem zhb {w w' : World} {b o i : Nat} {l : List Int} (hE : Ext w w') (hb : b < w.heap.size) (h : ∀ i x,l[i]? = some x → w.rangeAt b (o + i * 1) (dC x)) (hi : i < l.length) : w'.cell? ⟨b,o + i,none⟩ = some (.int .i64 (l.getD i 0)):=by
 have:=zan hE hb (h i _ (d_get hi)) 0 _ rfl
 simpa using this
theorem zir (v : Value) (l : List Int) (d : Int) (w : World) (hF : Ds w v l) (hL : l.length ≤ 1000000000) :
  Calls Tryz.prog 43 #[v,.int .i64 d] w fun e w' => e = .returned (.bool (decide (d ∈ l))) ∧ Ext w w':=by
 obtain ⟨AL,c,rfl,hc,hx⟩:=hF
 obtain ⟨R,hR⟩ : ∃ R,R = decide (d ∈ l):=⟨_,rfl⟩
 rw [← hR]
 obtain ⟨n,hn⟩ : ∃ n,n = l.length:=⟨_,rfl⟩
 rw [← hn] at hx hc ⊢
 have HR:=veil (And.intro hR (And.intro hn hL))
 have HX:=veil hx
 have hnL : n ≤ 1000000000:=by omega
 clear hR hx hn hL
 go_enter Tryz.func43,Tryz.ntmps43
 go_wp2
 go_loopw [5] (fun v wr => ∃ i : Nat,i ≤ n ∧ v = .int .i64 (i : Int) ∧ (∀ j,j < i → l.getD j 0 ≠ d) ∧ Ext w wr)
  (fun v _ => n - (intOf v).toNat)
 case atStart => exact ⟨0,by omega,rfl,fun j hj => by omega,Ext.refl _⟩
 case round =>
  obtain ⟨i,hi,rfl,hall,hE⟩:=hrel
  by_cases hlt : i < n
  ·
   have hd1 : decide ((i : Int) < (n : Int)) = true:=by simp; omega
   have hii : (i : Int) < (n : Int):=by omega
   obtain ⟨b,o,hAL,hb,hcl⟩:=HX.out.resolve_left (by omega)
   have hil : i < l.length:=by have:=HR.out.2.1; omega
   have c0:=zhb hE hb hcl hil
   have HK:=veil (And.intro hall (And.intro hil hE))
   obtain ⟨k,hk⟩ : ∃ z,z = l.getD i 0:=⟨_,rfl⟩
   rw [← hk] at c0
   have HV:=veil hk
   clear hk hall hcl hb hE hil
   subst hAL
   by_cases g0 : k = d
   ·
    have f1 : (k == d) = true:=by simp [g0]
    have e : R = true:=HR.out.1.trans (d_is HK.out.2.1 (HV.out.symm.trans g0))
    subst e
    clear g0
    go_wp2
    go_ret
    exact ⟨rfl,HK.out.2.2⟩
   ·
    have f1 : (k == d) = false:=by simp [g0]
    have G:=veil g0
    clear g0
    go_wp2
    go_roundw
    case rel =>
     refine ⟨i + 1,by omega,by go_num,fun j hj => ?_,HK.out.2.2⟩
     by_cases e : j = i
     ·
      subst e
      rw [← HV.out]
      exact G.out
     ·
      exact HK.out.1 j (by omega)
    case measure => simp [intOf]; omega
  ·
   obtain rfl : i = n:=by omega
   have hd1 : decide ((i : Int) < (i : Int)) = false:=by simp
   have e : R = false:=HR.out.1.trans (d_not (by rw [← HR.out.2.1]; exact hall))
   subst e
   clear hall
   go_wp2
   go_ret
   exact ⟨rfl,hE⟩
theorem zjx (v : Value) (l : List Int) (w : World) (hF : Ds w v l) (hL : l.length ≤ 1000000000) :
  Calls Tryz.prog 42 #[v] w fun e w' => e = .returned (.bool (daysB l)) ∧ Ext w w':=by
 obtain ⟨AL,c,rfl,hc,hx⟩:=hF
 obtain ⟨R,hR⟩ : ∃ R,R = daysB l:=⟨_,rfl⟩
 rw [← hR]
 obtain ⟨n,hn⟩ : ∃ n,n = l.length:=⟨_,rfl⟩
 rw [← hn] at hx hc ⊢
 have HR:=veil (And.intro hR (And.intro hn hL))
 have HX:=veil hx
 have hnL : n ≤ 1000000000:=by omega
 clear hR hx hn hL
 go_enter Tryz.func42,Tryz.ntmps42
 go_wp2
 go_loopw [3] (fun v wr => ∃ i : Nat,i ≤ n ∧ v = .int .i64 (i : Int) ∧ (∀ j,j < i → okD l j) ∧ Ext w wr)
  (fun v _ => n - (intOf v).toNat)
 case atStart => exact ⟨0,by omega,rfl,fun j hj => by omega,Ext.refl _⟩
 case round =>
  obtain ⟨i,hi,rfl,hall,hE⟩:=hrel
  by_cases hlt : i < n
  ·
   have hd1 : decide ((i : Int) < (n : Int)) = true:=by simp; omega
   have hii : (i : Int) < (n : Int):=by omega
   obtain ⟨b,o,hAL,hb,hcl⟩:=HX.out.resolve_left (by omega)
   have hil : i < l.length:=by have:=HR.out.2.1; omega
   have c0:=zhb hE hb hcl hil
   have hpc : 0 < i → wr.cell? ⟨b,o + (i - 1),none⟩ = some (.int .i64 (l.getD (i - 1) 0)):=fun h0 => zhb hE hb hcl (by omega)
   have hfalse : ∀ h : ¬ okD l i,R = false:=fun h => HR.out.1.trans (daysB_false hil h)
   have HK:=veil (And.intro hall (And.intro hfalse (And.intro hpc hE)))
   obtain ⟨ks,hks⟩ : ∃ z,z = l.getD i 0:=⟨_,rfl⟩
   rw [← hks] at c0
   have HV:=veil hks
   clear hks hil hb hE hall hfalse hpc hcl
   subst hAL
   go_upto_region 4 with (fail)
   by_cases g0 : ks < 0
   ·
    have hd2 : decide (ks < 0) = true:=decide_eq_true g0
    have e : R = false:=HK.out.2.1 fun h => by have h1:=h.1; rw [← HV.out] at h1; omega
    subst e
    go_quiet (fail)
    go_wp2
    go_ret
    exact ⟨rfl,HK.out.2.2.2.trans (Ext.drewK _ _)⟩
   ·
    have hd2 : decide (ks < 0) = false:=decide_eq_false g0
    by_cases g1 : 1048576 < ks
    ·
     have hd3 : decide (1048576 < ks) = true:=decide_eq_true g1
     have e : R = false:=HK.out.2.1 fun h => by have h1:=h.2.1; rw [← HV.out] at h1; omega
     subst e
     go_quiet (fail)
     go_wp2
     go_ret
     exact ⟨rfl,HK.out.2.2.2.trans (Ext.drewK _ _)⟩
    ·
     have hd3 : decide (1048576 < ks) = false:=decide_eq_false g1
     by_cases g7 : i = 0
     ·
      have hd9 : decide (0 < i) = false:=by simp; omega
      have hd9' : decide ((0 : Int) < (i : Int)) = false:=by simp; omega
      have G:=veil g7
      clear g7
      go_quiet (fail)
      go_wp2
      go_roundw
      case rel =>
       refine ⟨i + 1,by omega,by go_num,fun j hj => ?_,HK.out.2.2.2.trans (Ext.drewK _ _)⟩
       obtain rfl : j = i:=by have:=G.out; omega
       unfold okD
       rw [← HV.out]
       exact ⟨by omega,by omega,fun h => absurd h (by have:=G.out; omega)⟩
      case measure => simp [intOf]; omega
     ·
      have hd9 : decide (0 < i) = true:=by simp; omega
      have hd9' : decide ((0 : Int) < (i : Int)) = true:=by simp; omega
      have cp:=HK.out.2.2.1 (by omega)
      obtain ⟨z,hz⟩ : ∃ z,z = l.getD (i - 1) 0:=⟨_,rfl⟩
      rw [← hz] at cp
      have hki2 : (i : Int) - 1 = ((i - 1 : Nat) : Int):=by omega
      obtain ⟨m,hm⟩ : ∃ m,m = i - 1:=⟨_,rfl⟩
      rw [← hm] at cp hki2
      have hmn : (m : Int) < (n : Int):=by omega
      have HZ:=veil (And.intro hz hm)
      clear hz hm
      by_cases g8 : ks ≤ z
      ·
       have hd10 : decide (ks ≤ z) = true:=decide_eq_true g8
       have e : R = false:=HK.out.2.1 fun h => by
        have h1:=h.2.2 (by omega)
        rw [← HV.out,← HZ.out.1] at h1
        omega
       subst e
       go_quiet (fail)
       go_wp2
       go_ret
       exact ⟨rfl,HK.out.2.2.2.trans (Ext.drewK _ _)⟩
      ·
       have hd10 : decide (ks ≤ z) = false:=decide_eq_false g8
       go_quiet (fail)
       go_wp2
       go_roundw
       case rel =>
        refine ⟨i + 1,by omega,by go_num,fun j hj => ?_,HK.out.2.2.2.trans (Ext.drewK _ _)⟩
        by_cases e : j = i
        ·
         subst e
         unfold okD
         rw [← HV.out,← HZ.out.1]
         exact ⟨by omega,by omega,fun _ => by omega⟩
        ·
         exact HK.out.1 j (by omega)
       case measure => simp [intOf]; omega
  ·
   obtain rfl : i = n:=by omega
   have hd1 : decide ((i : Int) < (i : Int)) = false:=by simp
   have e : R = decide ((i : Int) ≤ 100):=by
    rw [HR.out.1,daysB_len (by rw [← HR.out.2.1]; exact hall),← HR.out.2.1]
    by_cases h : i ≤ 100
    ·
     rw [decide_eq_true h,decide_eq_true (by omega)]
    ·
     rw [decide_eq_false h,decide_eq_false (by omega)]
   have HE:=veil e
   clear hall e
   go_wp2
   go_ret
   exact ⟨by rw [HE.out]; rfl,hE⟩
theorem up_calls12 {P : Program} {w : World} {D : World → Prop} (h : Up w D) {f : FuncId} {args : Array Value} {v : Value} (k : ∀ W,Ext w W → Calls P f args W fun _e w' => _e = .returned v ∧ Ext W w') (x : Gw D) :
  Calls P f args x.val fun _e w' => _e = .returned v ∧ ∃ y : Gw D,w' = y.val :=
 (k _ (h.grown _ x.property)).mono fun _ w' ⟨he,hE⟩ => ⟨he,⟨w',h.up _ _ x.property hE⟩,rfl⟩
def svC (s : Sv) (vE vX : Value) : Array Value:=#[.int .i64 s.wk,.int .i64 s.fr,.int .i64 s.to,vE,vX]
def Vs12 (w : World) (v : Value) (s : Sv) : Prop:=∃ vE vX,v = .agg (svC s vE vX) ∧ Ds w vE s.ex ∧ Ds w vX s.ec
theorem Vs12.ext {w w' : World} {v : Value} {s : Sv} (h : Vs12 w v s) (k : Ext w w') : Vs12 w' v s:=by
 obtain ⟨vE,vX,e,h1,h2⟩:=h
 exact ⟨vE,vX,e,h1.ext k,h2.ext k⟩
theorem iSv (s : Sv) (vE vX : Value) : (Tryz.prog.info? 49).map (·.size) = some (svC s vE vX).size:=by
 show _ = some 5
 kernel_rfl
section
variable {w w' : World} {g : Nat} {s : Sv} {vE vX : Value}
def SvAt (w : World) (g : Nat) (s : Sv) (vE vX : Value) : Prop:=w.heap[g]? = some (.cells (svC s vE vX) 49 (0,0))
theorem SvAt.ext (h : SvAt w g s vE vX) (k : Ext w w') : SvAt w' g s vE vX:=k.block h
theorem SvAt.at0 (h : SvAt w g s vE vX) : w.cell? ⟨g,0,none⟩ = some (.int .i64 s.wk):=cell_of_row w g 0 _ _ _ h
theorem SvAt.at1 (h : SvAt w g s vE vX) : w.cell? ⟨g,1,none⟩ = some (.int .i64 s.fr):=cell_of_row w g 1 _ _ _ h
theorem SvAt.at2 (h : SvAt w g s vE vX) : w.cell? ⟨g,2,none⟩ = some (.int .i64 s.to):=cell_of_row w g 2 _ _ _ h
theorem SvAt.at3 (h : SvAt w g s vE vX) : w.cell? ⟨g,3,none⟩ = some vE:=cell_of_row w g 3 _ _ _ h
theorem SvAt.at4 (h : SvAt w g s vE vX) : w.cell? ⟨g,4,none⟩ = some vX:=cell_of_row w g 4 _ _ _ h
theorem SvAt.new (w : World) (s : Sv) (vE vX : Value) : SvAt (w.alloc (.cells (svC s vE vX) 49)) w.heap.size s vE vX:=zab w _
end
theorem zca {wk fr tu : Int} {ex ec : List Int} (h : ¬ (0 ≤ wk ∧ wk ≤ 127 ∧ 0 ≤ fr ∧ fr ≤ tu ∧ tu ≤ 1048576)) : boundB ⟨wk,fr,tu,ex,ec⟩ = false:=decide_eq_false h
theorem boundB_yes {wk fr tu : Int} {ex ec : List Int} (h : 0 ≤ wk ∧ wk ≤ 127 ∧ 0 ≤ fr ∧ fr ≤ tu ∧ tu ≤ 1048576) : boundB ⟨wk,fr,tu,ex,ec⟩ = true:=decide_eq_true h
theorem mayV_ex {s : Sv} (h : ¬ s.ex.length ≤ 100) : mayV s = false:=by unfold mayV; rw [ziw h]; rfl
theorem mayV_ec {s : Sv} (h : ¬ s.ec.length ≤ 100) : mayV s = false:=by unfold mayV; rw [ziw h]; simp
theorem mayV_far {s : Sv} (h : farB s.ex s.ec = false) : mayV s = false:=by unfold mayV; rw [h]; simp
theorem mayV_rest {s : Sv} (h : farB s.ex s.ec = true) : mayV s = (daysB s.ex && daysB s.ec && boundB s):=by unfold mayV; rw [h,Bool.and_true]
theorem rmay12_calls (v : Value) (s : Sv) (w : World) (hF : Vs12 w v s) (h1 : s.ex.length ≤ 1000000000) (h2 : s.ec.length ≤ 1000000000) :
  Calls Tryz.prog 20 #[v] w fun e w' => e = .returned (.bool (mayV s)) ∧ Ext w w':=by
 obtain ⟨vE,vX,rfl,hE,hX⟩:=hF
 obtain ⟨R,hR⟩ : ∃ R,R = mayV s:=⟨_,rfl⟩
 rw [← hR]
 have KA:=veil (fun W (h : Ext w W) => zjx vE s.ex W (hE.ext h) h1)
 have KB:=veil (fun W (h : Ext w W) => zjx vX s.ec W (hX.ext h) h2)
 have KI:=veil (fun d W (h : Ext w W) => zir vX s.ec d W (hX.ext h) h2)
 obtain ⟨AE,cE,rfl,hcE,hxE⟩:=hE
 obtain ⟨AX,cX,rfl,hcX,_⟩:=hX
 obtain ⟨n,hn⟩ : ∃ n,n = s.ex.length:=⟨_,rfl⟩
 obtain ⟨m,hm⟩ : ∃ m,m = s.ec.length:=⟨_,rfl⟩
 rw [← hn] at hxE KA hcE ⊢
 rw [← hm] at KB KI hcX ⊢
 have HX:=veil hxE
 have HR:=veil (And.intro hR (And.intro hn (And.intro hm h1)))
 have hnL : n ≤ 1000000000:=by omega
 have hmL : m ≤ 1000000000:=by omega
 have hE0:=Ext.alloc w (.cells (svC s (.slice AE n cE) (.slice AX m cX)) 49)
 have hS0:=SvAt.new w s (.slice AE n cE) (.slice AX m cX)
 clear hR hn hm h1 h2 hxE
 obtain ⟨wk,fr,tu,ex,ec⟩:=s
 simp only at HX HR KA KB KI
 unfold svC at hE0 ⊢
 simp only at hE0 ⊢
 go_enter Tryz.func20,Tryz.ntmps20
 go_upto_region 1 with (fail)
 unfold SvAt svC at hS0
 simp only at hS0
 obtain ⟨g,hg⟩ : ∃ g,g = w.heap.size:=⟨_,rfl⟩
 rw [← hg] at hS0 ⊢
 generalize w.alloc (.cells #[.int .i64 wk,.int .i64 fr,.int .i64 tu,.slice AE n cE,.slice AX m cX] 49) = w0 at *
 have HS:=veil (show SvAt w0 g ⟨wk,fr,tu,ex,ec⟩ (.slice AE n cE) (.slice AX m cX) from hS0)
 have HE:=veil hE0
 clear hE0 hS0 hg
 have c3:=HS.out.at3
 have c4:=HS.out.at4
 by_cases a1 : (100 : Int) < (n : Int)
 ·
  have d1 : decide ((100 : Int) < (n : Int)) = true:=decide_eq_true a1
  have e : R = false:=HR.out.1.trans (mayV_ex (by show ¬ ex.length ≤ 100; have:=HR.out.2.1; omega))
  subst e
  go_wp2
  go_ret
  exact ⟨rfl,HE.out⟩
 have d1 : decide ((100 : Int) < (n : Int)) = false:=decide_eq_false a1
 by_cases a2 : (100 : Int) < (m : Int)
 ·
  have d2 : decide ((100 : Int) < (m : Int)) = true:=decide_eq_true a2
  have e : R = false:=HR.out.1.trans (mayV_ec (by show ¬ ec.length ≤ 100; have:=HR.out.2.2.1; omega))
  subst e
  go_wp2
  go_ret
  exact ⟨rfl,HE.out⟩
 have d2 : decide ((100 : Int) < (m : Int)) = false:=decide_eq_false a2
 go_upto_region 4 with (go_at_call 42; refine (KA.out _ HE.out).mono ?_; rintro e w1 ⟨rfl,hE1⟩)
 have HE1:=veil (HE.out.trans hE1)
 have HS1:=veil (HS.out.ext hE1)
 clear hE1 c3 c4 d1 d2 a1 a2 KA HS HE
 have c4:=HS1.out.at4
 go_upto_region 5 with (go_at_call 42; refine (KB.out _ HE1.out).mono ?_; rintro e w2 ⟨rfl,hE2⟩)
 have HE2:=veil (HE1.out.trans hE2)
 have HS2:=veil (HS1.out.ext hE2)
 clear hE2 c4 HS1 HE1 KB
 obtain ⟨A,hA⟩ : ∃ A,A = daysB ex:=⟨_,rfl⟩
 obtain ⟨B,hB⟩ : ∃ B,B = daysB ec:=⟨_,rfl⟩
 rw [← hA,← hB]
 have HAB:=veil (And.intro hA hB)
 clear hA hB
 go_wp2
 go_loopw [5,6] (fun v _ wr => ∃ i : Nat,i ≤ n ∧ v = .int .i64 (i : Int) ∧ (∀ j,j < i → ex.getD j 0 ∉ ec) ∧ Ext w2 wr)
  (fun v _ _ => n - (intOf v).toNat)
 case atStart => exact ⟨0,by omega,rfl,fun j hj => by omega,Ext.refl _⟩
 case round =>
  obtain ⟨i,hi,rfl,hall,hE⟩:=hrel
  have c3:=(HS2.out.ext hE).at3
  by_cases hlt : i < n
  ·
   have hd1 : decide ((i : Int) < (n : Int)) = true:=by simp; omega
   have hii : (i : Int) < (n : Int):=by omega
   obtain ⟨b,o,hAL,hb,hcl⟩:=HX.out.resolve_left (by omega)
   have hil : i < ex.length:=by have:=HR.out.2.1; omega
   have c0:=zhb (HE2.out.trans hE) hb hcl hil
   have c4:=(HS2.out.ext hE).at4
   have HK:=veil (And.intro hall (And.intro hil hE))
   obtain ⟨k,hk⟩ : ∃ z,z = ex.getD i 0:=⟨_,rfl⟩
   rw [← hk] at c0
   have HV:=veil hk
   clear hk hall hcl hb hE hil
   subst hAL
   obtain ⟨J,hJ⟩ : ∃ J,J = decide (k ∈ ec):=⟨_,rfl⟩
   have HJ:=veil hJ
   clear hJ
   go_upto_region 8 with (fail)
   refine zds 9 [(true,List.range 9)] (by kernel_rfl) (by kernel_rfl) fun Q' hQ' => ?_
   refine' zbs (A:=_) _ rfl (by kernel_rfl) ?_ ?_
   rotate_left
   ·
    intro D hD hN
    have e0:=hD.cell c0
    have e3:=hD.cell c3
    have e4:=hD.cell c4
    have KC:=veil (fun x : Gw D => up_calls12 hD (v:=.bool J) (fun W hW => by have:=KI.out k W (HE2.out.trans (HK.out.2.2.trans hW)); rwa [← HJ.out] at this) x)
    simp only [List.range,List.range.loop,pickI,consO,List.getElem?_cons_zero,List.getElem?_cons_succ]
    repeat (go_big_quiet_step (exact KC.out _))
    exact zcx
   refine zcu hQ' fun W3 hE3 => ?_
   have HE3:=veil (HK.out.2.2.trans hE3)
   clear hE3 c0 c3 c4
   cases J with
   | true =>
    have e : R = false:=HR.out.1.trans (mayV_far (farB_false HK.out.2.1 (by rw [← HV.out]; exact of_decide_eq_true HJ.out.symm)))
    subst e
    go_wp2
    go_ret
    exact ⟨rfl,HE2.out.trans HE3.out⟩
   | false =>
    go_wp2
    go_roundw
    case rel =>
     refine ⟨i + 1,by omega,by go_num,fun j hj => ?_,HE3.out⟩
     by_cases e : j = i
     ·
      subst e
      rw [← HV.out]
      exact of_decide_eq_false HJ.out.symm
     ·
      exact HK.out.1 j (by omega)
    case measure => simp [intOf]; omega
  ·
   obtain rfl : i = n:=by omega
   have hd1 : decide ((i : Int) < (i : Int)) = false:=by simp
   have hR:=HR.out.1.trans (mayV_rest (farB_true (by show ∀ j,j < ex.length → ex.getD j 0 ∉ ec; rw [← HR.out.2.1]; exact hall)))
   simp only [← HAB.out.1,← HAB.out.2] at hR
   have c0:=(HS2.out.ext hE).at0
   have c1:=(HS2.out.ext hE).at1
   have c2:=(HS2.out.ext hE).at2
   simp only at c0 c1 c2
   have H9:=veil (HE2.out.trans hE)
   clear hall hE HR HX HE2 HS2 KI hcE hcX HAB
   cases A with
   | false =>
    obtain rfl : R = false:=hR
    go_wp2
    go_ret
    exact ⟨rfl,H9.out⟩
   | true =>
    cases B with
    | false =>
     obtain rfl : R = false:=hR
     go_wp2
     go_ret
     exact ⟨rfl,H9.out⟩
    | true =>
     replace hR : R = boundB ⟨wk,fr,tu,ex,ec⟩:=hR
     by_cases g0 : (0 : Int) ≤ wk
     rotate_left
     ·
      have f0 : decide ((0 : Int) ≤ wk) = false:=decide_eq_false g0
      obtain rfl : R = false:=hR.trans (zca fun h => by omega)
      clear hR
      go_wp2
      go_ret
      exact ⟨rfl,H9.out⟩
     have f0 : decide ((0 : Int) ≤ wk) = true:=decide_eq_true g0
     by_cases g1 : wk ≤ 127
     rotate_left
     ·
      have f1 : decide (wk ≤ 127) = false:=decide_eq_false g1
      obtain rfl : R = false:=hR.trans (zca fun h => by omega)
      clear hR
      go_wp2
      go_ret
      exact ⟨rfl,H9.out⟩
     have f1 : decide (wk ≤ 127) = true:=decide_eq_true g1
     by_cases g2 : (0 : Int) ≤ fr
     rotate_left
     ·
      have f2 : decide ((0 : Int) ≤ fr) = false:=decide_eq_false g2
      obtain rfl : R = false:=hR.trans (zca fun h => by omega)
      clear hR
      go_wp2
      go_ret
      exact ⟨rfl,H9.out⟩
     have f2 : decide ((0 : Int) ≤ fr) = true:=decide_eq_true g2
     by_cases g3 : fr ≤ tu
     rotate_left
     ·
      have f3 : decide (fr ≤ tu) = false:=decide_eq_false g3
      obtain rfl : R = false:=hR.trans (zca fun h => by omega)
      clear hR
      go_wp2
      go_ret
      exact ⟨rfl,H9.out⟩
     have f3 : decide (fr ≤ tu) = true:=decide_eq_true g3
     by_cases g4 : tu ≤ 1048576
     rotate_left
     ·
      have f4 : decide (tu ≤ 1048576) = false:=decide_eq_false g4
      obtain rfl : R = false:=hR.trans (zca fun h => by omega)
      clear hR
      go_wp2
      go_ret
      exact ⟨rfl,H9.out⟩
     have f4 : decide (tu ≤ 1048576) = true:=decide_eq_true g4
     obtain rfl : R = true:=hR.trans (boundB_yes ⟨g0,g1,g2,g3,g4⟩)
     clear hR
     go_wp2
     go_ret
     exact ⟨rfl,H9.out⟩
abbrev Sw:=Sv × Value × Value
def swC (x : Sw) : List Value:=[.int .i64 x.1.wk,.int .i64 x.1.fr,.int .i64 x.1.to,x.2.1,x.2.2]
section
variable {w w' : World} {g : Nat} {vS vC : Value} {c : Cn}
end
abbrev Pw:=Pd × Value × Value
def pwC (x : Pw) : List Value:=[.int .i64 x.1.id,.int .i64 x.1.mi,.int .i64 x.1.sv.wk,.int .i64 x.1.sv.fr,.int .i64 x.1.sv.to,x.2.1,x.2.2]
def Ps14 (w : World) (v : Value) (l : List Pw) : Prop:=Ls 7 pwC w v l ∧ ∀ x ∈ l,Ds w x.2.1 x.1.sv.ex ∧ Ds w x.2.2 x.1.sv.ec
theorem Ps14.ext {w w' : World} {v : Value} {l : List Pw} (h : Ps14 w v l) (k : Ext w w') : Ps14 w' v l:=⟨h.1.ext k,fun x hx => ⟨(h.2 x hx).1.ext k,(h.2 x hx).2.ext k⟩⟩
def noPw : Pw:=(noPd,.slice none 0 0,.slice none 0 0)
theorem zgn {l : List Pw} {i : Nat} (h : i < l.length) : l[i]? = some (l.getD i noPw):=by rw [List.getD_eq_getElem?_getD,List.getElem?_eq_getElem h]; rfl
theorem pw_mem {l : List Pw} {i : Nat} (h : i < l.length) : l.getD i noPw ∈ l:=List.mem_of_getElem? (zgn h)
theorem pw_fst {l : List Pw} (i : Nat) : (l.map (·.1)).getD i noPd = (l.getD i noPw).1:=by
 rw [List.getD_eq_getElem?_getD,List.getD_eq_getElem?_getD,List.getElem?_map]
 cases l[i]? <;> rfl
def pds (l : List Pw) : List Pd:=l.map (·.1)
theorem zeu (l : List Pw) : (pds l).length = l.length:=List.length_map ..
theorem pds_at (l : List Pw) (i : Nat) : (pds l).getD i noPd = (l.getD i noPw).1:=pw_fst i
def pwS (x : Pw) : List Value:=[.int .i64 x.1.sv.wk,.int .i64 x.1.sv.fr,.int .i64 x.1.sv.to,x.2.1,x.2.2]
theorem iPwS (x : Pw) : (Tryz.prog.info? 49).map (·.size) = some (pwS x).length:=iSv x.1.sv x.2.1 x.2.2
theorem iPw (x : Pw) : (Tryz.prog.info? 51).map (·.size) = some (pwC x).length:=by
 show _ = some 7
 kernel_rfl
theorem pwS_range {w : World} {b o : Nat} {x : Pw} (h : w.rangeAt b o (pwC x)) : w.rangeAt b (o + 2) (pwS x):=fun j v hj => by
 have:=h (j + 2) v (by simpa [pwC,pwS] using hj)
 rwa [show o + (j + 2) = o + 2 + j by omega] at this
def smallP (x : Pd) : Prop:=x.sv.ex.length ≤ 300 ∧ x.sv.ec.length ≤ 300
instance (x : Pd) : Decidable (smallP x):=by unfold smallP; infer_instance
def fewP (l : List Pd) : Bool:=decide (l.length ≤ 60 ∧ ∀ i,i < l.length → smallP (l.getD i noPd))
theorem fewP_no {l : List Pd} {i : Nat} (hi : i < l.length) (h : ¬ smallP (l.getD i noPd)) : fewP l = false:=decide_eq_false fun k => h (k.2 i hi)
theorem fewP_len {l : List Pd} (h : ∀ i,i < l.length → smallP (l.getD i noPd)) : fewP l = decide (l.length ≤ 60):=by
 unfold fewP
 by_cases c : l.length ≤ 60
 ·
  rw [decide_eq_true c,decide_eq_true ⟨c,h⟩]
 ·
  rw [decide_eq_false c,decide_eq_false fun k => c k.1]
theorem fewP_60 {l : List Pd} (h : fewP l = true) : l.length ≤ 60:=(of_decide_eq_true h).1
theorem fewP_at {l : List Pd} (h : fewP l = true) {i : Nat} (hi : i < l.length) : smallP (l.getD i noPd):=(of_decide_eq_true h).2 i hi
theorem few14_calls (v : Value) (l : List Pw) (w : World) (hF : Ps14 w v l) (hL : (l.length : Int) ≤ 9223372036854775807) : Calls Tryz.prog 7 #[v] w fun e w' => e = .returned (.bool (fewP (pds l))) ∧ w' = w:=by
 obtain ⟨⟨AL,c,rfl,hc,hx⟩,hD⟩:=hF
 obtain ⟨R,hR⟩ : ∃ R,R = fewP (pds l):=⟨_,rfl⟩
 rw [← hR]
 obtain ⟨n,hn⟩ : ∃ n,n = l.length:=⟨_,rfl⟩
 rw [← hn] at hx hc hL ⊢
 have HX:=veil (And.intro hx hD)
 have HR:=veil (And.intro hR (And.intro hn (hn.trans (zeu l).symm)))
 clear hR hx hn hD
 go_enter Tryz.func7,Tryz.ntmps7
 go_wp2
 go_loopw [3] (fun v wr => ∃ i : Nat,i ≤ n ∧ v = .int .i64 (i : Int) ∧ (∀ j,j < i → smallP ((pds l).getD j noPd)) ∧ wr = w)
  (fun v _ => n - (intOf v).toNat)
 case atStart => exact ⟨0,by omega,rfl,fun j hj => by omega,rfl⟩
 case round =>
  obtain ⟨i,hi,rfl,hall,rfl⟩:=hrel
  by_cases hlt : i < n
  ·
   have hd1 : decide ((i : Int) < (n : Int)) = true:=by simp; omega
   have hii : (i : Int) < (n : Int):=by omega
   obtain ⟨b,o,hAL,hb,hcl⟩:=HX.out.1.resolve_left (by omega)
   have hil : i < l.length:=by have:=HR.out.2.1; omega
   have hrg:=hcl i _ (zgn hil)
   have hdd:=HX.out.2 _ (pw_mem hil)
   have hs:=pds_at l i
   obtain ⟨x,hxx⟩ : ∃ x,x = l.getD i noPw:=⟨_,rfl⟩
   rw [← hxx] at hrg hdd hs
   obtain ⟨s,vE,vX⟩:=x
   obtain ⟨⟨AE,cE,hvE,_,_⟩,⟨AX,cX,hvX,_,_⟩⟩:=hdd
   simp only at hvE hvX hs
   subst hvE hvX
   obtain ⟨p,hp⟩ : ∃ p,p = s.sv.ex.length:=⟨_,rfl⟩
   obtain ⟨q,hq⟩ : ∃ q,q = s.sv.ec.length:=⟨_,rfl⟩
   rw [← hp,← hq] at hrg
   have c5 : wr.cell? ⟨b,o + i * 7 + 5,none⟩ = some (.slice AE p cE):=hrg 5 _ rfl
   have c6 : wr.cell? ⟨b,o + i * 7 + 6,none⟩ = some (.slice AX q cX):=hrg 6 _ rfl
   have HI:=veil (And.intro hall (And.intro hs (And.intro hp hq)))
   have hno : ¬ (p ≤ 300 ∧ q ≤ 300) → R = false:=fun h => HR.out.1.trans (fewP_no (i:=i) (by have:=HR.out.2.2; omega) (by rw [hs]; unfold smallP; rw [← hp,← hq]; exact h))
   have HN:=veil hno
   subst hAL
   clear hrg hxx hs hp hq hall hb hcl hil hno
   by_cases a1 : (300 : Int) < (p : Int)
   ·
    have d1 : decide ((300 : Int) < (p : Int)) = true:=decide_eq_true a1
    obtain rfl : R = false:=HN.out (by omega)
    go_wp2
    go_ret
    exact ⟨rfl,rfl⟩
   have d1 : decide ((300 : Int) < (p : Int)) = false:=decide_eq_false a1
   by_cases a2 : (300 : Int) < (q : Int)
   ·
    have d2 : decide ((300 : Int) < (q : Int)) = true:=decide_eq_true a2
    obtain rfl : R = false:=HN.out (by omega)
    go_wp2
    go_ret
    exact ⟨rfl,rfl⟩
   have d2 : decide ((300 : Int) < (q : Int)) = false:=decide_eq_false a2
   go_wp2
   go_roundw
   case rel =>
    refine ⟨i + 1,by omega,by go_num,fun j hj => ?_,trivial⟩
    by_cases e : j = i
    ·
     subst e
     rw [HI.out.2.1]
     unfold smallP
     rw [← HI.out.2.2.1,← HI.out.2.2.2]
     omega
    ·
     exact HI.out.1 j (by omega)
   case measure => simp [intOf]; omega
  ·
   obtain rfl : i = n:=by omega
   have hd1 : decide ((i : Int) < (i : Int)) = false:=by simp
   have e : R = decide ((i : Int) ≤ 60):=by
    rw [HR.out.1,fewP_len (by rw [← HR.out.2.2]; exact hall),← HR.out.2.2]
    by_cases h : i ≤ 60
    ·
     rw [decide_eq_true h,decide_eq_true (by omega)]
    ·
     rw [decide_eq_false h,decide_eq_false (by omega)]
   have HE:=veil e
   clear hall e
   go_wp2
   go_ret
   exact ⟨by rw [HE.out]; rfl,rfl⟩
theorem place14_calls (z a : Int) (w : World) : Calls Tryz.prog 15 #[.int .i64 z,.int .i64 a] w fun e w' => e = .returned (.bool (placeB z a)) ∧ w' = w:=by
 obtain ⟨R,hR⟩ : ∃ R,R = placeB z a:=⟨_,rfl⟩
 rw [← hR]
 unfold placeB at hR
 by_cases g0 : (0 : Int) ≤ z
 rotate_left
 ·
  have f0 : decide ((0 : Int) ≤ z) = false:=decide_eq_false g0
  obtain rfl : R = false:=hR.trans (decide_eq_false fun h => by omega)
  clear hR
  go_enter Tryz.func15,Tryz.ntmps15
  go_wp2
  go_ret
  exact ⟨rfl,rfl⟩
 have f0 : decide ((0 : Int) ≤ z) = true:=decide_eq_true g0
 by_cases g1 : z ≤ 7
 rotate_left
 ·
  have f1 : decide (z ≤ 7) = false:=decide_eq_false g1
  obtain rfl : R = false:=hR.trans (decide_eq_false fun h => by omega)
  clear hR
  go_enter Tryz.func15,Tryz.ntmps15
  go_wp2
  go_ret
  exact ⟨rfl,rfl⟩
 have f1 : decide (z ≤ 7) = true:=decide_eq_true g1
 by_cases g2 : (0 : Int) ≤ a
 rotate_left
 ·
  have f2 : decide ((0 : Int) ≤ a) = false:=decide_eq_false g2
  obtain rfl : R = false:=hR.trans (decide_eq_false fun h => by omega)
  clear hR
  go_enter Tryz.func15,Tryz.ntmps15
  go_wp2
  go_ret
  exact ⟨rfl,rfl⟩
 have f2 : decide ((0 : Int) ≤ a) = true:=decide_eq_true g2
 by_cases g3 : a ≤ 1073741824
 rotate_left
 ·
  have f3 : decide (a ≤ 1073741824) = false:=decide_eq_false g3
  obtain rfl : R = false:=hR.trans (decide_eq_false fun h => by omega)
  clear hR
  go_enter Tryz.func15,Tryz.ntmps15
  go_wp2
  go_ret
  exact ⟨rfl,rfl⟩
 have f3 : decide (a ≤ 1073741824) = true:=decide_eq_true g3
 obtain rfl : R = true:=hR.trans (decide_eq_true ⟨g0,g1,g2,g3⟩)
 clear hR
 go_enter Tryz.func15,Tryz.ntmps15
 go_wp2
 go_ret
 exact ⟨rfl,rfl⟩
theorem rmay14_calls (v : Value) (l : List Pw) (w : World) (hF : Ps14 w v l) (hL : fewP (pds l) = true) : Calls Tryz.prog 8 #[v] w fun e w' => e = .returned (.bool (mayP (pds l))) ∧ Ext w w':=by
 obtain ⟨⟨AL,c,rfl,hc,hx⟩,hD⟩:=hF
 obtain ⟨R,hR⟩ : ∃ R,R = mayP (pds l):=⟨_,rfl⟩
 rw [← hR]
 have h60:=fewP_60 hL
 rw [zeu] at h60
 obtain ⟨n,hn⟩ : ∃ n,n = l.length:=⟨_,rfl⟩
 rw [← hn] at hx hc h60 ⊢
 have HX:=veil (And.intro hx hD)
 have HR:=veil (And.intro hR (And.intro hn (And.intro (hn.trans (zeu l).symm) hL)))
 clear hR hx hn hL hD
 go_enter Tryz.func8,Tryz.ntmps8
 go_wp2
 go_loopw [3,4] (fun v _ wr => ∃ i : Nat,i ≤ n ∧ v = .int .i64 (i : Int) ∧ (∀ j,j < i → okP (pds l) j) ∧ Ext w wr)
  (fun v _ _ => n - (intOf v).toNat)
 case atStart => exact ⟨0,by omega,rfl,fun j hj => by omega,Ext.refl _⟩
 case round =>
  obtain ⟨i,hi,rfl,hall,hE⟩:=hrel
  by_cases hlt : i < n
  ·
   have hd1 : decide ((i : Int) < (n : Int)) = true:=by simp; omega
   have hii : (i : Int) < (n : Int):=by omega
   obtain ⟨b,o,hAL,hb,hcl⟩:=HX.out.1.resolve_left (by omega)
   have hil : i < l.length:=by have:=HR.out.2.1; omega
   have hrg:=hcl i _ (zgn hil)
   have hdd:=HX.out.2 _ (pw_mem hil)
   have hs:=pds_at l i
   have hfew:=fewP_at HR.out.2.2.2 (i:=i) (by have:=HR.out.2.2.1; omega)
   rw [hs] at hfew
   have hpr : 0 < i → ∀ W,Ext w W → W.cell? ⟨b,o + (i - 1) * 7,none⟩ = some (.int .i64 ((pds l).getD (i - 1) noPd).id):=fun h0 W hW => by
    rw [pds_at]
    exact zan hW hb (hcl (i - 1) _ (zgn (by omega))) 0 _ rfl
   obtain ⟨x,hxx⟩ : ∃ x,x = l.getD i noPw:=⟨_,rfl⟩
   rw [← hxx] at hrg hdd hs hfew
   have hKM:=rmay12_calls (.agg (pwS x).toArray) x.1.sv wr ⟨_,_,rfl,hdd.1.ext hE,hdd.2.ext hE⟩ (by have:=hfew.1; omega) (by have:=hfew.2; omega)
   have hRG:=zan hE hb (pwS_range hrg)
   have hc0 : ∀ W,Ext w W → W.cell? ⟨b,o + i * 7,none⟩ = some (.int .i64 x.1.id):=fun W hW => zan hW hb hrg 0 _ rfl
   have hc1 : ∀ W,Ext w W → W.cell? ⟨b,o + i * 7 + 1,none⟩ = some (.int .i64 x.1.mi):=fun W hW => zan hW hb hrg 1 _ rfl
   have hfalse : ∀ h : ¬ okP (pds l) i,R = false:=fun h => HR.out.1.trans (mayP_no (by have:=HR.out.2.2.1; omega) h)
   obtain ⟨M,hM⟩ : ∃ M,M = mayV x.1.sv:=⟨_,rfl⟩
   rw [← hM] at hKM
   obtain ⟨id,hid⟩ : ∃ z,z = x.1.id:=⟨_,rfl⟩
   obtain ⟨mi,hmi⟩ : ∃ z,z = x.1.mi:=⟨_,rfl⟩
   rw [← hid] at hc0
   rw [← hmi] at hc1
   have KM:=veil hKM
   have HG:=veil hRG
   have HC:=veil (And.intro hc0 (And.intro hc1 hpr))
   have HV:=veil (And.intro hall (And.intro hfalse (And.intro hs (And.intro hM (And.intro hid hmi)))))
   have HE:=veil hE
   subst hAL
   clear hrg hxx hs hM hid hmi hall hfalse hb hcl hil hdd hfew hc0 hc1 hpr hKM hRG hE
   go_upto_region 5 with (first
    | ((with_reducible refine zaa 15 ?_); refine wpList_load_mid rfl 49 _ rfl b _ rfl (pwS x) _ HG.out Tryz.underlying49 rfl (iPwS x) ?_)
    | (go_at_call 20; refine KM.out.mono ?_; rintro e w1 ⟨rfl,hE1⟩))
   have HE1:=veil (HE.out.trans hE1)
   have c0:=HC.out.1 w1 HE1.out
   have c1:=HC.out.2.1 w1 HE1.out
   clear KM HG HE hE1
   by_cases a0 : id < (1 : Int)
   ·
    have da0 : decide (id < (1 : Int)) = true:=decide_eq_true a0
    obtain rfl : R = false:=HV.out.2.1 fun h => by unfold okP at h; rw [HV.out.2.2.1,← HV.out.2.2.2.2.1,← HV.out.2.2.2.2.2,← HV.out.2.2.2.1] at h; have h1:=h.1; omega
    go_quiet (fail)
    go_wp2
    go_ret
    exact ⟨rfl,HE1.out.trans (Ext.drewK _ _)⟩
   have da0 : decide (id < (1 : Int)) = false:=decide_eq_false a0
   by_cases a1 : (16 : Int) < id
   ·
    have da1 : decide ((16 : Int) < id) = true:=decide_eq_true a1
    obtain rfl : R = false:=HV.out.2.1 fun h => by unfold okP at h; rw [HV.out.2.2.1,← HV.out.2.2.2.2.1,← HV.out.2.2.2.2.2,← HV.out.2.2.2.1] at h; have h1:=h.2.1; omega
    go_quiet (fail)
    go_wp2
    go_ret
    exact ⟨rfl,HE1.out.trans (Ext.drewK _ _)⟩
   have da1 : decide ((16 : Int) < id) = false:=decide_eq_false a1
   by_cases g7 : i = 0
   ·
    have d9 : decide (0 < i) = false:=by simp; omega
    have d9' : decide ((0 : Int) < (i : Int)) = false:=by simp; omega
    have G:=veil g7
    clear g7
    by_cases a3 : mi < (1 : Int)
    ·
     have da3 : decide (mi < (1 : Int)) = true:=decide_eq_true a3
     obtain rfl : R = false:=HV.out.2.1 fun h => by unfold okP at h; rw [HV.out.2.2.1,← HV.out.2.2.2.2.1,← HV.out.2.2.2.2.2,← HV.out.2.2.2.1] at h; have h1:=h.2.2.2.1; omega
     go_quiet (fail)
     go_wp2
     go_ret
     exact ⟨rfl,HE1.out.trans (Ext.drewK _ _)⟩
    have da3 : decide (mi < (1 : Int)) = false:=decide_eq_false a3
    by_cases a4 : (1048576 : Int) < mi
    ·
     have da4 : decide ((1048576 : Int) < mi) = true:=decide_eq_true a4
     obtain rfl : R = false:=HV.out.2.1 fun h => by unfold okP at h; rw [HV.out.2.2.1,← HV.out.2.2.2.2.1,← HV.out.2.2.2.2.2,← HV.out.2.2.2.1] at h; have h1:=h.2.2.2.2.1; omega
     go_quiet (fail)
     go_wp2
     go_ret
     exact ⟨rfl,HE1.out.trans (Ext.drewK _ _)⟩
    have da4 : decide ((1048576 : Int) < mi) = false:=decide_eq_false a4
    cases M with
    | false =>
     obtain rfl : R = false:=HV.out.2.1 fun h => by unfold okP at h; rw [HV.out.2.2.1,← HV.out.2.2.2.2.1,← HV.out.2.2.2.2.2,← HV.out.2.2.2.1] at h; have h1:=h.2.2.2.2.2; cases h1
     go_quiet (fail)
     go_wp2
     go_ret
     exact ⟨rfl,HE1.out.trans (Ext.drewK _ _)⟩
    | true =>
     have HO:=veil (show okP (pds l) i from by unfold okP; rw [HV.out.2.2.1,← HV.out.2.2.2.2.1,← HV.out.2.2.2.2.2,← HV.out.2.2.2.1]; exact ⟨by omega,by omega,fun h => absurd h (by have:=G.out; omega),by omega,by omega,rfl⟩)
     clear a0 a1 a3 a4
     go_quiet (fail)
     go_wp2
     go_roundw
     case rel =>
      refine ⟨i + 1,by omega,by go_num,fun j hj => ?_,HE1.out.trans (Ext.drewK _ _)⟩
      by_cases e : j = i
      ·
       subst e; exact HO.out
      ·
       exact HV.out.1 j (by omega)
     case measure => simp [intOf]; omega
   ·
    have d9 : decide (0 < i) = true:=by simp; omega
    have d9' : decide ((0 : Int) < (i : Int)) = true:=by simp; omega
    have cp:=HC.out.2.2 (by omega) w1 HE1.out
    obtain ⟨z,hz⟩ : ∃ z,z = ((pds l).getD (i - 1) noPd).id:=⟨_,rfl⟩
    rw [← hz] at cp
    have hki2 : (i : Int) - 1 = ((i - 1 : Nat) : Int):=by omega
    obtain ⟨m,hm⟩ : ∃ m,m = i - 1:=⟨_,rfl⟩
    rw [← hm] at cp hki2
    have hmn : (m : Int) < (n : Int):=by omega
    have HZ:=veil (And.intro hz (And.intro hm (show 0 < i by omega)))
    clear hz hm g7
    by_cases a2 : id ≤ z
    ·
     have da2 : decide (id ≤ z) = true:=decide_eq_true a2
     obtain rfl : R = false:=HV.out.2.1 fun h => by unfold okP at h; rw [HV.out.2.2.1,← HV.out.2.2.2.2.1,← HZ.out.1] at h; have h1:=h.2.2.1 HZ.out.2.2; omega
     go_quiet (fail)
     go_wp2
     go_ret
     exact ⟨rfl,HE1.out.trans (Ext.drewK _ _)⟩
    have da2 : decide (id ≤ z) = false:=decide_eq_false a2
    by_cases a3 : mi < (1 : Int)
    ·
     have da3 : decide (mi < (1 : Int)) = true:=decide_eq_true a3
     obtain rfl : R = false:=HV.out.2.1 fun h => by unfold okP at h; rw [HV.out.2.2.1,← HV.out.2.2.2.2.1,← HV.out.2.2.2.2.2,← HV.out.2.2.2.1] at h; have h1:=h.2.2.2.1; omega
     go_quiet (fail)
     go_wp2
     go_ret
     exact ⟨rfl,HE1.out.trans (Ext.drewK _ _)⟩
    have da3 : decide (mi < (1 : Int)) = false:=decide_eq_false a3
    by_cases a4 : (1048576 : Int) < mi
    ·
     have da4 : decide ((1048576 : Int) < mi) = true:=decide_eq_true a4
     obtain rfl : R = false:=HV.out.2.1 fun h => by unfold okP at h; rw [HV.out.2.2.1,← HV.out.2.2.2.2.1,← HV.out.2.2.2.2.2,← HV.out.2.2.2.1] at h; have h1:=h.2.2.2.2.1; omega
     go_quiet (fail)
     go_wp2
     go_ret
     exact ⟨rfl,HE1.out.trans (Ext.drewK _ _)⟩
    have da4 : decide ((1048576 : Int) < mi) = false:=decide_eq_false a4
    cases M with
    | false =>
     obtain rfl : R = false:=HV.out.2.1 fun h => by unfold okP at h; rw [HV.out.2.2.1,← HV.out.2.2.2.2.1,← HV.out.2.2.2.2.2,← HV.out.2.2.2.1] at h; have h1:=h.2.2.2.2.2; cases h1
     go_quiet (fail)
     go_wp2
     go_ret
     exact ⟨rfl,HE1.out.trans (Ext.drewK _ _)⟩
    | true =>
     have HO:=veil (show okP (pds l) i from by unfold okP; rw [HV.out.2.2.1,← HV.out.2.2.2.2.1,← HV.out.2.2.2.2.2,← HV.out.2.2.2.1]; exact ⟨by omega,by omega,fun _ => by rw [← HZ.out.1]; omega,by omega,by omega,rfl⟩)
     clear a0 a1 a3 a4
     go_quiet (fail)
     go_wp2
     go_roundw
     case rel =>
      refine ⟨i + 1,by omega,by go_num,fun j hj => ?_,HE1.out.trans (Ext.drewK _ _)⟩
      by_cases e : j = i
      ·
       subst e; exact HO.out
      ·
       exact HV.out.1 j (by omega)
     case measure => simp [intOf]; omega
  ·
   obtain rfl : i = n:=by omega
   have hd1 : decide ((i : Int) < (i : Int)) = false:=by simp
   have e : R = decide ((i : Int) ≤ 16):=by
    rw [HR.out.1,mayP_len (by rw [← HR.out.2.2.1]; exact hall),← HR.out.2.2.1]
    by_cases h : i ≤ 16
    ·
     rw [decide_eq_true h,decide_eq_true (by omega)]
    ·
     rw [decide_eq_false h,decide_eq_false (by omega)]
   have HE:=veil (And.intro e hE)
   clear hall e hE
   go_wp2
   go_ret
   exact ⟨by rw [HE.out.1]; rfl,HE.out.2⟩
theorem zfz (w : Int) (h : 0 ≤ w) : ∀ k : Nat,w / 2 ^ k ≤ w
 | 0 => by simp
 | k + 1 => by
  rw [← half_step w h k,Int.tdiv_eq_ediv_of_nonneg (zbt w h k)]
  have:=zfz w h k
  have:=zbt w h k
  omega
theorem zge {x : Int} (h0 : 0 ≤ x) (h1 : x ≤ 127) : IntKind.i64.wrap x = x:=by
 rw [IntKind.wrap_i64]
 omega
theorem rruns12_calls (v : Value) (s : Sv) (d : Int) (w : World) (hF : Vs12 w v s) (hM : mayV s = true) :
  Calls Tryz.prog 44 #[v,.int .i64 d] w fun e w' => e = .returned (.bool (runsV s d)) ∧ Ext w w':=by
 obtain ⟨h1,h2,_,m1,m2,m3,m4,m5⟩:=zfx hM
 obtain ⟨vE,vX,rfl,hE,hX⟩:=hF
 obtain ⟨R,hR⟩ : ∃ R,R = runsV s d:=⟨_,rfl⟩
 rw [← hR]
 have KA:=veil (fun W (h : Ext w W) => zir vE s.ex d W (hE.ext h) (by have:=zfn h1; omega))
 have KB:=veil (fun W (h : Ext w W) => zir vX s.ec d W (hX.ext h) (by have:=zfn h2; omega))
 obtain ⟨wk,fr,tu,ex,ec⟩:=s
 obtain ⟨AE,cE,rfl,_,_⟩:=hE
 obtain ⟨AX,cX,rfl,_,_⟩:=hX
 simp only at KA KB m1 m2 m3 m4 m5
 obtain ⟨n,hn⟩ : ∃ n,n = ex.length:=⟨_,rfl⟩
 obtain ⟨m,hm⟩ : ∃ m,m = ec.length:=⟨_,rfl⟩
 simp only [← hn,← hm] at KA KB ⊢
 clear hn hm
 have hE0:=Ext.alloc w (.cells (svC ⟨wk,fr,tu,ex,ec⟩ (.slice AE n cE) (.slice AX m cX)) 49)
 have hS0:=SvAt.new w ⟨wk,fr,tu,ex,ec⟩ (.slice AE n cE) (.slice AX m cX)
 unfold runsV at hR
 simp only at hR
 obtain ⟨I,hI⟩ : ∃ I,I = decide (d ∈ ex):=⟨_,rfl⟩
 obtain ⟨J,hJ⟩ : ∃ J,J = decide (d ∈ ec):=⟨_,rfl⟩
 rw [← hI,← hJ] at hR
 rw [← hI] at KA
 rw [← hJ] at KB
 have HR:=veil hR
 have HM:=veil (And.intro m1 (And.intro m2 (And.intro m3 (And.intro m4 m5))))
 clear hM h1 h2 hR hI hJ m1 m2 m3 m4 m5
 unfold svC at hE0 ⊢
 simp only at hE0 ⊢
 go_enter Tryz.func44,Tryz.ntmps44
 go_upto_region 1 with (fail)
 unfold SvAt svC at hS0
 simp only at hS0
 obtain ⟨g,hg⟩ : ∃ g,g = w.heap.size:=⟨_,rfl⟩
 rw [← hg] at hS0 ⊢
 generalize w.alloc (.cells #[.int .i64 wk,.int .i64 fr,.int .i64 tu,.slice AE n cE,.slice AX m cX] 49) = w0 at *
 have HS:=veil (show SvAt w0 g ⟨wk,fr,tu,ex,ec⟩ (.slice AE n cE) (.slice AX m cX) from hS0)
 have HE:=veil hE0
 clear hE0 hS0 hg
 have c3:=HS.out.at3
 go_upto_region 2 with (go_at_call 43; refine (KA.out _ HE.out).mono ?_; rintro e w1 ⟨rfl,hE1⟩)
 have HE1:=veil (HE.out.trans hE1)
 have HS1:=veil (HS.out.ext hE1)
 clear hE1 c3 KA HS HE
 have c4:=HS1.out.at4
 go_upto_region 3 with (go_at_call 43; refine (KB.out _ HE1.out).mono ?_; rintro e w2 ⟨rfl,hE2⟩)
 have HE2:=veil (HE1.out.trans hE2)
 have HS2:=veil (HS1.out.ext hE2)
 clear hE2 c4 HS1 HE1 KB
 have c0:=HS2.out.at0
 have c1:=HS2.out.at1
 have c2:=HS2.out.at2
 simp only at c0 c1 c2
 clear HS2
 cases I with
 | true =>
  have e : R = true:=HR.out
  subst e
  go_wp2
  go_ret
  exact ⟨rfl,HE2.out⟩
 | false =>
  cases J with
  | true =>
   have e : R = false:=HR.out
   subst e
   go_wp2
   go_ret
   exact ⟨rfl,HE2.out⟩
  | false =>
   by_cases g1 : d < fr
   ·
    have d1 : decide (d < fr) = true:=decide_eq_true g1
    have e : R = false:=HR.out.trans (by rw [decide_eq_false (p:=_ ∧ _) fun h => by omega]; rfl)
    subst e
    go_wp2
    go_ret
    exact ⟨rfl,HE2.out⟩
   have d1 : decide (d < fr) = false:=decide_eq_false g1
   by_cases g2 : tu ≤ d
   ·
    have d2 : decide (tu ≤ d) = true:=decide_eq_true g2
    have e : R = false:=HR.out.trans (by rw [decide_eq_false (p:=_ ∧ _) fun h => by omega]; rfl)
    subst e
    go_wp2
    go_ret
    exact ⟨rfl,HE2.out⟩
   have d2 : decide (tu ≤ d) = false:=decide_eq_false g2
   obtain ⟨K,hK⟩ : ∃ K : Nat,K = (d % 7).toNat:=⟨_,rfl⟩
   have hd0 : 0 ≤ d:=by have:=HM.out.2.2.1; omega
   have hr : d.tmod 7 = (K : Int):=by rw [Int.tmod_eq_emod_of_nonneg hd0,hK]; omega
   have hK7 : K < 7:=by omega
   have e : R = decide (wk / 2 ^ K % 2 = 1):=by
    rw [HR.out,← hK]
    have e1 : (fr ≤ d) = True:=eq_true (by omega)
    have e2 : (d < tu) = True:=eq_true (by omega)
    simp [e1,e2]
   have HQ:=veil (And.intro e hd0)
   clear e HR hK hd0
   go_wp2
   go_loopw [7,8] (fun u v wr => ∃ i : Nat,i ≤ K ∧ v = .int .i64 (i : Int) ∧ u = .int .i64 (wk / 2 ^ i) ∧ Ext w2 wr)
    (fun _ v _ => K - (intOf v).toNat)
   case atStart => exact ⟨0,by omega,rfl,by simp,Ext.refl _⟩
   case round =>
    obtain ⟨i,hi,rfl,rfl,hE⟩:=hrel
    have q0:=zbt wk HM.out.1 i
    have q1:=zfz wk HM.out.1 i
    have q2:=HM.out.2.1
    obtain ⟨x,hx⟩ : ∃ x,x = wk / 2 ^ i:=⟨_,rfl⟩
    rw [← hx] at q0 q1 ⊢
    have hxw : IntKind.i64.wrap x = x:=zge q0 (by omega)
    by_cases hlt : i < K
    ·
     have hd1 : decide ((i : Int) < (K : Int)) = true:=by simp; omega
     have hii : (i : Int) < (K : Int):=by omega
     have hs:=half_step wk HM.out.1 i
     have q3:=zbt wk HM.out.1 (i + 1)
     have q4:=zfz wk HM.out.1 (i + 1)
     rw [← hx] at hs
     obtain ⟨y,hy⟩ : ∃ y,y = wk / 2 ^ (i + 1):=⟨_,rfl⟩
     rw [← hy] at hs q3 q4
     have hyw : IntKind.i64.wrap y = y:=zge q3 (by omega)
     have HY:=veil (And.intro hy hE)
     clear hy hE q0 q1 q2 q3 q4 hx
     go_wp2
     go_roundw
     case rel => exact ⟨i + 1,by omega,by go_num,by rw [← HY.out.1]; (try simp only [hs,hyw]),HY.out.2⟩
     case measure => simp [intOf]; omega
    ·
     obtain rfl : i = K:=by omega
     have hd1 : decide ((i : Int) < (i : Int)) = false:=by simp
     have hb:=rem_one x
     have e : R = decide (x % 2 = 1):=by rw [HQ.out.1,hx]
     rw [← e] at hb
     have HE9:=veil (HE2.out.trans hE)
     clear e HQ hx hE HE2
     go_wp2
     go_ret
     exact ⟨rfl,HE9.out⟩
section
variable {w w' : World} {g : Nat} {t : Tk}
def TkAt (w : World) (g : Nat) (t : Tk) : Prop:=w.heap[g]? = some (.cells (tkC t) 24 (0,0))
theorem TkAt.ext (h : TkAt w g t) (k : Ext w w') : TkAt w' g t:=k.block h
theorem TkAt.at0 (h : TkAt w g t) : w.cell? ⟨g,0,none⟩ = some (.int .i64 t.s):=cell_of_row w g 0 _ _ _ h
theorem TkAt.at1 (h : TkAt w g t) : w.cell? ⟨g,1,none⟩ = some (.int .i64 t.p):=cell_of_row w g 1 _ _ _ h
theorem TkAt.at2 (h : TkAt w g t) : w.cell? ⟨g,2,none⟩ = some (.int .i64 t.z):=cell_of_row w g 2 _ _ _ h
theorem TkAt.at3 (h : TkAt w g t) : w.cell? ⟨g,3,none⟩ = some (.int .i64 t.f):=cell_of_row w g 3 _ _ _ h
theorem TkAt.new (w : World) (t : Tk) : TkAt (w.alloc (.cells (tkC t) 24)) w.heap.size t:=zab w _
end
theorem mayT_is {t : Tk} (h : mayT t = true) : 1 ≤ t.s ∧ t.s ≤ 2147483647 ∧ 1 ≤ t.p ∧ t.p ≤ 16 ∧ 1 ≤ t.z ∧ t.z ≤ 255 ∧ 0 ≤ t.f ∧ t.f ≤ 1073741824 ∧ 1 ≤ t.k ∧ t.k ≤ 2147483647:=of_decide_eq_true h
theorem placeB_is {z a : Int} (h : placeB z a = true) : 0 ≤ z ∧ z ≤ 7 ∧ 0 ≤ a ∧ a ≤ 1073741824:=of_decide_eq_true h
theorem whyX_zone {x : Pd} {t : Tk} {z a : Int} (h : t.z / 2 ^ z.toNat % 2 = 0) : whyX x t z a = 5:=if_pos h
theorem zhe {x : Pd} {t : Tk} {z a : Int} (h : ¬ t.z / 2 ^ z.toNat % 2 = 0) (k : a < t.f ∨ t.f + x.mi ≤ a ∨ runsV x.sv (a / 1440) = false) : whyX x t z a = 6:=by unfold whyX; rw [if_neg h,if_pos k]
theorem whyX_ok {x : Pd} {t : Tk} {z a : Int} (h : ¬ t.z / 2 ^ z.toNat % 2 = 0) (k1 : ¬ a < t.f) (k2 : ¬ t.f + x.mi ≤ a) (k3 : runsV x.sv (a / 1440) = true) : whyX x t z a = 1:=by
 unfold whyX
 rw [if_neg h,if_neg fun k => by
  rcases k with k | k | k
  ·
   exact k1 k
  ·
   exact k2 k
  ·
   rw [k3] at k; cases k]
theorem whyV_none {l : List Pd} {t : Tk} {z a : Int} (h : prodP l t.p = none) : whyV l t z a = 7:=by unfold whyV; rw [h]
theorem whyV_some {l : List Pd} {t : Tk} {z a : Int} {x : Pd} (h : prodP l t.p = some x) : whyV l t z a = whyX x t z a:=by unfold whyV; rw [h]
theorem rwhy14_calls (v : Value) (l : List Pw) (t : Tk) (z a : Int) (w : World) (hF : Ps14 w v l) (hM : mayP (pds l) = true) (hT : mayT t = true) (hP : placeB z a = true) :
  Calls Tryz.prog 22 #[v,tkV t,.int .i64 z,.int .i64 a] w fun e w' => e = .returned (.int .i64 (whyV (pds l) t z a)) ∧ Ext w w':=by
 obtain ⟨⟨AL,c,rfl,hc,hx⟩,hD⟩:=hF
 obtain ⟨R,hR⟩ : ∃ R,R = whyV (pds l) t z a:=⟨_,rfl⟩
 rw [← hR]
 have h16:=mayP_16 hM
 rw [zeu] at h16
 obtain ⟨n,hn⟩ : ∃ n,n = l.length:=⟨_,rfl⟩
 rw [← hn] at hx hc h16 ⊢
 have HX:=veil (And.intro hx hD)
 have HR:=veil (And.intro hR (And.intro hn (And.intro (hn.trans (zeu l).symm) hM)))
 have HT:=veil (And.intro (mayT_is hT) (placeB_is hP))
 have hE0:=Ext.alloc w (.cells (tkC t) 24)
 have hS0:=TkAt.new w t
 clear hR hx hn hD hM hT hP
 unfold tkV
 go_enter Tryz.func22,Tryz.ntmps22
 go_upto_region 1 with (fail)
 obtain ⟨g,hg⟩ : ∃ g,g = w.heap.size:=⟨_,rfl⟩
 rw [← hg] at hS0 ⊢
 generalize w.alloc (.cells (tkC t) 24) = w0 at *
 have HS:=veil hS0
 have HE:=veil hE0
 clear hE0 hS0 hg
 obtain ⟨p,hp⟩ : ∃ p,p = t.p:=⟨_,rfl⟩
 have HPp:=veil hp
 go_wp2
 go_loopw [9,10] (fun u v wr => ∃ i : Nat,i ≤ n ∧ v = .int .i64 (i : Int) ∧ ((u = .int .i64 (-1) ∧ ∀ j,j < i → ((pds l).getD j noPd).id ≠ t.p) ∨ (∃ m : Nat,m < i ∧ u = .int .i64 (m : Int) ∧ ((pds l).getD m noPd).id = t.p)) ∧ Ext w0 wr)
  (fun _ v _ => n - (intOf v).toNat)
 case atStart => exact ⟨0,by omega,rfl,.inl ⟨rfl,fun j hj => by omega⟩,Ext.refl _⟩
 case round =>
  obtain ⟨i,hi,rfl,hst,hE⟩:=hrel
  by_cases hlt : i < n
  ·
   have hd1 : decide ((i : Int) < (n : Int)) = true:=by simp; omega
   have hii : (i : Int) < (n : Int):=by omega
   obtain ⟨b,o,hAL,hb,hcl⟩:=HX.out.1.resolve_left (by omega)
   have hil : i < l.length:=by have:=HR.out.2.1; omega
   have c0 : wr.cell? ⟨b,o + i * 7,none⟩ = some (.int .i64 (l.getD i noPw).1.id):=zan (HE.out.trans hE) hb (hcl i _ (zgn hil)) 0 _ rfl
   have c1:=(HS.out.ext hE).at1
   rw [← pds_at] at c0
   rw [← hp] at c1
   obtain ⟨id,hid⟩ : ∃ z,z = ((pds l).getD i noPd).id:=⟨_,rfl⟩
   rw [← hid] at c0
   have HV:=veil (And.intro hid (And.intro hst hE))
   subst hAL
   clear hid hb hcl hil hst hE
   go_upto_region 5 with (fail)
   by_cases g0 : id = p
   ·
    have f0 : (id == p) = true:=by simp [g0]
    have G:=veil g0
    clear g0
    go_quiet (fail)
    go_wp2
    go_roundw
    case rel => exact ⟨i + 1,by omega,by go_num,.inr ⟨i,by omega,rfl,by rw [← HV.out.1,G.out,HPp.out]⟩,HV.out.2.2.trans (Ext.drewK _ _)⟩
    case measure => simp [intOf]; omega
   ·
    have f0 : (id == p) = false:=by simp [g0]
    have G:=veil g0
    clear g0
    go_quiet (fail)
    go_wp2
    go_roundw
    case rel =>
     refine ⟨i + 1,by omega,by go_num,?_,HV.out.2.2.trans (Ext.drewK _ _)⟩
     rcases HV.out.2.1 with ⟨h1,h2⟩ | ⟨m,h1,h2,h3⟩
     ·
      refine .inl ⟨h1,fun j hj => ?_⟩
      by_cases e : j = i
      ·
       subst e; rw [← HV.out.1,← HPp.out]; exact G.out
      ·
       exact h2 j (by omega)
     ·
      exact .inr ⟨m,by omega,h2,h3⟩
    case measure => simp [intOf]; omega
  ·
   obtain rfl : i = n:=by omega
   have hd1 : decide ((i : Int) < (i : Int)) = false:=by simp
   have HE1:=veil hE
   clear hE
   rcases hst with ⟨rfl,hno⟩ | ⟨m,hmi,rfl,hid⟩
   ·
    obtain rfl : R = 7:=HR.out.1.trans (whyV_none (prodP_no fun j hj => hno j (by have:=HR.out.2.2.1; omega)))
    clear hno
    go_wp2
    go_ret
    exact ⟨rfl,HE.out.trans HE1.out⟩
   ·
    have hmp : m < (pds l).length:=by have:=HR.out.2.2.1; omega
    have hwx:=whyV_some (t:=t) (z:=z) (a:=a) (prodP_at HR.out.2.2.2 hmp hid)
    have hok:=mayP_ok HR.out.2.2.2 hmp
    obtain ⟨b,o,hAL,hb,hcl⟩:=HX.out.1.resolve_left (by omega)
    have hil : m < l.length:=by have:=HR.out.2.1; omega
    have hrg:=hcl m _ (zgn hil)
    have hdd:=HX.out.2 _ (pw_mem hil)
    have hs:=pds_at l m
    rw [hs] at hwx
    unfold okP at hok
    rw [hs] at hok
    obtain ⟨x,hxx⟩ : ∃ x,x = l.getD m noPw:=⟨_,rfl⟩
    rw [← hxx] at hrg hdd hwx hok
    have HW:=veil (And.intro (HR.out.1.trans hwx) (And.intro hok.2.2.2.1 hok.2.2.2.2.1))
    obtain ⟨y,hy⟩ : ∃ y,y = runsV x.1.sv (a / 1440):=⟨_,rfl⟩
    have KR:=veil (fun W (h : Ext w W) => rruns12_calls (.agg (pwS x).toArray) x.1.sv (a / 1440) W ⟨_,_,rfl,hdd.1.ext h,hdd.2.ext h⟩ hok.2.2.2.2.2)
    rw [← hy] at KR
    have HRG:=veil (fun W (h : Ext w W) => zan h hb (pwS_range hrg))
    have HC1:=veil (fun W (h : Ext w W) => show W.cell? ⟨b,o + m * 7 + 1,none⟩ = some (.int .i64 x.1.mi) from zan h hb hrg 1 _ rfl)
    obtain ⟨mi,hmi2⟩ : ∃ z,z = x.1.mi:=⟨_,rfl⟩
    rw [← hmi2] at HC1
    have HY:=veil (And.intro hy hmi2)
    subst hAL
    have hmn : (m : Int) < (i : Int):=by omega
    have hm0 : ¬ ((m : Int) < 0):=by omega
    have c2:=(HS.out.ext HE1.out).at2
    obtain ⟨Z,hZ⟩ : ∃ Z : Nat,(Z : Int) = z:=⟨z.toNat,by have:=HT.out.2; omega⟩
    have HZ:=veil hZ
    subst hZ
    have hZ7 : Z ≤ 7:=by have:=HT.out.2; omega
    clear hid hwx hok hb hcl hil hs hxx hrg hdd hmp hy hmi2 hi hlt hd1
    go_wp2
    go_loopw [11,12] (fun u v wr => ∃ i : Nat,i ≤ Z ∧ v = .int .i64 (i : Int) ∧ u = .int .i64 (t.z / 2 ^ i) ∧ Ext w0 wr)
     (fun _ v _ => Z - (intOf v).toNat)
    case atStart => exact ⟨0,by omega,rfl,by simp,HE1.out⟩
    case round =>
     obtain ⟨j,hj,rfl,rfl,hE⟩:=hrel
     clear c2
     have tz0 : 0 ≤ t.z:=by have:=HT.out.1.2.2.2.2.1; omega
     have tz1 : t.z ≤ 255:=HT.out.1.2.2.2.2.2.1
     have q0:=zbt t.z tz0 j
     have q1:=zfz t.z tz0 j
     obtain ⟨x',hx'⟩ : ∃ x',x' = t.z / 2 ^ j:=⟨_,rfl⟩
     rw [← hx'] at q0 q1 ⊢
     by_cases hlt : j < Z
     ·
      have hd1 : decide ((j : Int) < (Z : Int)) = true:=by simp; omega
      have hs:=half_step t.z tz0 j
      have q3:=zbt t.z tz0 (j + 1)
      have q4:=zfz t.z tz0 (j + 1)
      rw [← hx'] at hs
      obtain ⟨y',hy'⟩ : ∃ y',y' = t.z / 2 ^ (j + 1):=⟨_,rfl⟩
      rw [← hy'] at hs q3 q4
      have hxq : x' ≤ 255:=by omega
      have hyq : y' ≤ 255:=by omega
      have HQ:=veil (And.intro hy' hE)
      clear hE hx' q1 q4 tz0 tz1 hy'
      go_wp2
      go_roundw
      case rel => exact ⟨j + 1,by omega,by go_num,by rw [← HQ.out.1]; (try simp only [hs]),HQ.out.2⟩
      case measure => simp [intOf]; omega
     ·
      obtain rfl : j = Z:=by omega
      have hd1 : decide ((j : Int) < (j : Int)) = false:=by simp
      have HE2:=veil (And.intro hE (HE.out.trans hE))
      have hxz : t.z / 2 ^ ((j : Int)).toNat = x':=by rw [hx']; simp
      have HXz:=veil hxz
      clear hE hx' q1 tz0 tz1 hxz
      by_cases g5 : x' % 2 = 0
      ·
       have f5 : (x' % 2 == 0) = true:=by rw [g5]; rfl
       obtain rfl : R = 5:=HW.out.1.trans (whyX_zone (by rw [HXz.out]; exact g5))
       clear g5
       go_wp2
       go_ret
       exact ⟨rfl,HE2.out.2⟩
      have f5 : (x' % 2 == 0) = false:=by simpa using g5
      have G5:=veil g5
      clear g5
      obtain ⟨D,hD⟩ : ∃ D,D = a / 1440:=⟨_,rfl⟩
      have hDt : a.tdiv 1440 = D:=by rw [hD,Int.tdiv_eq_ediv_of_nonneg (by have:=HT.out.2; omega)]
      have hD0 : 0 ≤ D:=by have:=HT.out.2; omega
      have hD1 : D ≤ 1073741824:=by have:=HT.out.2; omega
      rw [← hD] at KR
      have HDd:=veil hD
      clear hD
      go_upto_region 17 with (first
       | ((with_reducible refine zaa 47 ?_); refine wpList_load_mid rfl 49 _ rfl b _ rfl (pwS x) _ (HRG.out _ HE2.out.2) Tryz.underlying49 rfl (iPwS x) ?_)
       | (go_at_call 44; refine (KR.out _ HE2.out.2).mono ?_; rintro e w1 ⟨rfl,hE1⟩))
      have HE3:=veil (HE2.out.2.trans hE1)
      have c3:=(HS.out.ext (HE2.out.1.trans hE1)).at3
      have c1:=HC1.out _ HE3.out
      obtain ⟨f,hf⟩ : ∃ f,f = t.f:=⟨_,rfl⟩
      rw [← hf] at c3
      have HF:=veil hf
      have hfb : 0 ≤ f ∧ f ≤ 1073741824:=by have:=HT.out.1.2.2.2.2.2.2; omega
      have hmb : 1 ≤ mi ∧ mi ≤ 1048576:=by have:=HW.out.2; have:=HY.out.2; omega
      have hf0:=hfb.1
      have hf1:=hfb.2
      have hmm0:=hmb.1
      have hmm1:=hmb.2
      clear hf hE1 hfb hmb KR HRG HC1 hDt hD0 hD1
      by_cases g1 : a < f
      ·
       have d1 : decide (a < f) = true:=decide_eq_true g1
       obtain rfl : R = 6:=HW.out.1.trans (zhe (by rw [HXz.out]; exact G5.out) (.inl (by rw [← HF.out]; exact g1)))
       go_quiet (fail)
       go_wp2
       go_ret
       exact ⟨rfl,HE3.out.trans (Ext.drewK _ _)⟩
      have d1 : decide (a < f) = false:=decide_eq_false g1
      by_cases g2 : f + mi ≤ a
      ·
       have d2 : decide (f + mi ≤ a) = true:=decide_eq_true g2
       obtain rfl : R = 6:=HW.out.1.trans (zhe (by rw [HXz.out]; exact G5.out) (.inr (.inl (by rw [← HF.out,← HY.out.2]; exact g2))))
       go_quiet (fail)
       go_wp2
       go_ret
       exact ⟨rfl,HE3.out.trans (Ext.drewK _ _)⟩
      have d2 : decide (f + mi ≤ a) = false:=decide_eq_false g2
      cases y with
      | false =>
       obtain rfl : R = 6:=HW.out.1.trans (zhe (by rw [HXz.out]; exact G5.out) (.inr (.inr HY.out.1.symm)))
       go_quiet (fail)
       go_wp2
       go_ret
       exact ⟨rfl,HE3.out.trans (Ext.drewK _ _)⟩
      | true =>
       obtain rfl : R = 1:=HW.out.1.trans (whyX_ok (by rw [HXz.out]; exact G5.out) (by rw [← HF.out]; exact g1) (by rw [← HF.out,← HY.out.2]; exact g2) HY.out.1.symm)
       go_quiet (fail)
       go_wp2
       go_ret
       exact ⟨rfl,HE3.out.trans (Ext.drewK _ _)⟩
end Go.Proofs.YtbfkecfcolcclaaGreatDoor
