/-
  Of K9 Lk KA L3 Ln L1 TG TH L2 J2 L6 KB La KC Ld.
-/
import Derived.Test.YthlbemnbmbmjhaaGreatDoorZC7
import Derived.Test.YthlbemnbmbmjhaaGreatDoorZC5
import Derived.Test.YthlbemnbmbmjhaaGreatDoorZC6
set_option maxRecDepth 1000000
set_option maxHeartbeats 20000000
namespace Go.Proofs.YthlbemnbmbmjhaaGreatDoor
open Go.RowKit
open Go.Value renaming int → vI
open Go.IntKind renaming u64 → vU
open Go.Act renaming put → aP
open List renaming setIfInBounds_toArray → lA, set_cons_zero → lZ, set_cons_succ → lS
def checkB (L : Low) (X Y : Nat) (f : Bool) (bs : List Nat) : Tk × Nat:=match openB bs with
 | none => (⟨0,0,0,0,0⟩,2)
 | some (t,r,s) => if L.vf X Y f (L.dg (tkB t)) r s = true then (t,0) else (⟨0,0,0,0,0⟩,8)
theorem checkB_none {L : Low} {X Y : Nat} {f : Bool} {bs : List Nat} (h : openB bs = none) : checkB L X Y f bs = (⟨0,0,0,0,0⟩,2):=by
 unfold checkB
 rw [h]
theorem checkB_some {L : Low} {X Y : Nat} {f : Bool} {bs : List Nat} {t : Tk} {r s : Nat} (h : openB bs = some (t,r,s)) : checkB L X Y f bs = if L.vf X Y f (L.dg (tkB t)) r s = true then (t,0) else (⟨0,0,0,0,0⟩,8):=by
 unfold checkB
 rw [h]
theorem zay {P : Program} {fn : Func} {q s : Tmp} {ty : TypeId} (h : fn.results = #[.cell q ty,.tmp s]) (tmps : Array Value) (w : World) (g : Nat) (t : TypeId) (cs : Array Value) (fr : Nat × Nat) (d : TypeDesc)
  (hq : tmps.getD q undef = .pointer (some ⟨g,0,none⟩)) (hg : w.heap[g]? = some (.cells cs t fr)) (hu : P.underlying ty = some d) (hd : d.isRow = true) (hi : (P.info? ty).map (·.size) = some cs.size) :
  (results fn tmps).run P w = .ok (.tuple #[.agg cs,tmps.getD s undef]) w:=by
 have hq' : tmps[q]?.getD undef = .pointer (some ⟨g,0,none⟩):=by simpa using hq
 have hl : (loadVar ty ⟨g,0,none⟩).run P w = .ok (.agg cs) w:=run_loadVar_mid w g 0 ty cs.toList d (fun j v hv => by rw [cell_of_row w g (0 + j) cs t fr hg,Nat.zero_add]; simpa using hv) hu hd (by simpa using hi)
 simp [results,h,hq',asAddr,hl]
theorem openA_all {bs : List Nat} {T G : Array Value} {y : Value} (h : OpenA bs T G y) : ∃ t r s o,T = tkC t ∧ G = gc r s ∧ y = .bool o ∧ ((openB bs = none ∧ o = false) ∨ (openB bs = some (t,r,s) ∧ o = true)):=by
 rcases h with ⟨h,rfl,rfl,rfl⟩ | ⟨t,r,s,h,rfl,rfl,rfl⟩
 ·
  exact ⟨_,_,_,_,rfl,rfl,rfl,.inl ⟨h,rfl⟩⟩
 ·
  exact ⟨_,_,_,_,rfl,rfl,rfl,.inr ⟨h,rfl⟩⟩
theorem zbk (w1 : World) (o o2 : Obj) : ((w1.alloc o).alloc o2).heap[w1.heap.size]? = some o ∧ ((w1.alloc o).alloc o2).heap[w1.heap.size + 1]? = some o2:=by
 have h:=zar (w1.alloc o) o2
 rw [World.size_alloc] at h
 exact ⟨(Ext.alloc (w1.alloc o) o2).block (zar w1 o),h⟩
theorem zfk (w1 : World) (o o2 : Obj) : Ext w1 ((w1.alloc o).alloc o2):=(Ext.alloc _ _).trans (Ext.alloc _ _)
theorem Up.calls {P : Program} {w : World} {D : World → Prop} (h : Up w D) {f : FuncId} {args : Array Value} {v : Value} (k : ∀ W,Ext w W → Calls P f args W fun _e w' => _e = .returned v ∧ Ext W w') (x : Gw D) :
  Calls P f args x.val fun _e w' => _e = .returned v ∧ ∃ y : Gw D,w' = y.val :=
 (k _ (h.grown _ x.property)).mono fun _ w' ⟨he,hE⟩ => ⟨he,⟨w',h.up _ _ x.property hE⟩,rfl⟩
theorem rcheck9_calls {L : Low} (R : LowR L) (X Y : Nat) (f : Bool) (hX : X < top) (hY : Y < top) (A : Option Addr) (m c : Nat) (bs : List Nat) (hm : m = bs.length) (hmc : m ≤ c) (hle : m ≤ 100000) (w : World) (hS : Bs w A bs) :
  Calls Tryz.prog 39 #[.slice A m c,qv X Y f] w fun e w' => e = .returned (.tuple #[tkV (checkB L X Y f bs).1,.int .i64 ((checkB L X Y f bs).2 : Int)]) ∧ Ext w w':=by
 have KO:=veil (fun W => zkn R A m c bs hm hmc (by omega) W)
 have KP:=veil (fun W => zjh R A m c bs hm hmc (by omega) W)
 have HB:=veil hS
 have HX:=veil (And.intro hX hY)
 obtain ⟨C,hC⟩ : ∃ C,C = qc X Y f:=⟨_,rfl⟩
 have HC:=veil (And.intro hC (And.intro (show (Tryz.prog.info? 29).map (·.size) = some C.size by rw [hC]; exact iT X Y f) (show C.all (·.oneCell') = true by rw [hC]; exact zcz X Y f)))
 unfold qv
 rw [← hC]
 clear hm hmc hle hS hX hY hC
 go_enter Tryz.func39,Tryz.ntmps39
 go_upto_region 1 with (fail)
 obtain ⟨g3,hg3⟩ : ∃ g,g = w.heap.size:=⟨_,rfl⟩
 obtain ⟨g4,hg4⟩ : ∃ g,g = w.heap.size + 1:=⟨_,rfl⟩
 obtain ⟨w0,hw0⟩ : ∃ W,W = (w.alloc (.cells C 29)).alloc (.cells TZ 47):=⟨_,rfl⟩
 have h3:=(zbk w (.cells C 29) (.cells TZ 47)).1
 have h4:=(zbk w (.cells C 29) (.cells TZ 47)).2
 have hE0:=zfk w (.cells C 29) (.cells TZ 47)
 rw [← hw0,← hg3] at h3
 rw [← hw0,← hg4] at h4
 rw [← hw0] at hE0
 have H0:=veil (And.intro hE0 (And.intro h3 (And.intro h4 (And.intro (show w.heap.size ≤ g4 by omega) (HB.out.ext hE0)))))
 unfold TZ at hw0
 rw [← hw0,← hg4,← hg3]
 clear hw0 hg3 hg4 hE0 h3 h4
 go_upto_region 2 with (first
  | (go_at_call 38; refine (KO.out w0 H0.out.2.2.2.2).mono ?_; rintro e w1 ⟨T,G,y,rfl,hE1,hA⟩; obtain ⟨t,r,s,o,rfl,rfl,rfl,hY⟩:=openA_all hA)
  | ((with_reducible refine zap ?_); refine wpList_store_row rfl 47 _ _ rfl w1.heap.size (tkC t) rfl rfl 47 _ (zbk w1 _ _).1 (iTk t) rfl (zbw t) ?_)
  | ((with_reducible refine zap ?_); refine wpList_store_row rfl 78 _ _ rfl (w1.heap.size + 1) (gc r s) rfl rfl 78 _ (zde _ (zbk w1 _ _).2 (Nat.lt_succ_self _)) (iSg r s) rfl (zcw r s) ?_))
 have hF:=zcr (T:=tkC t) (G:=gc r s) (zfk w1 (.cells TZ 47) (.cells Z8 78)) (zbk w1 _ _).1 (zbk w1 _ _).2 ⟨Nat.le_refl _,Nat.lt_succ_self _⟩
 have hE0:=H0.out.1.trans hE1
 have hS1:=(H0.out.2.2.2.2.ext hE1).ext hF.1
 have h31:=(hE1.trans hF.1).block H0.out.2.1
 have h41:=(hE1.trans hF.1).block H0.out.2.2.1
 have hE2:=hE0.trans hF.1
 have h6:=hF.2.1
 have h7:=hF.2.2
 clear hF hE0 hE1 hA
 obtain ⟨g6,hg6⟩ : ∃ g,g = w1.heap.size:=⟨_,rfl⟩
 obtain ⟨g7,hg7⟩ : ∃ g,g = w1.heap.size + 1:=⟨_,rfl⟩
 rw [← hg7,← hg6] at hE2 h6 h7 h31 h41 hS1 ⊢
 obtain ⟨w2,hw2⟩ : ∃ W,W = (((w1.alloc (.cells TZ 47)).alloc (.cells Z8 78)).setRow g6 (tkC t)).setRow g7 (gc r s):=⟨_,rfl⟩
 rw [← hw2] at hE2 h6 h7 h31 h41 hS1
 unfold TZ Z8 at hw2
 rw [← hw2]
 have H2:=veil (And.intro hE2 (And.intro h31 (And.intro h41 (And.intro h6 (And.intro h7 (And.intro H0.out.2.2.2.1 hS1))))))
 have HY:=veil hY
 clear hw2 hg6 hg7 hE2 h31 h41 h6 h7 hS1 hY KO H0
 rcases HY.out with ⟨hp,rfl⟩ | ⟨hp,rfl⟩
 ·
  have hr:=checkB_none (L:=L) (X:=X) (Y:=Y) (f:=f) hp
  clear HY hp
  go_wp2_with ((with_reducible refine zap ?_); refine wpList_store_row rfl 47 _ _ rfl g4 TZ rfl rfl 47 _ H2.out.2.2.1 iTZ rfl zci ?_)
  refine bodyPost_ret (zay rfl _ _ g4 47 TZ (0,0) _ rfl (setRow_heap w2 g4 _ TZ 47 (0,0) H2.out.2.2.1) Tryz.underlying47 rfl iTZ) rfl ⟨by rw [hr]; rfl,zat H2.out.1 H2.out.2.2.2.2.2.1 _⟩
 ·
  have hr:=checkB_some (L:=L) (X:=X) (Y:=Y) (f:=f) hp
  have hso:=zhr HB.out.1 hp
  have HR:=veil hr
  have HO:=veil hso
  clear HY hp hr hso
  go_upto_region 5 with (first
   | (go_at_call 66; refine (KP.out _ H2.out.2.2.2.2.2.2).mono ?_; rintro e w3 ⟨x,G,y,rfl,hE3,hA⟩; obtain ⟨r2,s2,body,A2,c2,o,rfl,rfl,hc2,hl2,hB2,rfl,hZ⟩:=partsA_all HB.out.1 hA)
   | ((with_reducible refine zap ?_); refine wpList_store_row rfl 78 _ _ rfl w3.heap.size (gc r2 s2) rfl rfl 78 _ (zar w3 _) (iSg r2 s2) rfl (zcw r2 s2) ?_; rw [World.setRow_alloc_new]))
  have hbody : body = tkB t:=by
   rcases hZ with ⟨h,_⟩ | ⟨h,_⟩
   ·
    rw [HO.out.2.2.1] at h; cases h
   ·
    have h2:=HO.out.2.2.1.symm.trans h
    injection h2 with h2
    injection h2 with h2
    exact h2.symm
  have hE4:=hE3.trans (Ext.alloc w3 (.cells (gc r2 s2) 78))
  have hB4:=hB2.ext (Ext.alloc w3 (.cells (gc r2 s2) 78))
  subst hbody
  clear hZ hA hB2 hE3
  generalize w3.alloc (.cells (gc r2 s2) 78) = w4 at *
  have H4:=veil (And.intro (H2.out.1.trans hE4) (And.intro (hE4.block H2.out.2.1) (And.intro (hE4.block H2.out.2.2.1) (And.intro (hE4.block H2.out.2.2.2.1) (And.intro (hE4.block H2.out.2.2.2.2.1) (And.intro H2.out.2.2.2.2.2.1 hB4))))))
  clear hE4 hB4 H2 KP
  obtain ⟨v,hv⟩ : ∃ v,v = L.vf X Y f (L.dg (tkB t)) r s:=⟨_,rfl⟩
  have KS:=veil (fun W (hW : Ext w4 W) => R.sum A2 (tkB t).length c2 (tkB t) W rfl (by omega) (H4.out.2.2.2.2.2.2.ext hW))
  have KV : Hid (∀ W : World,Calls Tryz.prog 69 #[.agg C,dgv (L.dg (tkB t)),.agg (gc r s)] W fun e w' => e = .returned (.bool v) ∧ Ext W w'):=veil (fun W => by
   have h:=R.ver X Y f (L.dg (tkB t)) r s W HX.out.1 HX.out.2 (by have:=HO.out.2.2.2.1; exact this) (by have:=HO.out.2.2.2.2; exact this) (L.dgb _)
   unfold qv gv at h
   rw [← HC.out.1,← hv] at h
   exact h)
  have HV:=veil hv
  clear hv
  refine zfb 6 [(true,[0,1,2,3,4,5])] (by kernel_rfl) (by kernel_rfl) fun Q' hQ' => ?_
  refine' zcj (A:=_) _ rfl (by kernel_rfl) ?h1 ?h2
  case h1 =>
   intro D hD hN
   have K1:=veil (fun x : Gw D => hD.calls (v:=dgv (L.dg (tkB t))) (fun W hW => KS.out W hW) x)
   have K2:=veil (fun x : Gw D => hD.calls (v:=.bool v) (fun W _ => KV.out W) x)
   simp only [pickI,consO,List.getElem?_cons_zero,List.getElem?_cons_succ]
   go_big_quiet_want
   refine zcu (.agg C) (fun x => zbm rfl rfl (hD.block H4.out.2.1 x) Tryz.underlying29 rfl HC.out.2.1) ?_
   simp only [aP,lA,lZ,lS]
   go_big_quiet_on
   iterate 2 (go_big_quiet_step (exact K1.out _))
   go_big_quiet_want
   refine zcu (.agg (gc r s)) (fun x => zbm rfl rfl (hD.block H4.out.2.2.2.2.1 x) Tryz.underlying78 rfl (iSg r s)) ?_
   simp only [aP,lA,lZ,lS]
   go_big_quiet_on
   iterate 2 (go_big_quiet_step (exact K2.out _))
   exact zea
  refine zdx hQ' fun w5 hE5 => ?_
  have H5:=veil (And.intro (H4.out.1.trans hE5) (And.intro (hE5.block H4.out.2.2.1) (And.intro (hE5.block H4.out.2.2.2.1) H4.out.2.2.2.2.2.1)))
  clear hE5 H4 KS KV
  cases v with
  | false =>
   have hr : checkB L X Y f bs = (⟨0,0,0,0,0⟩,8):=by rw [HR.out,← HV.out]; rfl
   go_wp2_with ((with_reducible refine zap ?_); refine wpList_store_row rfl 47 _ _ rfl g4 TZ rfl rfl 47 _ H5.out.2.1 iTZ rfl zci ?_)
   refine bodyPost_ret (zay rfl _ _ g4 47 TZ (0,0) _ rfl (setRow_heap w5 g4 _ TZ 47 (0,0) H5.out.2.1) Tryz.underlying47 rfl iTZ) rfl ⟨by rw [hr]; rfl,zat H5.out.1 H5.out.2.2.2 _⟩
  | true =>
   have hr : checkB L X Y f bs = (t,0):=by rw [HR.out,← HV.out]; rfl
   go_wp2_with (first
    | ((with_reducible refine zas 36 ?_); refine wpList_load_row rfl 47 _ rfl g6 rfl 47 (tkC t) (0,0) _ H5.out.2.2.1 Tryz.underlying47 rfl (iTk t) ?_)
    | ((with_reducible refine zap ?_); refine wpList_store_row rfl 47 _ _ rfl g4 (tkC t) rfl rfl 47 _ H5.out.2.1 (iTk t) rfl (zbw t) ?_))
   refine bodyPost_ret (zay rfl _ _ g4 47 (tkC t) (0,0) _ rfl (setRow_heap w5 g4 _ (tkC t) 47 (0,0) H5.out.2.1) Tryz.underlying47 rfl (iTk t)) rfl ⟨by rw [hr]; rfl,zat H5.out.1 H5.out.2.2.2 _⟩
def kyC (k : Ky) : List Value:=.int .i64 k.i :: ((qc k.x k.y k.f).toList ++ [.int .i64 k.a,.int .i64 k.b])
theorem zjv (k : Ky) : (kyC k).length = 12:=by simp [kyC,qc]
abbrev Ks (w : World) (v : Value) (l : List Ky) : Prop:=Ls 12 kyC w v l
def TopK (l : List Ky) : Prop:=∀ k ∈ l,k.x < top ∧ k.y < top
theorem infoKy : (Tryz.prog.info? 55).map (·.size) = some 12:=by kernel_rfl
theorem iKy (k : Ky) : (Tryz.prog.info? 55).map (·.size) = some (kyC k).length:=by rw [zjv]; exact infoKy
theorem iKyA (k : Ky) : (Tryz.prog.info? 55).map (·.size) = some (kyC k).toArray.size:=by rw [List.size_toArray,zjv]; exact infoKy
theorem hzKy (W : World) : (Instr.alloc 55 true (.tuple #[])).run Tryz.prog W = .ok (ptrTo W.heap.size) (W.alloc (.cells #[.int .i64 0,vI vU 0,vI vU 0,vI vU 0,vI vU 0,vI vU 0,vI vU 0,vI vU 0,vI vU 0,.bool false,.int .i64 0,.int .i64 0] 55)):=by simp [Instr.alloc,go_sem]
theorem kyA_one (k : Ky) : (kyC k).toArray.all (·.oneCell') = true:=by simp [kyC,qc,Value.oneCell']
theorem kyA_size (k : Ky) : (#[.int .i64 0,vI vU 0,vI vU 0,vI vU 0,vI vU 0,vI vU 0,vI vU 0,vI vU 0,vI vU 0,.bool false,.int .i64 0,.int .i64 0] : Array Value).size = (kyC k).toArray.size:=by
 have h : (kyC k).toArray.size = 12:=by rw [List.size_toArray,zjv]
 rw [h]
 rfl
section
variable {w : World} {b o : Nat} {k : Ky}
theorem ky_i (h : w.rangeAt b o (kyC k)) : w.cell? ⟨b,o,none⟩ = some (.int .i64 k.i):=h 0 _ rfl
theorem ky_f (h : w.rangeAt b o (kyC k)) : w.cell? ⟨b,o + 9,none⟩ = some (.bool k.f):=h 9 _ rfl
theorem ky_a (h : w.rangeAt b o (kyC k)) : w.cell? ⟨b,o + 10,none⟩ = some (.int .i64 k.a):=h 10 _ rfl
theorem ky_b (h : w.rangeAt b o (kyC k)) : w.cell? ⟨b,o + 11,none⟩ = some (.int .i64 k.b):=h 11 _ rfl
theorem ky_q (h : w.rangeAt b o (kyC k)) : w.rangeAt b (o + 1) (qc k.x k.y k.f).toList:=fun j v hv => by
 have hj : j < 9:=(List.getElem?_eq_some_iff.1 hv).1
 have:=h (j + 1) v (by
  show ((qc k.x k.y k.f).toList ++ _)[j]? = _
  rw [List.getElem?_append_left hj]
  exact hv)
 rw [Nat.add_assoc,Nat.add_comm 1 j]
 exact this
theorem zgk {g : Nat} {fr : Nat × Nat} (h : w.heap[g]? = some (.cells (kyC k).toArray 55 fr)) : w.rangeAt g 0 (kyC k):=fun j v hv => by
 rw [Nat.zero_add,cell_of_row w g j _ _ _ h]
 simpa using hv
end
def qO : Option Ky → Array Value
 | none => qc 0 0 false
 | some k => qc k.x k.y k.f
def PZ : Array Value:=#[vI vU 0,vI vU 0,vI vU 0,vI vU 0,vI vU 0,vI vU 0,vI vU 0,vI vU 0,.bool false]
theorem pz_qc : PZ = qc 0 0 false:=by
 obtain ⟨h0,h1,h2,h3⟩:=wd_z
 unfold qc PZ
 rw [h0,h1,h2,h3]
theorem iPZ : (Tryz.prog.info? 29).map (·.size) = some PZ.size:=by kernel_rfl
theorem pz_one : PZ.all (·.oneCell') = true:=by simp [PZ,Value.oneCell']
theorem zju {l : List Ky} {i : Nat} (h : i < l.length) : l[i]? = some (l.getD i ky0):=by rw [List.getD_eq_getElem?_getD,List.getElem?_eq_getElem h]; rfl
theorem cells_tk : Tryz.prog.cellsOf 47 = 5:=by kernel_rfl
theorem zje : Tryz.prog.cellsOf 3 = 1:=by kernel_rfl
def Tk.ok (t : Tk) : Prop:=∀ n ∈ t.list,(Lit.int .i64 n).wf = true
theorem zid {n : Int} (h : (Lit.int .i64 n).wf = true) (D : Nat) : Tryz.prog.keyLits (D + 1) 3 [.int .i64 n] = some [.int .i64 n]:=by
 unfold Program.keyLits
 simp [Tryz.underlying3,h]
theorem lits_tk {t : Tk} (h : t.ok) (D : Nat) : Tryz.prog.keyLits (D + 2) 47 (tkC t).toList = some [.int .i64 t.s,.int .i64 t.p,.int .i64 t.z,.int .i64 t.f,.int .i64 t.k]:=by
 have h0:=zid (h t.s (by simp [Tk.list])) D
 have h1:=zid (h t.p (by simp [Tk.list])) D
 have h2:=zid (h t.z (by simp [Tk.list])) D
 have h3:=zid (h t.f (by simp [Tk.list])) D
 have h4:=zid (h t.k (by simp [Tk.list])) D
 unfold Program.keyLits tkC
 simp [Tryz.underlying47,cells_tk,zje,h0,h1,h2,h3,h4]
theorem wf_int {n : Int} (h0 : -9223372036854775808 ≤ n) (h1 : n ≤ 9223372036854775807) : (Lit.int .i64 n).wf = true:=by
 show (decide (_ ≤ n) && decide (n ≤ _)) = true
 simp only [Bool.and_eq_true,decide_eq_true_eq]
 exact ⟨h0,h1⟩
theorem ok_may {t : Tk} (h : mayT t = true) : t.ok:=fun n hn => by
 have:=mayT_each h n hn
 exact wf_int (by omega) (by omega)
theorem zkq : (⟨0,0,0,0,0⟩ : Tk).ok:=fun n hn => by
 have : n = 0:=by simpa [Tk.list] using hn
 subst this
 exact wf_int (by omega) (by omega)
theorem eqT9 {t : Tk} (ht : t.ok) (w : World) : (binOp .eql 47 (tkV t) (tkV t)).run Tryz.prog w = .ok (.bool true) w:=by
 unfold tkV
 rw [run_eql_struct]
 obtain ⟨r,hr,hiff⟩:=run_equalIn_deep (P:=Tryz.prog) 9990 10 47 (by kernel_rfl) w 10000 10000 (.agg (tkC t)) (.agg (tkC t)) _ _ (by simp [Value.formed,Tryz.underlying47,cells_tk,tkC]) (by simp [Value.formed,Tryz.underlying47,cells_tk,tkC]) (lits_tk ht 9998) (lits_tk ht 9998)
 rw [hr,Result.andThen_ok,hiff.2 rfl]
theorem gT9 (t t' : Tk) (op : BinOp) (x y : Operand) (W : World) : (eqGuard op 47 x y (tkV t) (tkV t')).run Tryz.prog W = .ok () W:=by
 unfold tkV tkC
 cases op <;> simp [eqGuard,go_sem]
theorem wpl_rowG {P : Program} {ops : Array Oper} {rest : List Oper} {o : Oper} {a : Act} {w : World} {Q : Exit → Act → World → Prop} (hgd : Region.wanted o (yielded ops a.tmps) = true) (ty : TypeId) (x : Operand) (ho : o.op = .load ty x)
  (g : Nat) (hx : a.eval x = .pointer (some ⟨g,0,none⟩)) (t : TypeId) (cs : Array Value) (fr : Nat × Nat) (d : TypeDesc) (hg : w.heap[g]? = some (.cells cs t fr))
  (hu : P.underlying ty = some d) (hd : (match d with | .struct _ | .array _ _ => true | _ => false) = true) (hi : (P.info? ty).map (·.size) = some cs.size)
  (h : wpList P ops Q rest (a.put o.dst (.agg cs)) w) : wpList P ops Q (o :: rest) a w :=
 wpList_step fun K hK => by
  rw [if_pos hgd]
  exact wp_load_row ty x ho g hx t cs fr d hg hu hd hi (hK _ _ h)
/-! ### what the laws ask of the landed package -/
def BodyA (w' : World) (t : Tk) (x ev : Value) : Prop :=
 (mayT t = false ∧ (∃ A c,x = .slice A 0 c) ∧ ev = .iface 39 (.int .i64 1)) ∨
 (mayT t = true ∧ (∃ A c,x = .slice A 55 c ∧ 55 ≤ c ∧ Bs w' A (tkB t)) ∧ ev = .nilIface)
def OpenC (bs : List Nat) (T G : Array Value) (ev : Value) : Prop :=
 (openB bs = none ∧ T = tkC ⟨0,0,0,0,0⟩ ∧ G = gc 0 0 ∧ ev = .iface 39 (.int .i64 2)) ∨ (∃ t r s,openB bs = some (t,r,s) ∧ T = tkC t ∧ G = gc r s ∧ ev = .nilIface)
def WfK (l : List Ky) : Prop:=∀ k ∈ l,(Lit.int .i64 k.i).wf = true ∧ (Lit.int .i64 k.a).wf = true ∧ (Lit.int .i64 k.b).wf = true
theorem cells_ky12 : Tryz.prog.cellsOf 55 = 12:=by kernel_rfl
theorem Up.range {w : World} {D : World → Prop} (h : Up w D) {b off : Nat} {L : List Value} (hb : b < w.heap.size) (hr : w.rangeAt b off L) (x : Gw D) : x.val.rangeAt b off L:=zdf (h.grown _ x.property) hb hr
theorem bldKy (k : Ky) (W : World) : (Instr.build 55 [(0,.int .i64 k.i),(1,.agg (qc k.x k.y k.f)),(2,.int .i64 k.a),(3,.int .i64 k.b)].toArray).run Tryz.prog W = .ok (.agg (kyC k).toArray) W:=by simp [Instr.build,go_sem,qc,kyC]
theorem bslKy (k : Ky) (W : World) : (Instr.buildSlice 22 1 #[(0,.agg (kyC k).toArray)]).run Tryz.prog W = .ok (.slice (some ⟨W.heap.size,0,none⟩) 1 1) (W.alloc (.cells (kyC k).toArray 55)):=by
 simp [Instr.buildSlice,go_sem,kyC,qc]
section
variable {ops : Array Oper} {Q : Exit → Act → World → Prop} {rest : List Oper} {a : Act} {w : World} {op : Oper}
end
theorem wpl_slice1 {P : Program} {ops : Array Oper} {Q : Exit → Act → World → Prop} {rest : List Oper} {a : Act} {w : World} {o : Oper} {t e : TypeId} {len : Nat} {ps : List (Nat × Operand)} {vs : List (Nat × Value)} {C : Array Value} (hg : o.guard = none) (hop : o.op = .buildSlice t len ps.toArray)
  (hv : ps.map (fun (i,x) => (i,a.eval x)) = vs) (hb : (Instr.buildSlice t len vs.toArray).run P w = .ok (.slice (some ⟨w.heap.size,0,none⟩) len len) (w.alloc (.cells C e)))
  (h : wpList P ops Q rest (a.put o.dst (.slice (some ⟨w.heap.size,0,none⟩) len len)) (w.alloc (.cells C e))) : wpList P ops Q (o :: rest) a w:=by
 refine wpList_plain hg fun K hK => ?_
 unfold Oper.wp execOp
 simp only [hop,List.map_toArray]
 rw [show ps.map (fun x => match x with | (i,x) => (i,a.eval x)) = vs from hv]
 simp only [Sem.run_bind,hb,Result.andThen_ok,Sem.run_pure]
 exact hK _ _ h
/-! ### the keys of fields,one by one -/
theorem onB_top {x y : Nat} (h : onB x y false = true) : x < top ∧ y < top:=by
 have e : (256 : Nat) ^ 32 = top:=by decide +kernel
 have:=onB_lt h
 rwa [e] at this
theorem rmay10_calls (v : Value) (l : List Ky) (w : World) (hF : Ks w v l) (hT : TopK l) (hL : l.length ≤ 1000000000) :
  Calls Tryz.prog 8 #[v] w fun e w' => e = .returned (.bool (mayK l)) ∧ Ext w w':=by
 obtain ⟨AL,c,rfl,hc,hx⟩:=hF
 obtain ⟨R,hR⟩ : ∃ R,R = mayK l:=⟨_,rfl⟩
 rw [← hR]
 obtain ⟨n,hn⟩ : ∃ n,n = l.length:=⟨_,rfl⟩
 rw [← hn] at hx hc ⊢
 have HR:=veil (And.intro hR (And.intro hn (And.intro hL hT)))
 have HX:=veil hx
 have hnL : n ≤ 1000000000:=by omega
 clear hR hx hn hL hT
 go_enter Tryz.func8,Tryz.ntmps8
 go_wp2
 go_loopw [3] (fun v wr => ∃ i : Nat,i ≤ n ∧ v = .int .i64 (i : Int) ∧ (∀ j,j < i → okK l j) ∧ Ext w wr)
  (fun v _ => n - (intOf v).toNat)
 case atStart => exact ⟨0,by omega,rfl,fun j hj => by omega,Ext.refl _⟩
 case round =>
  obtain ⟨i,hi,rfl,hall,hE⟩:=hrel
  by_cases hlt : i < n
  ·
   have hd1 : decide ((i : Int) < (n : Int)) = true:=by simp; omega
   have hii : (i : Int) < (n : Int):=by omega
   obtain ⟨b,o,hAL,hb,hcl⟩:=HX.out.resolve_left (by omega)
   have hil : i < l.length:=by have:=HR.out.2.1; omega
   have hgi : l[i]? = some (l.getD i ky0):=by rw [List.getD_eq_getElem?_getD,List.getElem?_eq_getElem hil]; rfl
   have HRG:=veil (zdf hE hb (hcl i _ hgi))
   obtain ⟨k,hk⟩ : ∃ k,k = l.getD i ky0:=⟨_,rfl⟩
   rw [← hk] at HRG
   have hkt:=HR.out.2.2.2 (l.getD i ky0) (List.mem_of_getElem? hgi)
   rw [← hk] at hkt
   have KO:=veil (fun W => show Calls Tryz.prog 21 #[.agg (qc k.x k.y k.f)] W (fun e w' => e = .returned (.bool (onB k.x k.y k.f)) ∧ Ext W w') from ron_calls k.x k.y k.f hkt.1 hkt.2 W)
   have hfalse : ∀ h : ¬ okK l i,R = false:=fun h => HR.out.1.trans (mayK_false hil h)
   have HK:=veil (And.intro hk (And.intro hall hfalse))
   have HP:=veil (And.intro hb hcl)
   clear hk hall hfalse hkt hgi hb hcl
   subst hAL
   go_upto_region 5 with (first
    | ((with_reducible refine zas 15 ?_); refine wpList_load_mid rfl 55 _ rfl b _ rfl (kyC k) _ HRG.out Tryz.underlying55 rfl (iKy k) ?_)
    | ((with_reducible refine zas 4 ?_); refine zdn _ _ rfl rfl rfl rfl rfl rfl hzKy (fun _ => rfl) (fun _ => rfl) (iKyA k) (kyA_size k) (kyA_one k) ?_; intro g W hg hW hEW))
   have HW:=veil (And.intro (zgk hW) (hE.trans hEW))
   clear hW hEW
   go_upto_region 6 with (first
    | ((with_reducible refine zas 17 ?_); refine wpList_load_mid rfl 29 _ rfl g 1 rfl _ _ (ky_q HW.out.1) Tryz.underlying29 rfl (iT k.x k.y k.f) ?_)
    | (go_at_call 21; refine (KO.out _).mono ?_; rintro e w2 ⟨rfl,hE2⟩))
   have hrg:=fun j u (hu : (kyC k)[j]? = some u) => zdf hE2 (World.block_lt_of_cell? _ _ (ky_i HW.out.1)) HW.out.1 j u hu
   have hEE:=HW.out.2.trans hE2
   have HH:=veil (And.intro hrg hEE)
   have c0:=ky_i HH.out.1
   have c9:=ky_f HH.out.1
   have c10:=ky_a HH.out.1
   have c11:=ky_b HH.out.1
   simp only [Nat.zero_add] at c9 c10 c11
   clear hrg hE2 KO HW HRG hEE hE
   have hpc : 0 < i → w2.cell? ⟨b,o + (i - 1) * 12,none⟩ = some (.int .i64 (l.getD (i - 1) ky0).i):=fun h0 => by
    have hl2 : i - 1 < l.length:=by omega
    have:=zdf HH.out.2 HP.out.1 (HP.out.2 (i - 1) (l.getD (i - 1) ky0) (by rw [List.getD_eq_getElem?_getD,List.getElem?_eq_getElem hl2]; rfl))
    exact ky_i this
   have HPC:=veil hpc
   clear hpc
   obtain ⟨ki,hki⟩ : ∃ z,z = k.i:=⟨_,rfl⟩
   obtain ⟨kf,hkf⟩ : ∃ z,z = k.f:=⟨_,rfl⟩
   obtain ⟨ka,hka⟩ : ∃ z,z = k.a:=⟨_,rfl⟩
   obtain ⟨kb,hkb⟩ : ∃ z,z = k.b:=⟨_,rfl⟩
   obtain ⟨on,hon⟩ : ∃ z,z = onB k.x k.y k.f:=⟨_,rfl⟩
   rw [← hki] at c0
   rw [← hkf] at c9
   rw [← hka] at c10
   rw [← hkb] at c11
   rw [← hon]
   have HV:=veil (And.intro hki (And.intro hkf (And.intro hka (And.intro hkb hon))))
   clear hki hkf hka hkb hon hil
   have hno : ∀ (p : okK l i → False),R = false:=fun p => HK.out.2.2 p
   have HN:=veil hno
   clear hno
   by_cases g0 : ki < 1
   ·
    have hd2 : decide (ki < 1) = true:=decide_eq_true g0
    have e : R = false:=HN.out fun h => by
     unfold okK at h
     rw [← HK.out.1] at h
     have h1:=h.1
     rw [← HV.out.1] at h1
     omega
    subst e
    go_quiet (fail)
    go_wp2
    go_ret
    exact ⟨rfl,HH.out.2.trans (Ext.drewK _ _)⟩
   ·
    have hd2 : decide (ki < 1) = false:=decide_eq_false g0
    by_cases g1 : 2147483647 < ki
    ·
     have hd3 : decide (2147483647 < ki) = true:=decide_eq_true g1
     have e : R = false:=HN.out fun h => by
      unfold okK at h
      rw [← HK.out.1] at h
      have h1:=h.2.1
      rw [← HV.out.1] at h1
      omega
     subst e
     go_quiet (fail)
     go_wp2
     go_ret
     exact ⟨rfl,HH.out.2.trans (Ext.drewK _ _)⟩
    ·
     have hd3 : decide (2147483647 < ki) = false:=decide_eq_false g1
     cases on with
     | false =>
      have e : R = false:=HN.out fun h => by
       unfold okK at h
       rw [← HK.out.1] at h
       have h1:=h.2.2.1
       rw [← HV.out.2.2.2.2] at h1
       cases h1
      subst e
      go_quiet (fail)
      go_wp2
      go_ret
      exact ⟨rfl,HH.out.2.trans (Ext.drewK _ _)⟩
     | true =>
      cases kf with
      | true =>
       have e : R = false:=HN.out fun h => by
        unfold okK at h
        rw [← HK.out.1] at h
        have h1:=h.2.2.2.1
        rw [← HV.out.2.1] at h1
        cases h1
       subst e
       go_quiet (fail)
       go_wp2
       go_ret
       exact ⟨rfl,HH.out.2.trans (Ext.drewK _ _)⟩
      | false =>
       by_cases g4 : ka < 0
       ·
        have hd6 : decide (ka < 0) = true:=decide_eq_true g4
        have e : R = false:=HN.out fun h => by
         unfold okK at h
         rw [← HK.out.1] at h
         have h1:=h.2.2.2.2.1
         rw [← HV.out.2.2.1] at h1
         omega
        subst e
        go_quiet (fail)
        go_wp2
        go_ret
        exact ⟨rfl,HH.out.2.trans (Ext.drewK _ _)⟩
       ·
        have hd6 : decide (ka < 0) = false:=decide_eq_false g4
        by_cases g5 : kb < ka
        ·
         have hd7 : decide (kb < ka) = true:=decide_eq_true g5
         have e : R = false:=HN.out fun h => by
          unfold okK at h
          rw [← HK.out.1] at h
          have h1:=h.2.2.2.2.2.1
          rw [← HV.out.2.2.1,← HV.out.2.2.2.1] at h1
          omega
         subst e
         go_quiet (fail)
         go_wp2
         go_ret
         exact ⟨rfl,HH.out.2.trans (Ext.drewK _ _)⟩
        ·
         have hd7 : decide (kb < ka) = false:=decide_eq_false g5
         by_cases g6 : 1073741824 < kb
         ·
          have hd8 : decide (1073741824 < kb) = true:=decide_eq_true g6
          have e : R = false:=HN.out fun h => by
           unfold okK at h
           rw [← HK.out.1] at h
           have h1:=h.2.2.2.2.2.2.1
           rw [← HV.out.2.2.2.1] at h1
           omega
          subst e
          go_quiet (fail)
          go_wp2
          go_ret
          exact ⟨rfl,HH.out.2.trans (Ext.drewK _ _)⟩
         ·
          have hd8 : decide (1073741824 < kb) = false:=decide_eq_false g6
          by_cases g7 : i = 0
          ·
           have hd9 : decide (0 < i) = false:=by simp; omega
           have hd9' : decide ((0 : Int) < (i : Int)) = false:=by simp; omega
           have G:=veil g7
           clear g7
           go_quiet (fail)
           go_wp2
           go_roundw
           case rel =>
            refine ⟨i + 1,by omega,by go_num,fun j hj => ?_,HH.out.2.trans (Ext.drewK _ _)⟩
            obtain rfl : j = i:=by have:=G.out; omega
            unfold okK
            rw [← HK.out.1,← HV.out.1,← HV.out.2.1,← HV.out.2.2.1,← HV.out.2.2.2.1,HV.out.2.1,← HV.out.2.2.2.2,← HV.out.2.1]
            exact ⟨by omega,by omega,rfl,rfl,by omega,by omega,by omega,fun h => absurd h (by have:=G.out; omega)⟩
           case measure => simp [intOf]; omega
          ·
           have hd9 : decide (0 < i) = true:=by simp; omega
           have hd9' : decide ((0 : Int) < (i : Int)) = true:=by simp; omega
           have cp:=HPC.out (by omega)
           obtain ⟨z,hz⟩ : ∃ z,z = (l.getD (i - 1) ky0).i:=⟨_,rfl⟩
           rw [← hz] at cp
           have hki2 : (i : Int) - 1 = ((i - 1 : Nat) : Int):=by omega
           obtain ⟨m,hm⟩ : ∃ m,m = i - 1:=⟨_,rfl⟩
           rw [← hm] at cp hki2
           have hmn : (m : Int) < (n : Int):=by omega
           have HZ:=veil (And.intro hz hm)
           clear hz hm
           by_cases g8 : ki ≤ z
           ·
            have hd10 : decide (ki ≤ z) = true:=decide_eq_true g8
            have e : R = false:=HN.out fun h => by
             unfold okK at h
             rw [← HK.out.1] at h
             have h1:=h.2.2.2.2.2.2.2 (by omega)
             rw [← HV.out.1,← HZ.out.1] at h1
             omega
            subst e
            go_quiet (fail)
            go_wp2
            go_ret
            exact ⟨rfl,HH.out.2.trans (Ext.drewK _ _)⟩
           ·
            have hd10 : decide (ki ≤ z) = false:=decide_eq_false g8
            go_quiet (fail)
            go_wp2
            go_roundw
            case rel =>
             refine ⟨i + 1,by omega,by go_num,fun j hj => ?_,HH.out.2.trans (Ext.drewK _ _)⟩
             by_cases e : j = i
             ·
              subst e
              unfold okK
              rw [← HK.out.1,← HV.out.1,← HV.out.2.1,← HV.out.2.2.1,← HV.out.2.2.2.1,HV.out.2.1,← HV.out.2.2.2.2,← HV.out.2.1]
              exact ⟨by omega,by omega,rfl,rfl,by omega,by omega,by omega,fun _ => by rw [← HZ.out.1]; omega⟩
             ·
              exact HK.out.2.1 j (by omega)
            case measure => simp [intOf]; omega
  ·
   obtain rfl : i = n:=by omega
   have e : R = decide ((i : Int) ≤ 32):=by
    rw [HR.out.1,mayK_len (by rw [← HR.out.2.1]; exact hall),← HR.out.2.1]
    by_cases h : i ≤ 32
    ·
     rw [decide_eq_true h,decide_eq_true (by omega)]
    ·
     rw [decide_eq_false h,decide_eq_false (by omega)]
   have HE:=veil e
   clear hall e
   go_wp2
   go_ret
   exact ⟨by rw [HE.out]; rfl,hE⟩
theorem infoTG : (Tryz.prog.info? 5).map (fun i => (i.zero,i.size,i.bytes)) = some (some (.int .u8 0),1,1):=by kernel_rfl
theorem put_no (v : Value) (fs : List Fd) (w : World) (hF : Fl w v fs) (hL : fs.length ≤ 1000000000) (hM : mayFs fs = false) :
  Calls Tryz.prog 27 #[v] w fun e w' => e = .returned (.tuple #[.slice none 0 0,.iface 39 (.int .i64 1)]) ∧ Ext w w':=by
 have KM:=veil (zgb v fs w hF hL)
 rw [hM] at KM
 clear hF hL hM
 go_enter Tryz.func27,Tryz.ntmps27
 go_wp2_with (go_at_call 51; refine KM.out.mono ?_; rintro e w1 ⟨rfl,hE1⟩)
 go_ret2
 exact ⟨rfl,hE1⟩
theorem put_yes (v : Value) (fs : List Fd) (w : World) (hF : Fl w v fs) (hM : mayFs fs = true) :
  Calls Tryz.prog 27 #[v] w fun e w' => ∃ A c,e = .returned (.tuple #[.slice A (encF fs).length c,.nilIface]) ∧ (encF fs).length ≤ c ∧ Bs w' A (encF fs) ∧ Ext w w':=by
 have h64:=mayFs_64 hM
 have KM:=veil (zgb v fs w hF (by omega))
 rw [hM] at KM
 have HF:=veil hF
 obtain ⟨hB,AL,c,rfl,hc,hx⟩:=hF
 obtain ⟨n,hn⟩ : ∃ n,n = fs.length:=⟨_,rfl⟩
 rw [← hn] at hx hc KM HF ⊢
 have HR:=veil (And.intro hn (And.intro hM hB))
 have HX:=veil hx
 have hnL : n ≤ 64:=by omega
 clear hx hB hn hM h64
 go_enter Tryz.func27,Tryz.ntmps27
 go_upto_region 3 with (go_at_call 51; refine KM.out.mono ?_; rintro e w1 ⟨rfl,hE1⟩)
 have KS:=veil (sizeOf_calls _ fs w1 (HF.out.ext hE1) HR.out.2.1)
 have HE1:=veil hE1
 have hle:=zhj HR.out.2.1 fs.length
 rw [List.take_length] at hle
 obtain ⟨S,hS⟩ : ∃ S,S = (encF fs).length:=⟨_,rfl⟩
 rw [← hS] at KS hle
 obtain ⟨i8,hi8,hz0,hz1,hz2⟩:=info_parts infoTG
 have HI:=veil (And.intro hi8 (And.intro hz0 (And.intro hz1 hz2)))
 clear hE1 KM hi8 hz0 hz1 hz2 hS
 go_upto_region 4 with (first
  | (go_at_call 52; refine KS.out.mono ?_; rintro e w2 ⟨rfl,hE2⟩)
  | ((with_reducible refine zas 14 ?_); refine wpList_make_own _ rfl _ _ 33 rfl w.heap.size 5 i8 (.int .u8 0) 1 Tryz.underlying33 HI.out.1 HI.out.2.1 HI.out.2.2.1 .i64 .i64 _ S rfl rfl rfl (by rw [HI.out.2.2.2]; omega) (by unfold maxLen; omega) (Below.size (HE1.out.trans hE2)) ?_; intro w3 hO3 hG3))
 have hE3 : Ext w w3:=(HE1.out.trans hE2).grown hG3 (Below.size (HE1.out.trans hE2)) fun k hk => by cases hk
 have hO : OwnB w3 w.heap.size (.slice (some ⟨w2.heap.size,0,none⟩) 0 S) []:=⟨(fun _ h => by cases h),hO3⟩
 clear hO3 hG3 hE2
 go_wp2
 go_loopw [4,17] (fun s v wr => ∃ i : Nat,i ≤ n ∧ OwnB wr w.heap.size s (encF (fs.take i)) ∧ v = .int .i64 (i : Int) ∧ Ext w wr)
  (fun _ v _ => n - (intOf v).toNat)
 case atStart => exact ⟨0,by omega,hO,rfl,hE3⟩
 case round =>
  obtain ⟨i,hi,hO,rfl,hE⟩:=hrel
  by_cases hlt : i < n
  ·
   have hd1 : decide ((i : Int) < (n : Int)) = true:=by simp; omega
   have hii : (i : Int) < (n : Int):=by omega
   have hok:=mayFs_ok HR.out.2.1 (by have:=HR.out.1; omega : i < fs.length)
   have hst:=encF_take fs (by have:=HR.out.1; omega : i < fs.length)
   have hle:=zhj HR.out.2.1 i
   obtain ⟨b,o,hAL,hb,hcl⟩:=HX.out.resolve_left (by omega)
   obtain ⟨h1,A,c',h2,h3,h4⟩:=hcl i hlt
   have c0:=(hE.cell hb).trans h1
   have c1:=(hE.cell hb).trans h2
   have hBS:=h4
   have hT1:=hok.1
   have hT2:=hok.2.1
   have hL1:=hok.2.2.1
   have HS:=veil (And.intro hst (And.intro hle hO))
   clear hcl h1 h2 hok hst hle h4 hO
   generalize tgF fs i = T at *
   generalize bsF fs i = D0 at *
   obtain ⟨L,hL⟩ : ∃ L,L = D0.length:=⟨_,rfl⟩
   rw [← hL] at c1 hL1 h3
   have HD:=veil (And.intro hL hBS)
   have HRG:=veil (rng_fd c0 c1)
   clear c0 c1 hL hBS
   have hL2 : (L : Int) ≤ 65535:=by omega
   subst hAL
   go_upto_region 7 with (first
    | ((with_reducible refine zas 20 ?_); refine wpList_load_mid rfl 64 _ rfl b _ rfl _ _ HRG.out Tryz.underlying64 rfl infoF2 ?_)
    | ((with_reducible refine zas 6 ?_); refine zdn _ _ rfl rfl rfl rfl rfl rfl hzF (fun _ => rfl) (fun _ => rfl) infoF2 rfl one_fd ?_; intro g W hg hW hEW))
   have hEE:=hE.trans hEW
   have HW:=veil (And.intro hW (And.intro hEE hEW))
   obtain ⟨d0,d1⟩:=zim hW
   clear hW hEW hE hEE
   go_upto_region 9 with ((with_reducible refine zas 34 ?_); refine zbh _ rfl _ _ 33 rfl w.heap.size 5 i8 (.int .u8 0) 1 Tryz.underlying33 HI.out.1 HI.out.2.1 HI.out.2.2.1 HI.out.2.2.2 rfl _ _ _ rfl (HS.out.2.2.ext (HW.out.2.2.trans (Ext.alloc W _))).2 (some ⟨W.heap.size,0,none⟩) 3 3 rfl _ (hdr3 (zar W _) hT1 hT2 hL1 HD.out.1).from (fun _ => rfl) (by unfold maxLen; have:=HS.out.2.1; omega) (by have:=HS.out.2.1; omega) (Nat.le_trans (Below.size HW.out.2.1) (Below.size (Ext.alloc W _))) ?_; intro v6 w6 hO6 hG6 _)
   have hEa:=HW.out.2.1.trans (Ext.alloc W (.cells #[.int .u8 T,.int .u8 ((L : Int) / 256),.int .u8 ((L : Int) % 256)] 5))
   have hE6 : Ext w w6:=hEa.grown hG6 (Below.size hEa) fun k hk => (HS.out.2.2.2.lt hk).1
   have hgl : g < (W.alloc (.cells #[.int .u8 T,.int .u8 ((L : Int) / 256),.int .u8 ((L : Int) % 256)] 5)).heap.size:=Nat.lt_of_lt_of_le (Array.getElem?_eq_some_iff.1 HW.out.1).1 (Below.size (Ext.alloc W _))
   have hg6 : w6.heap[g]? = some (.cells #[.int .i64 T,.slice A L c'] 64 (0,0)):=(hG6.block g hgl fun hk => by have:=(HS.out.2.2.2.lt hk.symm).2; omega).trans ((Ext.alloc W _).block HW.out.1)
   have hO7 : OwnB w6 w.heap.size v6 (encF (fs.take i) ++ hdr (T,D0)):=OwnB.append hO6 HS.out.2.2.1 (hdr_byt _) rfl rfl
   obtain ⟨e0,e1⟩:=zim hg6
   have hl3 : (encF (fs.take i) ++ hdr (T,D0)).length ≤ 4194435:=by rw [List.length_append]; have:=HS.out.2.1; show _ + 3 ≤ _; omega
   have H7:=veil (And.intro hO7 (And.intro hE6 (And.intro hg6 hl3)))
   have hfr:=(HD.out.2.ext hE6).from
   rw [← HD.out.1] at hfr
   have HFR:=veil hfr
   clear hO6 hG6 hEa hgl hg6 hO7 d0 d1 hl3 hfr hE6
   go_wp2_with ((with_reducible refine zas 38 ?_); refine zbh _ rfl _ _ 33 rfl w.heap.size 5 i8 (.int .u8 0) 1 Tryz.underlying33 HI.out.1 HI.out.2.1 HI.out.2.2.1 HI.out.2.2.2 rfl _ _ _ rfl H7.out.1.2 A L c' rfl _ HFR.out (fun _ => rfl) (by unfold maxLen; have:=H7.out.2.2.2; omega) (by have:=H7.out.2.2.2; omega) (Below.size H7.out.2.1) ?_; intro v8 w8 hO8 hG8 _)
   have hE8 : Ext w w8:=H7.out.2.1.grown hG8 (Below.size H7.out.2.1) fun k hk => (H7.out.1.2.lt hk).1
   have hO9 : OwnB w8 w.heap.size v8 (encF (fs.take i) ++ hdr (T,D0) ++ D0):=OwnB.append hO8 H7.out.1.1 HD.out.2.1 rfl HD.out.1
   rw [List.append_assoc] at hO9
   clear hO8 hG8
   go_roundw
   case rel => exact ⟨i + 1,by omega,by rw [HS.out.1]; exact hO9,by go_num,hE8⟩
   case measure => simp [intOf]; omega
  ·
   obtain rfl : i = n:=by omega
   have e : encF (fs.take i) = encF fs:=by rw [HR.out.1,List.take_length]
   rw [e] at hO
   obtain ⟨A,c2,rfl,hc2,hB2⟩:=hO.bs
   clear hO
   go_wp2
   go_ret2
   exact ⟨A,c2,rfl,hc2,hB2,hE⟩
theorem szB_long {D : List Nat} (h0 : 0 < D.length) (h : D.length < szB D) : parse D = none:=by
 unfold szB at h
 by_cases h3 : D.length < 3
 ·
  exact parse_two h3 h0
 ·
  rw [if_neg h3] at h
  have:=parse_long (bs:=D) (a:=0) (n:=256 * D.getD 1 0 + D.getD 2 0) (by omega) rfl (by omega)
  rwa [List.drop_zero] at this
theorem szB_3 {D : List Nat} (h : szB D ≤ D.length) : 3 ≤ D.length:=by
 unfold szB at h
 by_cases h3 : D.length < 3
 ·
  rw [if_pos h3] at h; omega
 ·
  omega
theorem szB_ge (D : List Nat) : 3 ≤ szB D:=by unfold szB; split <;> omega
theorem szB_step {D : List Nat} {N : Nat} (hN : szB D = 3 + N) (h3 : 3 ≤ D.length) (h : 3 + N ≤ D.length) :
  parse D = (parse (D.drop (3 + N))).map ((((D.getD 0 0 : Nat) : Int),(D.drop 3).take N) :: ·):=by
 unfold szB at hN
 rw [if_neg (by omega)] at hN
 have:=parse_more (bs:=D) (a:=0) (n:=N) (by omega) (by show N = 256 * D.getD 1 0 + D.getD 2 0; omega) (by omega)
 rwa [List.drop_zero,Nat.zero_add] at this
theorem get_of_false {bs D : List Nat} {fs : List Fd} (h : parse bs = (parse D).map (fs ++ ·)) (hl : 64 < fs.length) : getFs bs = none:=by
 rw [zcn,h]
 cases parse D with
 | none => rfl
 | some x =>
  have hm : mayFs (fs ++ x) = false:=decide_eq_false fun hh => by have:=hh.1; rw [List.length_append] at this; omega
  simp [hm]
def lenV : Value → Nat
 | .slice _ n _ => n
 | _ => 0
theorem run_slice_lowv {P : Program} {o : Oper} {a : Act} {t : TypeId} {x z : Operand} {v v' vz : Value} {W : World} (ho : o.op = .slice t x (some z) none none) (hx : a.eval x = v) (hz : a.eval z = vz)
  (h : (Instr.sliceAt t v (some vz) none none).run P W = .ok v' W) : (execOp a.eval o).run P W = .ok (.value v') W:=by
 unfold execOp
 simp only [ho,hx,hz,Option.map_some,Option.map_none,Sem.run_bind,h,Result.andThen_ok,Sem.run_pure]
theorem cut_from8 (A : Option Addr) (r c m : Nat) (hm : m ≤ r) (w : World) {y : Int} (hy : y = (m : Int)) : (Instr.sliceAt 33 (.slice A r c) (some (.int .i64 y)) none none).run Tryz.prog w = .ok (.slice (cutA A m c) (r - m) (c - m)) w:=by
 subst hy
 exact cut_from A r c m hm w
theorem bs_drop {w : World} {A : Option Addr} {D : List Nat} {c : Nat} (h : Bs w A D) (m : Nat) (hm : m ≤ D.length) (hc : D.length ≤ c) : Bs w (cutA A m c) (D.drop m):=by
 have:=h.cut m (n:=D.length - m) (by omega) hc
 rwa [List.take_of_length_le (by rw [List.length_drop]; omega)] at this
theorem zei {P : Program} {Q : Exit → Act → World → Prop} {l : List Oper} {n k i d : Nat} {r : Sched} {a : Act} {w : World} {xs : List Operand} {ts : Array TypeId} {args : List Value} {R : Value → World → Prop} (o : Oper) (ho : l[i]? = some o) (hg : o.guard = none) (hd : o.dst = some d)
  (hop : o.op = .call { callee:=.value (.func k),args:=xs.toArray,argTypes:=ts }) (hx : xs.map a.eval = args)
  (he : ∀ W,(callFunc k args.toArray).run P W = .ok (.enter k args.toArray) W) (hc : ∀ W,Ext w W → Calls P k args.toArray W fun e W' => ∃ v,e = .returned v ∧ Ext W W' ∧ R v W')
  (h : ∀ v W,Ext w W → R v W → wpSched P l Q n r (a.put (some d) v) W) : wpSched P l Q n ((false,[i]) :: r) a w:=by
 refine zeh o ho hg fun W hW => ?_
 have h1 : execOp a.eval o = callFunc k (#[] ++ xs.toArray.map a.eval ++ #[]):=by
  cases o
  subst hop
  rfl
 have h2 : (execOp a.eval o).run P W = .ok (.enter k args.toArray) W:=by
  rw [h1,List.map_toArray,hx]
  simpa using he W
 unfold Oper.wp
 rw [h2,Oper.upon_enter]
 refine (hc W hW).mono ?_
 rintro e W' ⟨v,rfl,hE,hR⟩
 show (i < n → Ext W W') ∧ _
 rw [hd]
 exact ⟨fun _ => hE,h v W' (hW.trans hE) hR⟩
theorem zdb {P : Program} {f : FuncId} {fn : Func} {c : Code} (hf : P.funcs[f]? = some fn) (hname : (fn.name == "runtime.NumGoroutine") = false) (hb : fn.body = some c) (args : Array Value) (w : World) :
  (callFunc f args).run P w = .ok (.enter f args) w:=by
 have hn : ¬ fn.name = "runtime.NumGoroutine":=by simpa using hname
 simp [callFunc,go_sem,hf,hb,hn]
theorem get8_calls (A : Option Addr) (m c : Nat) (bs : List Nat) (hm : m = bs.length) (hmc : m ≤ c) (hle : m ≤ 100000000) (w : World) (hS : Bs w A bs) :
  Calls Tryz.prog 31 #[.slice A m c] w fun e w' => ∃ x ev,e = .returned (.tuple #[x,ev]) ∧ Ext w w' ∧ GetA w' bs x ev:=by
 have HS:=veil (And.intro hm (And.intro hmc (And.intro hS hle)))
 clear hS hm hmc hle
 go_enter Tryz.func31,Tryz.ntmps31
 go_wp2
 go_loopw [0,4] (fun s v wr => ∃ (A : Option Addr) (m c : Nat) (D : List Nat) (fs : List Fd),s = .slice A m c ∧ m = D.length ∧ m ≤ c ∧ m ≤ 100000000 ∧ Bs w A D ∧ OwnFs wr w.heap.size v fs ∧ fs.length ≤ 65 ∧ parse bs = (parse D).map (fs ++ ·) ∧ Ext w wr)
  (fun s _ _ => lenV s)
 case atStart => exact ⟨A,m,c,bs,[],rfl,HS.out.1,HS.out.2.1,HS.out.2.2.2,HS.out.2.2.1,OwnFs.nil _ _,by simp,by simp,Ext.refl _⟩
 case round =>
  obtain ⟨A,m,c,D,fs,rfl,hm,hmc,hle,hB,hO,hfl,hpar,hE⟩:=hrel
  have HO:=veil (And.intro hO (And.intro hfl hpar))
  have HB:=veil (And.intro hm (And.intro hB hmc))
  obtain ⟨AL,cl,hv,hcl,_⟩:=hO.fl.2
  obtain ⟨k,hk⟩ : ∃ k,k = fs.length:=⟨_,rfl⟩
  rw [← hk] at hv hcl hfl
  have HK:=veil hk
  clear hO hpar hm hB hk
  have KM:=veil (zgb _ fs wr HO.out.1.fl (by have:=HK.out; omega))
  subst hv
  by_cases hlt : 0 < m
  ·
   have hd1 : decide ((0 : Int) < (m : Int)) = true:=by simp; omega
   have hd1' : decide (0 < m) = true:=by simp; omega
   by_cases hk : (k : Int) ≤ 64
   ·
    have hd2 : decide ((k : Int) ≤ 64) = true:=decide_eq_true hk
    have KZ:=veil (sizeFirst_calls A m c D HB.out.1 wr (HB.out.2.1.ext hE))
    have HZ3:=szB_ge D
    obtain ⟨N,hN⟩ : ∃ N,szB D = 3 + N:=⟨szB D - 3,by omega⟩
    rw [hN] at KZ
    have HN:=veil hN
    clear HZ3 hN
    go_upto_region 4 with (go_at_call 54; refine KZ.out.mono ?_; rintro e w1 ⟨rfl,hE1⟩)
    have HE1:=veil (hE.trans hE1)
    have hO1:=HO.out.1.keep hE1
    have HO1:=veil hO1
    clear hO1 KM hE1 KZ
    by_cases h4 : m < 3 + N
    ·
     have hd3 : decide ((m : Int) < 3 + (N : Int)) = true:=by simp; omega
     have hn : getFs bs = none:=by
      rw [zcn,HO.out.2.2,szB_long (by have:=HB.out.1; omega) (by have:=HB.out.1; rw [HN.out]; omega)]
      rfl
     go_wp2
     go_ret2
     exact ⟨_,_,rfl,HE1.out,.inl ⟨hn,⟨none,0,rfl⟩,rfl⟩⟩
    ·
     have hd3 : decide ((m : Int) < 3 + (N : Int)) = false:=by simp; omega
     have h3m : 3 ≤ m:=by have:=HB.out.1; have:=szB_3 (D:=D) (by rw [HN.out]; omega); omega
     have hst:=szB_step HN.out (by have:=HB.out.1; omega : 3 ≤ D.length) (by have:=HB.out.1; omega)
     have hbt:=HB.out.2.1.ext HE1.out
     obtain ⟨b,o,hA,hbl,c0⟩:=hbt.cell (j:=0) (by have:=HB.out.1; omega)
     rw [Nat.add_zero] at c0
     have l0:=HB.out.2.1.1.getD 0
     obtain ⟨T,hT⟩ : ∃ T,T = D.getD 0 0:=⟨_,rfl⟩
     rw [← hT] at c0 l0 hst
     have k0 : (T : Int) ≤ 255:=by omega
     have i0 : (0 : Int) < (m : Int):=by omega
     have HST:=veil (And.intro hst hbt)
     have hbd:=bs_drop (c:=c) HB.out.2.1 (3 + N) (by have:=HB.out.1; omega) (by have:=HB.out.1; omega)
     have HBD:=veil hbd
     clear hst hbt hT l0 hbd
     subst hA
     go_upto_region 6 with (fail)
     refine zfb 11 [(true,[0,1,2,3,4,5,6,7]),(false,[8]),(true,[9]),(false,[10]),(false,[11]),(false,[12])] (by kernel_rfl) (by kernel_rfl) fun Q' hQ' => ?_
     refine' zcj (A:=_) _ rfl (by kernel_rfl) ?h1 ?h2
     case h1 =>
      intro D' hD hN'
      have d0:=hD.cell c0
      simp only [pickI,consO,List.getElem?_cons_zero,List.getElem?_cons_succ]
      iterate 7 (go_big_quiet_step (fail))
      go_big_quiet_want
      refine zcu (.slice (cutA (some ⟨b,o,none⟩) 3 c) N (c - 3)) (fun x => run_slice_v rfl rfl rfl rfl (cut_mid _ _ _ 3 N (by omega) _ rfl (by omega))) ?_
      simp only [aP,lA,lZ,lS]
      go_big_quiet_on
      exact zea
     have hl : N = ((D.drop 3).take N).length:=by rw [List.length_take,List.length_drop]; have:=HB.out.1; omega
     have hBc:=HST.out.2.cut 3 (n:=N) (c:=c) (by have:=HB.out.1; omega) (by have:=HB.out.1; omega)
     have HC:=veil (And.intro hl hBc)
     clear hl hBc
     refine zei (R:=fun v W => ∃ A' c',v = .slice A' N c' ∧ N ≤ c' ∧ Bs W A' ((D.drop 3).take N) ∧ Fresh w1 A' ((D.drop 3).take N)) _ rfl rfl rfl rfl rfl (zdb Tryz.func55 rfl rfl _) (fun W hW => (clone8_calls _ N (c - 3) ((D.drop 3).take N) HC.out.1 (by omega) W (HC.out.2.ext hW)).mono fun e W' ⟨A',c',he,hE',hc',hB',hF'⟩ => ⟨_,he,hE',A',c',rfl,hc',hB',hF'.imp id fun h b o e => Nat.le_trans (Below.size hW) (h b o e)⟩) ?_
     rintro _ W2 hE2 ⟨A',c',rfl,hc',hB',hF'⟩
     simp only [aP,lA,lZ,lS]
     refine' zcj (A:=_) _ rfl (by kernel_rfl) ?k1 ?k2
     case k1 =>
      intro D' hD hN'
      simp only [pickI,consO,List.getElem?_cons_zero,List.getElem?_cons_succ]
      repeat (go_big_quiet_step (fail))
      exact zea
     refine zgg (vs:=[(0,.agg #[.int .i64 (T : Int),.slice A' N c'])]) (C:=#[.int .i64 (T : Int),.slice A' N c']) (e:=64) _ rfl rfl rfl rfl rfl (fun W => by simp [Instr.buildSlice,go_sem]) ?_
     intro g2 W3 hg2 hgb2 hE3
     simp only [aP,lA,lZ,lS]
     have hEW3:=hE2.trans hE3
     have hown3:=HO1.out.keep hEW3
     have hoff : Off A' ((D.drop 3).take N) (Value.ownBlock (.slice AL k cl)):=hF'.off fun k hk => (HO1.out.lt hk).2
     have hBn:=hB'.ext hE3
     have hbase:=Nat.le_trans (Below.size HE1.out) (Below.size hEW3)
     have hNl:=HC.out.1
     have hfl9 : fs.length ≤ 1000000000:=by have:=HK.out; omega
     rw [hNl] at hgb2 hc'
     refine zhm (f:=((T : Int),(D.drop 3).take N)) (al:=(A',c')) _ rfl rfl rfl rfl rfl rfl (by decide) hown3 hgb2 hc' hBn hoff hfl9 hbase ?_
     intro v' W4 W5 hE4 hO5 hG5
     simp only [aP,lA,lZ,lS]
     have hE5 : Ext w W5:=(HE1.out.trans (hEW3.trans hE4)).grown hG5 (Below.size (HE1.out.trans (hEW3.trans hE4))) fun k hk => (HO1.out.lt hk).1
     have HO5:=veil (And.intro hO5 hE5)
     clear hown3 hoff hBn hbase hNl hgb2 hc' hO5 hE5 hG5
     refine zhb v' _ rfl rfl rfl rfl rfl ?_
     intro W6 hE6
     simp only [aP,lA,lZ,lS]
     refine zdx hQ' fun W7 hE7 => ?_
     have hle3 : 3 + N ≤ m:=by omega
     go_wp2_with ((with_reducible refine zas 35 ?_); refine zdc (.slice (cutA (some ⟨b,o,none⟩) (3 + N) c) (m - (3 + N)) (c - (3 + N))) rfl (run_slice_lowv rfl rfl rfl (cut_from8 _ _ _ (3 + N) hle3 _ (by omega))) ?_)
     go_roundw
     case rel =>
      refine ⟨_,m - (3 + N),c - (3 + N),D.drop (3 + N),fs ++ [((T : Int),(D.drop 3).take N)],rfl,by rw [List.length_drop,← HB.out.1],by omega,by omega,HBD.out,(HO5.out.1.keep hE6).keep hE7,?_,?_,HO5.out.2.trans (hE6.trans hE7)⟩
      ·
       rw [List.length_append,List.length_singleton]; have:=HK.out; omega
      ·
       rw [HO.out.2.2,HST.out.1]
       cases parse (D.drop (3 + N)) with
       | none => rfl
       | some x => simp
     case measure => simp [lenV]; omega
   ·
    have hd2 : decide ((k : Int) ≤ 64) = false:=decide_eq_false hk
    have hmay : mayFs fs = false:=decide_eq_false fun hh => by have:=hh.1; have:=HK.out; omega
    rw [hmay] at KM
    have HE:=veil hE
    clear hE hmay
    go_wp2_with (go_at_call 51; refine KM.out.mono ?_; rintro e w2 ⟨rfl,hE2⟩)
    go_ret2
    exact ⟨_,_,rfl,HE.out.trans hE2,.inl ⟨get_of_false HO.out.2.2 (by have:=HK.out; omega),⟨none,0,rfl⟩,rfl⟩⟩
  ·
   have hd1 : decide ((0 : Int) < (m : Int)) = false:=by simp; omega
   have hd1' : decide (0 < m) = false:=by simp; omega
   have hp : parse bs = some fs:=by
    rw [HO.out.2.2,List.length_eq_zero_iff.1 (show D.length = 0 by have:=HB.out.1; omega),parse_nil]
    simp
   have HP:=veil (And.intro hE (And.intro hp HO.out.1.fl))
   cases hmay : mayFs fs with
   | false =>
    rw [hmay] at KM
    have hn : getFs bs = none:=by
     rw [zcn,hp]
     simp [hmay]
    have HN:=veil hn
    clear hE hmay hp hn
    go_wp2_with (go_at_call 51; refine KM.out.mono ?_; rintro e w2 ⟨rfl,hE2⟩)
    go_ret2
    exact ⟨_,_,rfl,HP.out.1.trans hE2,.inl ⟨HN.out,⟨none,0,rfl⟩,rfl⟩⟩
   | true =>
    rw [hmay] at KM
    have hn : getFs bs = some fs:=by
     rw [zcn,hp]
     simp [hmay]
    have HN:=veil hn
    clear hE hmay hp hn
    go_wp2_with (go_at_call 51; refine KM.out.mono ?_; rintro e w2 ⟨rfl,hE2⟩)
    go_ret2
    exact ⟨_,_,rfl,HP.out.1.trans hE2,.inr ⟨fs,HN.out,rfl,HP.out.2.2.ext hE2⟩⟩
theorem cntK_no {k : Ky} {id at_ : Int} (h : ¬ (k.i = id ∧ k.a ≤ at_ ∧ at_ < k.b)) : cntK k id at_ = false:=by
 unfold cntK
 simp only [Bool.and_eq_false_iff,decide_eq_false_iff_not]
 omega
theorem cntK_yes {k : Ky} {id at_ : Int} (h : k.i = id ∧ k.a ≤ at_ ∧ at_ < k.b) : cntK k id at_ = true:=by
 unfold cntK
 simp only [Bool.and_eq_true,decide_eq_true_eq]
 omega
theorem rfind10_calls (v : Value) (l : List Ky) (id at_ : Int) (w : World) (hF : Ks w v l) (hL : l.length ≤ 1000000000) :
  Calls Tryz.prog 11 #[v,.int .i64 id,.int .i64 at_] w fun e w' => e = .returned (.tuple #[.agg (qO (findK l id at_)),.bool (findK l id at_).isSome]) ∧ Ext w w':=by
 obtain ⟨AL,c,rfl,hc,hx⟩:=hF
 obtain ⟨n,hn⟩ : ∃ n,n = l.length:=⟨_,rfl⟩
 rw [← hn] at hx hc hL ⊢
 have HX:=veil (And.intro hx hn)
 obtain ⟨R,hR⟩ : ∃ R,R = findK l id at_:=⟨_,rfl⟩
 rw [← hR]
 have HR:=veil hR
 clear hx hn hR
 go_enter Tryz.func11,Tryz.ntmps11
 go_upto_region 1 with (fail)
 obtain ⟨g,hg⟩ : ∃ g,g = w.heap.size:=⟨_,rfl⟩
 obtain ⟨w0,hw0⟩ : ∃ W,W = w.alloc (.cells PZ 29):=⟨_,rfl⟩
 have h0:=zar w (.cells PZ 29)
 have hE0:=Ext.alloc w (.cells PZ 29)
 rw [← hw0] at hE0
 rw [← hw0,← hg] at h0
 have H0:=veil (And.intro hE0 (And.intro h0 (show w.heap.size ≤ g by omega)))
 unfold PZ at hw0
 rw [← hw0,← hg]
 clear hw0 hg h0 hE0
 go_wp2
 go_loopw [8] (fun v wr => ∃ i : Nat,i ≤ n ∧ v = .int .i64 (i : Int) ∧ (∀ j,j < i → cntK (l.getD j ky0) id at_ = false) ∧ Ext w0 wr)
  (fun v _ => n - (intOf v).toNat)
 case atStart => exact ⟨0,by omega,rfl,fun j hj => by omega,Ext.refl _⟩
 case round =>
  obtain ⟨i,hi,rfl,hall,hE⟩:=hrel
  by_cases hlt : i < n
  ·
   have hd1 : decide ((i : Int) < (n : Int)) = true:=by simp; omega
   have hii : (i : Int) < (n : Int):=by omega
   have hil : i < l.length:=by have:=HX.out.2; omega
   obtain ⟨b,o,hAL,hb,hcl⟩:=HX.out.1.resolve_left (by omega)
   have HRG:=veil (zdf (H0.out.1.trans hE) hb (hcl i _ (zju hil)))
   obtain ⟨k,hk⟩ : ∃ k,k = l.getD i ky0:=⟨_,rfl⟩
   rw [← hk] at HRG
   have c0:=ky_i HRG.out
   have c10:=ky_a HRG.out
   have c11:=ky_b HRG.out
   have HK:=veil (And.intro hk (And.intro hall (And.intro hE hil)))
   subst hAL
   clear hk hall hE hil hb hcl
   by_cases gc : k.i = id ∧ k.a ≤ at_ ∧ at_ < k.b
   ·
    have hr : R = some k:=by
     rw [HR.out,HK.out.1]
     exact findK_at HK.out.2.2.2 HK.out.2.1 (by rw [← HK.out.1]; exact cntK_yes gc)
    have hd2 : decide (k.a ≤ at_) = true:=decide_eq_true gc.2.1
    have hd3 : decide (at_ < k.b) = true:=decide_eq_true gc.2.2
    have f1 : (k.i == id) = true:=by simp [gc.1]
    have HF:=veil (And.intro hr (HK.out.2.2.1.block H0.out.2.1))
    have g1:=gc.1
    rw [g1] at c0 f1
    clear hr gc g1
    go_wp2_with (first
     | ((with_reducible refine zas 44 ?_); refine wpList_load_mid rfl 29 _ rfl b (o + i * 12 + 1) rfl _ _ (ky_q HRG.out) Tryz.underlying29 rfl (iT k.x k.y k.f) ?_)
     | ((with_reducible refine zap ?_); refine wpList_store_row rfl 29 _ _ rfl g (qc k.x k.y k.f) rfl rfl 29 _ HF.out.2 (iT _ _ _) rfl (zcz _ _ _) ?_))
    refine bodyPost_ret (zay rfl _ _ g 29 (qc k.x k.y k.f) (0,0) _ rfl (setRow_heap wr g _ (qc k.x k.y k.f) 29 (0,0) HF.out.2) Tryz.underlying29 rfl (iT _ _ _)) rfl ⟨by rw [HF.out.1]; rfl,zat (H0.out.1.trans HK.out.2.2.1) H0.out.2.2 _⟩
   ·
    have hno:=cntK_no gc
    have HN:=veil hno
    have go : ∀ j,j < i + 1 → cntK (l.getD j ky0) id at_ = false:=fun j hj => by
     by_cases e : j = i
     ·
      subst e
      rw [← HK.out.1]
      exact HN.out
     ·
      exact HK.out.2.1 j (by omega)
    have GO:=veil go
    clear hno go
    by_cases g1 : k.i = id
    ·
     have f1 : (k.i == id) = true:=by simp [g1]
     rw [g1] at c0 f1
     by_cases g2 : k.a ≤ at_
     ·
      have hd2 : decide (k.a ≤ at_) = true:=decide_eq_true g2
      have hd3 : decide (at_ < k.b) = false:=decide_eq_false fun h => gc ⟨g1,g2,h⟩
      clear gc g1 g2
      go_wp2
      go_roundw
      case rel => exact ⟨i + 1,by omega,by go_num,GO.out,HK.out.2.2.1⟩
      case measure => simp [intOf]; omega
     ·
      have hd2 : decide (k.a ≤ at_) = false:=decide_eq_false g2
      clear gc g1 g2
      go_wp2
      go_roundw
      case rel => exact ⟨i + 1,by omega,by go_num,GO.out,HK.out.2.2.1⟩
      case measure => simp [intOf]; omega
    ·
     have f1 : (k.i == id) = false:=by simp [g1]
     clear gc
     go_wp2
     go_roundw
     case rel => exact ⟨i + 1,by omega,by go_num,GO.out,HK.out.2.2.1⟩
     case measure => simp [intOf]; omega
  ·
   obtain rfl : i = n:=by omega
   have hr : R = none:=by
    rw [HR.out]
    exact zhn (by rw [← HX.out.2]; exact hall)
   have HE:=veil (And.intro hr (And.intro hE (hE.block H0.out.2.1)))
   clear hall hr hE
   go_wp2_with ((with_reducible refine zap ?_); refine wpList_store_row rfl 29 _ _ rfl g PZ rfl rfl 29 _ HE.out.2.2 iPZ rfl pz_one ?_)
   refine bodyPost_ret (zay rfl _ _ g 29 PZ (0,0) _ rfl (setRow_heap wr g _ PZ 29 (0,0) HE.out.2.2) Tryz.underlying29 rfl iPZ) rfl ⟨by rw [HE.out.1,pz_qc]; rfl,zat (H0.out.1.trans HE.out.2.1) H0.out.2.2 _⟩
end Go.Proofs.YthlbemnbmbmjhaaGreatDoor
namespace Go.Proofs.YthlbemnbmbmjhaaGreatDoor
theorem findK_cnt {l : List Ky} {id at_ : Int} {k : Ky} (h : findK l id at_ = some k) : cntK k id at_ = true ∧ k ∈ l:=by
 unfold findK at h
 exact ⟨List.find?_some (p:=fun k => cntK k id at_) h,List.mem_of_find?_eq_some h⟩
def kcheckB (L : Low) (l : List Ky) (bs : List Nat) (at_ : Int) : Tk × Nat:=match openB bs with
 | none => (⟨0,0,0,0,0⟩,2)
 | some (t,_,_) => match findK l t.k at_ with
  | none => (⟨0,0,0,0,0⟩,4)
  | some k => checkB L k.x k.y k.f bs
theorem zhi {L : Low} {l : List Ky} {bs : List Nat} {at_ : Int} (h : openB bs = none) : kcheckB L l bs at_ = (⟨0,0,0,0,0⟩,2):=by
 unfold kcheckB
 rw [h]
theorem zhh {L : Low} {l : List Ky} {bs : List Nat} {at_ : Int} {t : Tk} {r s : Nat} (h : openB bs = some (t,r,s)) : kcheckB L l bs at_ = match findK l t.k at_ with
  | none => (⟨0,0,0,0,0⟩,4)
  | some k => checkB L k.x k.y k.f bs:=by
 unfold kcheckB
 rw [h]
end Go.Proofs.YthlbemnbmbmjhaaGreatDoor
namespace Go.Proofs.YthlbemnbmbmjhaaGreatDoor
open Go.RowKit
open Go.Value renaming int → vI
open Go.IntKind renaming u64 → vU
open Go.Act renaming put → aP
open List renaming setIfInBounds_toArray → lA, set_cons_zero → lZ, set_cons_succ → lS
theorem zkp (o : Option Ky) : PZ.size = (qO o).size:=by cases o <;> rfl
theorem ziv (o : Option Ky) : (Tryz.prog.info? 29).map (·.size) = some (qO o).size:=by cases o <;> exact iT _ _ _
theorem qO_one (o : Option Ky) : (qO o).all (·.oneCell') = true:=by cases o <;> exact zcz _ _ _
theorem kcheckB_no {L : Low} {l : List Ky} {bs : List Nat} {at_ : Int} {t : Tk} {r s : Nat} (h : openB bs = some (t,r,s)) (hf : findK l t.k at_ = none) : kcheckB L l bs at_ = (⟨0,0,0,0,0⟩,4):=by
 rw [zhh h,hf]
theorem kcheckB_yes {L : Low} {l : List Ky} {bs : List Nat} {at_ : Int} {t : Tk} {r s : Nat} {k : Ky} (h : openB bs = some (t,r,s)) (hf : findK l t.k at_ = some k) : kcheckB L l bs at_ = checkB L k.x k.y k.f bs:=by
 rw [zhh h,hf]
theorem rcheck10_calls {L : Low} (R : LowR L) (v : Value) (l : List Ky) (at_ : Int) (A : Option Addr) (m c : Nat) (bs : List Nat) (hm : m = bs.length) (hmc : m ≤ c) (hle : m ≤ 100000) (w : World) (hS : Bs w A bs) (hF : Ks w v l) (hT : TopK l) (hL : l.length ≤ 1000000000) :
  Calls Tryz.prog 18 #[v,.slice A m c,.int .i64 at_] w fun e w' => e = .returned (.tuple #[tkV (kcheckB L l bs at_).1,.int .i64 ((kcheckB L l bs at_).2 : Int)]) ∧ Ext w w':=by
 have KO:=veil (fun W => zkn R A m c bs hm hmc (by omega) W)
 have KF:=veil (fun id W hW => rfind10_calls v l id at_ W hW hL)
 have KC:=veil (fun (k : Ky) (hk : k ∈ l) W => rcheck9_calls R k.x k.y k.f (hT k hk).1 (hT k hk).2 A m c bs hm hmc hle W)
 have HB:=veil (And.intro hS hF)
 clear hm hmc hle hS hF hT hL
 go_enter Tryz.func18,Tryz.ntmps18
 go_upto_region 1 with (fail)
 obtain ⟨g6,hg6⟩ : ∃ g,g = w.heap.size:=⟨_,rfl⟩
 obtain ⟨w0,hw0⟩ : ∃ W,W = w.alloc (.cells TZ 47):=⟨_,rfl⟩
 have h0:=zar w (.cells TZ 47)
 have hE0:=Ext.alloc w (.cells TZ 47)
 rw [← hw0] at hE0
 rw [← hw0,← hg6] at h0
 have H0:=veil (And.intro hE0 (And.intro h0 (show w.heap.size ≤ g6 by omega)))
 unfold TZ at hw0
 rw [← hw0,← hg6]
 clear hw0 hg6 h0 hE0
 go_upto_region 2 with (first
  | (go_at_call 38; refine (KO.out w0 (HB.out.1.ext H0.out.1)).mono ?_; rintro e w1 ⟨T,G,y,rfl,hE1,hA⟩; obtain ⟨t,r,s,o,rfl,rfl,rfl,hY⟩:=openA_all hA)
  | ((with_reducible refine zap ?_); refine wpList_store_row rfl 47 _ _ rfl w1.heap.size (tkC t) rfl rfl 47 _ (zbk w1 _ _).1 (iTk t) rfl (zbw t) ?_)
  | ((with_reducible refine zap ?_); refine wpList_store_row rfl 78 _ _ rfl (w1.heap.size + 1) (gc r s) rfl rfl 78 _ (zde _ (zbk w1 _ _).2 (Nat.lt_succ_self _)) (iSg r s) rfl (zcw r s) ?_))
 have hF:=zcr (T:=tkC t) (G:=gc r s) (zfk w1 (.cells TZ 47) (.cells Z8 78)) (zbk w1 _ _).1 (zbk w1 _ _).2 ⟨Nat.le_refl _,Nat.lt_succ_self _⟩
 have hE2:=H0.out.1.trans (hE1.trans hF.1)
 have h61:=(hE1.trans hF.1).block H0.out.2.1
 have h8:=hF.2.1
 clear hF hE1 hA
 obtain ⟨g8,hg8⟩ : ∃ g,g = w1.heap.size:=⟨_,rfl⟩
 obtain ⟨g9,hg9⟩ : ∃ g,g = w1.heap.size + 1:=⟨_,rfl⟩
 rw [← hg9,← hg8] at hE2 h61 h8 ⊢
 obtain ⟨w2,hw2⟩ : ∃ W,W = (((w1.alloc (.cells TZ 47)).alloc (.cells Z8 78)).setRow g8 (tkC t)).setRow g9 (gc r s):=⟨_,rfl⟩
 rw [← hw2] at hE2 h61 h8
 unfold TZ Z8 at hw2
 rw [← hw2]
 have H2:=veil (And.intro hE2 (And.intro h61 H0.out.2.2))
 have c4 : w2.cell? ⟨g8,4,none⟩ = some (.int .i64 t.k):=by rw [cell_of_row w2 g8 4 _ _ _ h8]; rfl
 have HY:=veil hY
 clear hw2 hg8 hg9 hE2 h61 h8 hY KO H0
 rcases HY.out with ⟨hp,rfl⟩ | ⟨hp,rfl⟩
 ·
  have hr:=zhi (L:=L) (l:=l) (at_:=at_) hp
  clear HY hp c4
  go_wp2_with ((with_reducible refine zap ?_); refine wpList_store_row rfl 47 _ _ rfl g6 TZ rfl rfl 47 _ H2.out.2.1 iTZ rfl zci ?_)
  refine bodyPost_ret (zay rfl _ _ g6 47 TZ (0,0) _ rfl (setRow_heap w2 g6 _ TZ 47 (0,0) H2.out.2.1) Tryz.underlying47 rfl iTZ) rfl ⟨by rw [hr]; rfl,zat H2.out.1 H2.out.2.2 _⟩
 ·
  have HP:=veil hp
  clear HY hp
  obtain ⟨o,ho⟩ : ∃ o,o = findK l t.k at_:=⟨_,rfl⟩
  have KG : Hid (Calls Tryz.prog 11 #[v,.int .i64 t.k,.int .i64 at_] w2 fun e w' => e = .returned (.tuple #[.agg (qO o),.bool o.isSome]) ∧ Ext w2 w'):=veil (by rw [ho]; exact KF.out t.k w2 (HB.out.2.ext H2.out.1))
  have HO:=veil ho
  clear ho KF
  go_upto_region 5 with (first
   | (go_at_call 11; refine KG.out.mono ?_; rintro e w3 ⟨rfl,hE3⟩)
   | ((with_reducible refine zap ?_); refine wpList_store_row rfl 29 _ _ rfl w3.heap.size (qO o) rfl rfl 29 _ (zar w3 _) (ziv o) (zkp o) (qO_one o) ?_; rw [World.setRow_alloc_new]))
  have hE4:=hE3.trans (Ext.alloc w3 (.cells (qO o) 29))
  have h11:=zar w3 (.cells (qO o) 29)
  generalize w3.alloc (.cells (qO o) 29) = w4 at *
  generalize w3.heap.size = g11 at *
  have H4:=veil (And.intro (H2.out.1.trans hE4) (And.intro (hE4.block H2.out.2.1) (And.intro h11 H2.out.2.2)))
  clear hE3 hE4 h11 c4 KG H2
  cases o with
  | none =>
   have hr:=kcheckB_no (L:=L) HP.out HO.out.symm
   clear HO
   go_wp2_with ((with_reducible refine zap ?_); refine wpList_store_row rfl 47 _ _ rfl g6 TZ rfl rfl 47 _ H4.out.2.1 iTZ rfl zci ?_)
   refine bodyPost_ret (zay rfl _ _ g6 47 TZ (0,0) _ rfl (setRow_heap w4 g6 _ TZ 47 (0,0) H4.out.2.1) Tryz.underlying47 rfl iTZ) rfl ⟨by rw [hr]; rfl,zat H4.out.1 H4.out.2.2.2 _⟩
  | some k =>
   have hr:=kcheckB_yes (L:=L) HP.out HO.out.symm
   have hk:=(findK_cnt HO.out.symm).2
   have KD : Hid (Calls Tryz.prog 39 #[.slice A m c,.agg (qO (some k))] w4 fun e w' => e = .returned (.tuple #[tkV (checkB L k.x k.y k.f bs).1,.int .i64 ((checkB L k.x k.y k.f bs).2 : Int)]) ∧ Ext w4 w'):=veil (KC.out k hk w4 (HB.out.1.ext H4.out.1))
   rw [← hr] at KD
   obtain ⟨u,hu⟩ : ∃ u,u = kcheckB L l bs at_:=⟨_,rfl⟩
   rw [← hu] at KD
   have HU:=veil hu
   unfold tkV at KD
   clear hr hk hu HO KC HP
   go_wp2_with (first
    | ((with_reducible refine zas 34 ?_); refine wpList_load_row rfl 29 _ rfl g11 rfl 29 (qO (some k)) (0,0) _ H4.out.2.2.1 Tryz.underlying29 rfl (ziv _) ?_)
    | (go_at_call 39; refine KD.out.mono ?_; rintro e w5 ⟨rfl,hE5⟩)
    | ((with_reducible refine zap ?_); refine wpList_store_row rfl 47 _ _ rfl g6 (tkC u.1) rfl rfl 47 _ (hE5.block H4.out.2.1) (iTk _) rfl (zbw _) ?_))
   refine bodyPost_ret (zay rfl _ _ g6 47 (tkC u.1) (0,0) _ rfl (setRow_heap w5 g6 _ (tkC u.1) 47 (0,0) (hE5.block H4.out.2.1)) Tryz.underlying47 rfl (iTk _)) rfl ⟨by rw [← HU.out]; rfl,zat (H4.out.1.trans hE5) H4.out.2.2.2 _⟩
theorem eqCode22 (w : World) : (binOp .eql 35 (.iface 39 (.int .i64 2)) (.iface 39 (.int .i64 2))).run Tryz.prog w = .ok (.bool true) w:=by kernel_rfl
def findC (l : List Ky) (id at_ : Int) : Option Ky:=if mayK l = true then findK l id at_ else none
def checkC (L : Low) (l : List Ky) (bs : List Nat) (at_ : Int) : Tk × Nat:=if mayK l = true then kcheckB L l bs at_ else (⟨0,0,0,0,0⟩,1)
structure Code10 (L : Low) (I : World → Prop) : Prop where
 keep : ∀ w w',I w → Ext w w' → I w'
 base : ∀ w,Calls Tryz.prog 20 #[] w fun e w' => e = .returned (.agg (qc Pt.gx Pt.gy false)) ∧ Ext w w'
 find : ∀ v l id at_ w,Ks w v l → TopK l → l.length ≤ 1000 → Calls Tryz.prog 9 #[v,.int .i64 id,.int .i64 at_] w fun e w' => e = .returned (.tuple #[.agg (qO (findC l id at_)),.bool (findC l id at_).isSome]) ∧ Ext w w'
 check : ∀ v l at_ A m c bs w,I w → Ks w v l → TopK l → l.length ≤ 1000 → m = bs.length → m ≤ c → m ≤ 5000 → Bs w A bs → Calls Tryz.prog 17 #[v,.slice A m c,.int .i64 at_] w fun e w' => e = .returned (.tuple #[tkV (checkC L l bs at_).1,errV (checkC L l bs at_).2]) ∧ Ext w w'
 check_nil : ∀ w,Calls Tryz.prog 17 #[.slice none 0 0,.slice none 0 0,.int .i64 0] w fun e w' => e = .returned (.tuple #[.agg (tkC ⟨0,0,0,0,0⟩),.iface 39 (.int .i64 2)]) ∧ Ext w w'
theorem onB_base : onB Pt.gx Pt.gy false = true:=by decide +kernel
theorem gx_top : Pt.gx < top:=(onB_top onB_base).1
theorem gy_top : Pt.gy < top:=(onB_top onB_base).2
def kB : Ky:=⟨1,Pt.gx,Pt.gy,false,5,6⟩
theorem may_kB : mayK [kB] = true:=by
 rw [mayK_len fun j hj => ?_]
 ·
  rfl
 ·
  obtain rfl : j = 0:=by simpa using hj
  exact ⟨by decide,by decide,onB_base,rfl,by decide,by decide,by decide,fun h => absurd h (by decide)⟩
theorem find_kB5 : findC [kB] 1 5 = some kB:=by
 unfold findC
 rw [if_pos may_kB]
 rfl
theorem find_kB6 : findC [kB] 1 6 = none:=by
 unfold findC
 rw [if_pos may_kB]
 rfl
theorem top_kB : TopK [kB]:=fun k hk => by
 rw [List.mem_singleton.1 hk]
 exact ⟨gx_top,gy_top⟩
theorem up10 {L : Low} {I : World → Prop} (C : Code10 L I) (w : World) : Calls Tryz.prog 7 #[] w fun e w' => e = .returned (.bool true) ∧ Ext w w':=by
 have KC:=veil (fun W => C.check_nil W)
 have KB:=veil (fun W => C.base W)
 have KF:=veil (fun (g : Nat) (at_ : Int) W (hg : W.heap[g]? = some (.cells (kyC kB).toArray 55 (0,0))) => C.find (.slice (some ⟨g,0,none⟩) 1 1) [kB] 1 at_ W (ls_one hg) top_kB (by decide : (1 : Nat) ≤ 1000))
 have h22:=eqCode22
 go_enter Tryz.func7,Tryz.ntmps7
 go_upto_region 2 with (first
  | (go_at_call 17; refine (KC.out _).mono ?_; rintro e w1 ⟨rfl,hE1⟩)
  | ((with_reducible refine zap ?_); refine wpList_store_row rfl 47 _ _ rfl w1.heap.size (tkC ⟨0,0,0,0,0⟩) rfl rfl 47 _ (zar w1 _) (iTk _) rfl (zbw _) ?_; rw [World.setRow_alloc_new]))
 have hE2:=hE1.trans (Ext.alloc w1 (.cells (tkC ⟨0,0,0,0,0⟩) 47))
 generalize w1.alloc (.cells (tkC ⟨0,0,0,0,0⟩) 47) = w2 at *
 generalize w1.heap.size = g1 at *
 have H2:=veil hE2
 clear hE1 hE2 KC
 refine wp_region_list ?_
 refine zfi (R:=fun v W => v = .agg (qc Pt.gx Pt.gy false) ∧ Ext w2 W) rfl rfl rfl (zdb Tryz.func20 rfl rfl _) ((KB.out w2).mono fun e W' ⟨he,hE⟩ => ⟨_,he,rfl,hE⟩) ?_
 rintro _ w3 ⟨rfl,hE3⟩
 simp only [aP,lA,lZ,lS]
 refine zdc (.agg (kyC kB).toArray) rfl (zhs (vs:=[(0,.int .i64 1),(1,.agg (qc Pt.gx Pt.gy false)),(2,.int .i64 5),(3,.int .i64 6)]) rfl rfl (bldKy kB _)) ?_
 simp only [aP,lA,lZ,lS]
 refine wpl_slice1 (vs:=[(0,.agg (kyC kB).toArray)]) rfl rfl rfl (bslKy kB w3) ?_
 simp only [aP,lA,lZ,lS]
 have K5:=KF.out w3.heap.size 5 _ (zar w3 _)
 rw [find_kB5] at K5
 refine zfi (R:=fun v W => v = .tuple #[.agg (qO (some kB)),.bool true] ∧ Ext _ W) rfl rfl rfl (zdb Tryz.func9 rfl rfl _) (K5.mono fun e W' ⟨he,hE⟩ => ⟨_,he,rfl,hE⟩) ?_
 rintro _ w4 ⟨rfl,hE4⟩
 simp only [aP,lA,lZ,lS]
 refine zdc (.tuple #[.agg (qO (some kB)),.bool true]) rfl rfl ?_
 simp only [aP,lA,lZ,lS]
 refine zdc (.agg (qO (some kB))) rfl rfl ?_
 simp only [aP,lA,lZ,lS]
 refine zdc (.bool true) rfl rfl ?_
 simp only [aP,lA,lZ,lS]
 refine zdn (zs:=PZ) _ _ rfl rfl rfl rfl rfl rfl (fun _ => rfl) (fun _ => rfl) (fun _ => rfl) (ziv (some kB)) (zkp (some kB)) (qO_one (some kB)) ?_
 intro g5 w5 _ h5 hE5
 simp only [aP,lA,lZ,lS]
 refine zdc (.bool true) rfl rfl ?_
 simp only [aP,lA,lZ,lS]
 refine wpList_nil ?_
 have H5:=veil (And.intro (H2.out.trans (hE3.trans ((Ext.alloc w3 _).trans (hE4.trans hE5)))) h5)
 clear K5 hE3 hE4 hE5 h5 H2
 go_upto_region 3 with (fail)
 refine wp_region_list ?_
 refine zfi (R:=fun v W => v = .agg (qc Pt.gx Pt.gy false) ∧ Ext w5 W) rfl rfl rfl (zdb Tryz.func20 rfl rfl _) ((KB.out w5).mono fun e W' ⟨he,hE⟩ => ⟨_,he,rfl,hE⟩) ?_
 rintro _ w6 ⟨rfl,hE6⟩
 simp only [aP,lA,lZ,lS]
 refine zdc (.agg (kyC kB).toArray) rfl (zhs (vs:=[(0,.int .i64 1),(1,.agg (qc Pt.gx Pt.gy false)),(2,.int .i64 5),(3,.int .i64 6)]) rfl rfl (bldKy kB _)) ?_
 simp only [aP,lA,lZ,lS]
 refine wpl_slice1 (vs:=[(0,.agg (kyC kB).toArray)]) rfl rfl rfl (bslKy kB w6) ?_
 simp only [aP,lA,lZ,lS]
 have K6:=KF.out w6.heap.size 6 _ (zar w6 _)
 rw [find_kB6] at K6
 refine zfi (R:=fun v W => v = .tuple #[.agg (qO none),.bool false] ∧ Ext _ W) rfl rfl rfl (zdb Tryz.func9 rfl rfl _) (K6.mono fun e W' ⟨he,hE⟩ => ⟨_,he,rfl,hE⟩) ?_
 rintro _ w7 ⟨rfl,hE7⟩
 simp only [aP,lA,lZ,lS]
 refine zdc (.tuple #[.agg (qO none),.bool false]) rfl rfl ?_
 simp only [aP,lA,lZ,lS]
 refine zdc (.agg (qO none)) rfl rfl ?_
 simp only [aP,lA,lZ,lS]
 refine zdc (.bool false) rfl rfl ?_
 simp only [aP,lA,lZ,lS]
 refine zdn (zs:=PZ) _ _ rfl rfl rfl rfl rfl rfl (fun _ => rfl) (fun _ => rfl) (fun _ => rfl) (ziv none) (zkp none) (qO_one none) ?_
 intro g8 w8 _ _ hE8
 simp only [aP,lA,lZ,lS]
 refine zdc (.bool false) rfl rfl ?_
 simp only [aP,lA,lZ,lS]
 refine wpList_nil ?_
 have hE9:=hE6.trans ((Ext.alloc w6 _).trans (hE7.trans hE8))
 have H8:=veil (And.intro (H5.out.1.trans hE9) (hE9.block H5.out.2))
 clear K6 hE6 hE7 hE8 hE9 H5
 go_upto_region 4 with (fail)
 refine zfb 16 [(true,List.range 16)] (by kernel_rfl) (by kernel_rfl) fun Q' hQ' => ?_
 refine' zcj (A:=_) _ rfl (by kernel_rfl) ?_ ?_
 rotate_left
 ·
  intro D hD hN
  have KD:=veil (fun x : Gw D => hD.calls (v:=.agg (qc Pt.gx Pt.gy false)) (fun W _ => KB.out W) x)
  have ke : ∀ W,(binOp .eql 29 (.agg (qc Pt.gx Pt.gy false)) (.agg (qc Pt.gx Pt.gy false))).run Tryz.prog W = .ok (.bool true) W:=fun W => eqT gx_top gy_top W
  have kg : ∀ op x y W,(eqGuard op 29 x y (.agg (qc Pt.gx Pt.gy false)) (.agg (qc Pt.gx Pt.gy false))).run Tryz.prog W = .ok () W:=fun op x y W => gT _ _ _ _ _ _ op x y W
  simp only [List.range,List.range.loop,pickI,consO,List.getElem?_cons_zero,List.getElem?_cons_succ]
  iterate 7 (go_big_quiet_step (fail))
  go_big_quiet_want
  refine zcu (.agg (qc Pt.gx Pt.gy false)) (fun x => zbm rfl rfl (hD.block H8.out.2 x) Tryz.underlying29 rfl (iT _ _ _)) ?_
  simp only [aP,lA,lZ,lS]
  go_big_quiet_on
  go_big_quiet_step (exact KD.out _)
  repeat (go_big_quiet_step (fail))
  exact zea
 refine zdx hQ' fun w9 hE9 => ?_
 have hE:=H8.out.1.trans hE9
 clear h22
 go_wp2
 go_ret
 exact ⟨rfl,hE⟩
theorem openB_ok {bs : List Nat} {t : Tk} {r s : Nat} (hb : Byt bs) (h : openB bs = some (t,r,s)) : t.ok:=ok_may (zhr hb h).2.1
theorem checkB_ok {L : Low} {X Y : Nat} {f : Bool} {bs : List Nat} (hb : Byt bs) : (checkB L X Y f bs).1.ok ∧ (checkB L X Y f bs).2 ≤ 9:=by
 unfold checkB
 cases h : openB bs with
 | none => exact ⟨zkq,show 2 ≤ 9 by decide⟩
 | some v =>
  obtain ⟨t,r,s⟩:=v
  show (if _ then _ else _ : Tk × Nat).1.ok ∧ (if _ then _ else _ : Tk × Nat).2 ≤ 9
  split
  ·
   exact ⟨openB_ok hb h,show 0 ≤ 9 by decide⟩
  ·
   exact ⟨zkq,show 8 ≤ 9 by decide⟩
theorem kcheckB_ok {L : Low} {l : List Ky} {bs : List Nat} {at_ : Int} (hb : Byt bs) : (kcheckB L l bs at_).1.ok ∧ (kcheckB L l bs at_).2 ≤ 9:=by
 cases h : openB bs with
 | none => rw [zhi h]; exact ⟨zkq,show 2 ≤ 9 by decide⟩
 | some v =>
  obtain ⟨t,r,s⟩:=v
  cases hf : findK l t.k at_ with
  | none => rw [kcheckB_no h hf]; exact ⟨zkq,show 4 ≤ 9 by decide⟩
  | some k => rw [kcheckB_yes h hf]; exact checkB_ok hb
theorem eqC11 (w : World) : (binOp .eql 35 (.iface 39 (.int .i64 1)) (.iface 39 (.int .i64 1))).run Tryz.prog w = .ok (.bool true) w:=by kernel_rfl
theorem kchecks_walk {L : Low} {I : World → Prop} (R : LowR L) (C : Code10 L I) (v : Value) (l : List Ky) (A : Option Addr) (m c' : Nat) (bs : List Nat) (at_ : Int) (hm : m = bs.length) (hmc : m ≤ c') (w : World) (hI : I w) (hF : Ks w v l) (hT : TopK l) (hS : Bs w A bs) :
  Calls Tryz.prog 5 #[v,.slice A m c',.int .i64 at_] w fun e w' => e = .returned (.bool true) ∧ Ext w w':=by
 have HF:=veil (And.intro hF hT)
 have HS:=veil (And.intro hm (And.intro hmc (And.intro hI hS)))
 have HC:=veil C
 have HR:=veil R
 obtain ⟨AL,c,rfl,hc,_⟩:=hF
 obtain ⟨n,hn⟩ : ∃ n,n = l.length:=⟨_,rfl⟩
 rw [← hn] at hc HF ⊢
 have HN:=veil hn
 have KU:=veil (up10 HC.out w)
 clear hT C hn hm hmc hI hS R
 go_enter Tryz.func5,Tryz.ntmps5
 go_upto_region 2 with (go_at_call 7; refine KU.out.mono ?_; rintro e w1 ⟨rfl,hE1⟩)
 have H1:=veil hE1
 clear hE1 KU
 by_cases g0 : (60 : Int) < (n : Int)
 ·
  have hd : decide ((60 : Int) < (n : Int)) = true:=decide_eq_true g0
  go_wp2
  go_ret
  exact ⟨rfl,H1.out⟩
 ·
  have hd : decide ((60 : Int) < (n : Int)) = false:=decide_eq_false g0
  by_cases g1 : (5000 : Int) < (m : Int)
  ·
   have hd2 : decide ((5000 : Int) < (m : Int)) = true:=decide_eq_true g1
   go_wp2
   go_ret
   exact ⟨rfl,H1.out⟩
  ·
   have hd2 : decide ((5000 : Int) < (m : Int)) = false:=decide_eq_false g1
   have hle : l.length ≤ 1000:=by have:=HN.out; omega
   have KM:=veil (fun W (hW : Ext w W) => rmay10_calls _ l W (HF.out.1.ext hW) HF.out.2 (by omega))
   have KF:=veil (fun W (hW : Ext w W) => HC.out.check _ l at_ A m c' bs W (HC.out.keep _ _ HS.out.2.2.1 hW) (HF.out.1.ext hW) HF.out.2 hle HS.out.1 HS.out.2.1 (by omega) (HS.out.2.2.2.ext hW))
   have KG:=veil (fun W (hW : Ext w W) => rcheck10_calls HR.out _ l at_ A m c' bs HS.out.1 HS.out.2.1 (by omega) W (HS.out.2.2.2.ext hW) (HF.out.1.ext hW) HF.out.2 (by omega))
   clear hle g0
   obtain ⟨u,hu⟩ : ∃ u,u = (checkC L l bs at_).1:=⟨_,rfl⟩
   obtain ⟨k,hk⟩ : ∃ k,k = (checkC L l bs at_).2:=⟨_,rfl⟩
   rw [← hu,← hk] at KF
   unfold tkV at KF KG
   have HU:=veil (And.intro hu hk)
   clear hu hk
   go_upto_region 5 with (first
    | (go_at_call 17; refine (KF.out _ H1.out).mono ?_; rintro e w3 ⟨rfl,hE3⟩)
    | ((with_reducible refine zap ?_); refine wpList_store_row rfl 47 _ _ rfl w3.heap.size (tkC u) rfl rfl 47 _ (zar w3 _) (iTk u) rfl (zbw u) ?_; rw [World.setRow_alloc_new]))
   have hE4:=hE3.trans (Ext.alloc w3 (.cells (tkC u) 47))
   have h8:=zar w3 (.cells (tkC u) 47)
   generalize w3.alloc (.cells (tkC u) 47) = w4 at *
   generalize w3.heap.size = g8 at *
   have H4:=veil (And.intro (H1.out.trans hE4) h8)
   clear hE3 hE4 h8 H1 KF
   go_upto_region 6 with (go_at_call 8; refine (KM.out _ H4.out.1).mono ?_; rintro e w5 ⟨rfl,hE5⟩)
   have H5:=veil (And.intro (H4.out.1.trans hE5) (hE5.block H4.out.2))
   clear hE5 H4 KM
   cases hmay : mayK l with
   | false =>
    have hcc : checkC L l bs at_ = (⟨0,0,0,0,0⟩,1):=by unfold checkC; rw [hmay]; rfl
    have h1:=HU.out.1
    have h2:=HU.out.2
    rw [hcc] at h1 h2
    subst h1 h2
    clear hcc hmay HU KG
    have kc:=eqC11
    have ke : ∀ W,(binOp .eql 47 (.agg (tkC ⟨0,0,0,0,0⟩)) (.agg #[.int .i64 0,.int .i64 0,.int .i64 0,.int .i64 0,.int .i64 0])).run Tryz.prog W = .ok (.bool true) W:=fun W => eqT9 zkq W
    have kg : ∀ op x y W,(eqGuard op 47 x y (.agg (tkC ⟨0,0,0,0,0⟩)) (.agg #[.int .i64 0,.int .i64 0,.int .i64 0,.int .i64 0,.int .i64 0])).run Tryz.prog W = .ok () W:=fun op x y W => gT9 ⟨0,0,0,0,0⟩ ⟨0,0,0,0,0⟩ op x y W
    rw [show errV 1 = .iface 39 (.int .i64 1) from rfl]
    go_wp2_with ((with_reducible refine zas 41 ?_); refine wpl_rowG rfl 47 _ rfl g8 rfl 47 (tkC ⟨0,0,0,0,0⟩) (0,0) _ H5.out.2 Tryz.underlying47 rfl (iTk _) ?_)
    go_ret
    exact ⟨rfl,H5.out.1⟩
   | true =>
    have hcc : checkC L l bs at_ = kcheckB L l bs at_:=by unfold checkC; rw [if_pos hmay]
    have h1:=HU.out.1
    have h2:=HU.out.2
    rw [hcc] at h1 h2
    rw [← h1,← h2] at KG
    have hok : u.ok ∧ k ≤ 9:=by rw [h1,h2]; exact kcheckB_ok HS.out.2.2.2.1
    have KD:=veil (fun W => code0 k hok.2 W)
    have ke : ∀ W,(binOp .eql 47 (.agg (tkC u)) (.agg (tkC u))).run Tryz.prog W = .ok (.bool true) W:=fun W => eqT9 hok.1 W
    have kg : ∀ op x y W,(eqGuard op 47 x y (.agg (tkC u)) (.agg (tkC u))).run Tryz.prog W = .ok () W:=fun op x y W => gT9 u u op x y W
    clear hcc hmay HU h1 h2 hok
    go_upto_region 9 with (first
     | (go_at_call 18; refine (KG.out _ H5.out.1).mono ?_; rintro e w6 ⟨rfl,hE6⟩)
     | ((with_reducible refine zap ?_); refine wpList_store_row rfl 47 _ _ rfl w6.heap.size (tkC u) rfl rfl 47 _ (zar w6 _) (iTk u) rfl (zbw u) ?_; rw [World.setRow_alloc_new]))
    have hE7:=hE6.trans (Ext.alloc w6 (.cells (tkC u) 47))
    have h11:=zar w6 (.cells (tkC u) 47)
    generalize w6.alloc (.cells (tkC u) 47) = w7 at *
    generalize w6.heap.size = g11 at *
    have H7:=veil (And.intro (H5.out.1.trans hE7) (And.intro (hE7.block H5.out.2) h11))
    clear hE6 hE7 h11 H5 KG
    go_wp2_with (first
     | (go_at_call 19; refine (KD.out _).mono ?_; rintro e w8 ⟨rfl,hE8⟩)
     | ((with_reducible refine zas 60 ?_); refine wpl_rowG rfl 47 _ rfl g8 rfl 47 (tkC u) (0,0) _ (hE8.block H7.out.2.1) Tryz.underlying47 rfl (iTk u) ?_)
     | ((with_reducible refine zas 61 ?_); refine wpl_rowG rfl 47 _ rfl g11 rfl 47 (tkC u) (0,0) _ (hE8.block H7.out.2.2) Tryz.underlying47 rfl (iTk u) ?_))
    go_ret
    exact ⟨rfl,H7.out.1.trans hE8⟩
end Go.Proofs.YthlbemnbmbmjhaaGreatDoor
