/-
  Of K6 K7 K8 K9 KA KB.
-/
import Derived.Test.YtedehdbajiaaiaaGreatDoorZO6
set_option maxRecDepth 1000000
set_option maxHeartbeats 20000000
namespace Go.Proofs.YtedehdbajiaaiaaGreatDoor
open Go.RowKit
open Go.Value renaming int → vI
open Go.IntKind renaming u64 → vU
open Go.Act renaming put → aP
open List renaming setIfInBounds_toArray → lA, set_cons_zero → lZ, set_cons_succ → lS
theorem zeb {P : Program} {fn : Func} {q p s : Tmp} {ty : TypeId} (h : fn.results = #[.tmp q,.cell p ty,.tmp s]) (tmps : Array Value) (w : World) (g : Nat) (t : TypeId) (cs : Array Value) (fr : Nat × Nat) (d : TypeDesc)
  (hp : tmps.getD p undef = .pointer (some ⟨g,0,none⟩)) (hg : w.heap[g]? = some (.cells cs t fr)) (hu : P.underlying ty = some d) (hd : d.isRow = true) (hi : (P.info? ty).map (·.size) = some cs.size) :
  (results fn tmps).run P w = .ok (.tuple #[tmps.getD q undef,.agg cs,tmps.getD s undef]) w:=by
 have hp' : tmps[p]?.getD undef = .pointer (some ⟨g,0,none⟩):=by simpa using hp
 have hl : (loadVar ty ⟨g,0,none⟩).run P w = .ok (.agg cs) w:=run_loadVar_mid w g 0 ty cs.toList d (fun j v hv => by rw [cell_of_row w g (0 + j) cs t fr hg,Nat.zero_add]; simpa using hv) hu hd (by simpa using hi)
 simp [results,h,hp',asAddr,hl]
def Z8 : Array Value:=#[vI vU 0,vI vU 0,vI vU 0,vI vU 0,vI vU 0,vI vU 0,vI vU 0,vI vU 0]
theorem z8_gc : Z8 = gc 0 0:=by
 obtain ⟨h0,h1,h2,h3⟩:=wd_z
 unfold gc Z8
 rw [h0,h1,h2,h3]
theorem iZ8 : (Tryz.prog.info? 39).map (·.size) = some Z8.size:=by kernel_rfl
theorem zfi : Z8.all (·.oneCell') = true:=by simp [Z8,Value.oneCell']
theorem off_z8 {w : World} {A : Option Addr} {bs : List Nat} {g : Nat} {fr : Nat × Nat} (h : Bs w A bs) (hg : w.heap[g]? = some (.cells Z8 39 fr)) : Off A bs (some g):=by
 by_cases h0 : bs.length = 0
 ·
  exact .inl h0
 ·
  refine .inr fun b o e e2 => ?_
  obtain ⟨b',o',e',_,hc⟩:=h.cell (j:=0) (by omega)
  rw [e] at e'
  injection e' with e'
  injection e' with e3 e4
  have e5 : g = b:=by injection e2
  subst e3 e4 e5
  rw [cell_of_row w g _ _ _ _ hg] at hc
  unfold Z8 at hc
  simp only [Nat.add_zero] at hc
  match o,hc with
  | 0,hc => simp at hc
  | 1,hc => simp at hc
  | 2,hc => simp at hc
  | 3,hc => simp at hc
  | 4,hc => simp at hc
  | 5,hc => simp at hc
  | 6,hc => simp at hc
  | 7,hc => simp at hc
  | n + 8,hc => simp at hc
def PartsA (w' : World) (bs : List Nat) (x y : Value) (G : Array Value) : Prop :=
 (partsB bs = none ∧ x = .slice none 0 0 ∧ G = gc 0 0 ∧ y = .bool false) ∨
 (∃ body r s,partsB bs = some (body,r,s) ∧ (∃ A c,x = .slice A body.length c ∧ body.length ≤ c ∧ Bs w' A body) ∧ G = gc r s ∧ y = .bool true)
theorem partsB_get {bs : List Nat} {fs : List Fd} (h : getFs bs = some fs) : partsB bs = if twoOk fs then some (bsF fs 0,sigR (bsF fs 1),sigS (bsF fs 1)) else none:=by
 unfold partsB
 rw [h]
theorem zbt {P : Program} {o : Oper} {a : Act} {ty : TypeId} {x : Operand} {g t : Nat} {cs : Array Value} {fr : Nat × Nat} {d : TypeDesc} {W : World} (ho : o.op = .load ty x) (hx : a.eval x = .pointer (some ⟨g,0,none⟩)) (hb : W.heap[g]? = some (.cells cs t fr))
  (hu : P.underlying ty = some d) (hd : d.isRow = true) (hi : (P.info? ty).map (·.size) = some cs.size) : (execOp a.eval o).run P W = .ok (.value (.agg cs)) W:=by
 have hl : (loadVar ty ⟨g,0,none⟩).run P W = .ok (.agg cs) W:=run_loadVar_mid W g 0 ty cs.toList d (fun j v hv => by rw [cell_of_row W g (0 + j) cs t fr hb,Nat.zero_add]; simpa using hv) hu hd (by simpa using hi)
 unfold execOp
 simp only [ho,hx,Instr.loadAt,Instr.sureAddr,Sem.run_bind,Sem.run_pure,Result.andThen_ok,hl]
theorem run_build_v {P : Program} {o : Oper} {a : Act} {ty : TypeId} {parts : List (Nat × Operand)} {vs : List (Nat × Value)} {v : Value} {W : World} (ho : o.op = .build ty parts.toArray) (hx : parts.map (fun p => (p.1,a.eval p.2)) = vs)
  (hb : (Instr.build ty vs.toArray).run P W = .ok v W) : (execOp a.eval o).run P W = .ok (.value v) W:=by
 unfold execOp
 simp only [ho,List.map_toArray]
 rw [show (parts.map fun x => match x with | (i,x) => (i,a.eval x)) = vs from hx]
 simp only [Sem.run_bind,hb,Result.andThen_ok,Sem.run_pure]
theorem sched_store {P : Program} {Q : Exit → Act → World → Prop} {l : List Oper} {n k : Nat} {r : Sched} {a : Act} {w : World} {ty t : TypeId} {x y : Operand} {g : Nat} {cells old : Array Value} (o : Oper) (ho : l[k]? = some o) (hg : o.guard = none) (hop : o.op = .store ty x y) (hd : o.dst = none) (hkn : ¬ k < n)
  (hx : a.eval x = ptrTo g) (hy : a.eval y = .agg cells) (hb : w.heap[g]? = some (.cells old t (0,0))) (hi : (P.info? ty).map (·.size) = some cells.size) (hold : old.size = cells.size) (h1 : cells.all (·.oneCell') = true)
  (h : ∀ W,But g w W → W.heap[g]? = some (.cells cells t (0,0)) → wpSched P l Q n r a W) : wpSched P l Q n ((false,[k]) :: r) a w:=by
 refine zem o ho hg fun W hW => wp_store_row ty x y hop g cells hx hy t old (hW.block hb) hi hold h1 ⟨fun h => absurd h hkn,?_⟩
 rw [hd]
 exact h _ (zet (ziu hW) cells) (setRow_heap W g old cells t (0,0) (hW.block hb))
theorem Up.block {w : World} {D : World → Prop} (h : Up w D) {g : Nat} {o : Obj} (hb : w.heap[g]? = some o) (x : Gw D) : x.val.heap[g]? = some o:=(h.grown _ x.property).block hb
theorem run_slice_lv {P : Program} {o : Oper} {a : Act} {t : TypeId} {x z : Operand} {v v' vz : Value} {W : World} (ho : o.op = .slice t x (some z) none none) (hx : a.eval x = v) (hz : a.eval z = vz)
  (h : (Instr.sliceAt t v (some vz) none none).run P W = .ok v' W) : (execOp a.eval o).run P W = .ok (.value v') W:=by
 unfold execOp
 simp only [ho,hx,hz,Option.map_some,Option.map_none,Sem.run_bind,h,Result.andThen_ok,Sem.run_pure]
theorem ziw {L : Low} (R : LowR L) (A : Option Addr) (m c : Nat) (bs : List Nat) (hm : m = bs.length) (hmc : m ≤ c) (hle : m ≤ 100000000) (w : World) (hS : Bs w A bs) :
  Calls Tryz.prog 48 #[.slice A m c] w fun e w' => ∃ x G y,e = .returned (.tuple #[x,.agg G,y]) ∧ Ext w w' ∧ PartsA w' bs x y G:=by
 have hzz : (w.alloc (.cells #[vI vU 0,vI vU 0,vI vU 0,vI vU 0,vI vU 0,vI vU 0,vI vU 0,vI vU 0] 39)).heap[w.heap.size]? = some (.cells #[vI vU 0,vI vU 0,vI vU 0,vI vU 0,vI vU 0,vI vU 0,vI vU 0,vI vU 0] 39 (0,0)):=zaw w _
 have hE0:=Ext.alloc w (.cells #[vI vU 0,vI vU 0,vI vU 0,vI vU 0,vI vU 0,vI vU 0,vI vU 0,vI vU 0] 39)
 have KG:=veil (fun W hW => rget8_any A m c bs hm hmc hle W hW)
 have HW:=veil (And.intro hzz (And.intro hE0 (hS.ext hE0)))
 clear hzz hE0 hm hmc hle hS
 go_enter Tryz.func48,Tryz.ntmps48
 go_upto_region 1 with (fail)
 generalize w.alloc (.cells #[vI vU 0,vI vU 0,vI vU 0,vI vU 0,vI vU 0,vI vU 0,vI vU 0,vI vU 0] 39) = w0 at *
 go_upto_region 2 with (go_at_call 84; refine (KG.out w0 HW.out.2.2).mono ?_; rintro e w1 ⟨x,y,rfl,hE1,hA⟩)
 have H1:=veil (And.intro (hE1.block HW.out.1) (HW.out.2.1.trans hE1))
 clear hE1
 rcases hA with ⟨hn,rfl,rfl⟩ | ⟨fs,hs,hF,rfl⟩
 ·
  have hr : partsB bs = none:=by
   unfold partsB
   rw [hn]
  clear KG
  go_wp2_with (first
   | ((with_reducible refine zat ?_); refine wpList_store_row rfl 39 _ _ rfl w.heap.size Z8 rfl rfl 39 _ H1.out.1 iZ8 rfl zfi ?_))
  refine bodyPost_ret (zeb rfl _ _ w.heap.size 39 Z8 (0,0) _ rfl (setRow_heap w1 w.heap.size _ Z8 39 (0,0) H1.out.1) Tryz.underlying39 rfl iZ8) rfl ⟨_,_,_,rfl,zbd H1.out.2 (Nat.le_refl _) _,.inl ⟨hr,rfl,z8_gc,rfl⟩⟩
 ·
  have hpb:=partsB_get hs
  obtain ⟨hB,AL,cl,rfl,hcl,hx⟩:=hF
  obtain ⟨q,hq⟩ : ∃ q,q = fs.length:=⟨_,rfl⟩
  rw [← hq] at hx hcl ⊢
  have HX:=veil (And.intro hx (And.intro hq hpb))
  clear KG hx hq hpb hs hB hcl
  by_cases g0 : q = 2
  ·
   have hqI : decide ((q : Int) = 2) = true:=by simp; omega
   have HQ:=veil g0
   obtain ⟨b,o,hAL,hb,hcl⟩:=HX.out.1.resolve_left (by omega)
   obtain ⟨h1,A0,k0,h2,h3,h4⟩:=hcl 0 (by omega)
   obtain ⟨j1,A1,k1,j2,j3,j4⟩:=hcl 1 (by omega)
   have c0 : w1.cell? ⟨b,o,none⟩ = some (.int .i64 (tgF fs 0)):=h1
   have c1 : w1.cell? ⟨b,o + 1,none⟩ = some (.slice A0 (bsF fs 0).length k0):=h2
   have d0 : w1.cell? ⟨b,o + 2,none⟩ = some (.int .i64 (tgF fs 1)):=j1
   have d1 : w1.cell? ⟨b,o + 3,none⟩ = some (.slice A1 (bsF fs 1).length k1):=j2
   obtain ⟨T0,hT0⟩ : ∃ T,T = tgF fs 0:=⟨_,rfl⟩
   obtain ⟨T1,hT1⟩ : ∃ T,T = tgF fs 1:=⟨_,rfl⟩
   obtain ⟨L0,hL0⟩ : ∃ L,L = (bsF fs 0).length:=⟨_,rfl⟩
   obtain ⟨L1,hL1⟩ : ∃ L,L = (bsF fs 1).length:=⟨_,rfl⟩
   rw [← hT0] at c0
   rw [← hT1] at d0
   rw [← hL0] at c1
   rw [← hL1] at d1
   have HT:=veil (And.intro hT0 (And.intro hT1 (And.intro hL0 hL1)))
   have HB:=veil (And.intro h3 (And.intro h4 (And.intro j3 j4)))
   have hno : ¬ (T0 = 1 ∧ T1 = 2 ∧ L1 = 64) → partsB bs = none:=fun h => by
    rw [HX.out.2.2,if_neg]
    intro hk
    refine h ⟨?_,?_,?_⟩
    ·
     rw [HT.out.1]; exact hk.2.1
    ·
     rw [HT.out.2.1]; exact hk.2.2.1
    ·
     rw [HT.out.2.2.2]; exact hk.2.2.2
   have HNO:=veil hno
   subst hAL
   subst g0
   clear h1 h2 h3 h4 j1 j2 j3 j4 hT0 hT1 hL0 hL1 hcl hno hqI
   by_cases g1 : T0 = 1
   ·
    have f1 : (T0 == 1) = true:=by simp [g1]
    by_cases g2 : T1 = 2
    ·
     have f2 : (T1 == 2) = true:=by simp [g2]
     by_cases g3 : L1 = 64
     ·
      have HG:=veil (And.intro g1 (And.intro g2 g3))
      subst g1 g2 g3
      have hk1 : 64 ≤ k1:=by have h:=HB.out.2.2.1; have h2:=HT.out.2.2.2; omega
      obtain ⟨D1,hD1⟩ : ∃ D,D = bsF fs 1:=⟨_,rfl⟩
      have HD:=veil (And.intro hD1 (And.intro (show D1.length = 64 from by rw [hD1]; exact HT.out.2.2.2.symm) (show Bs w1 A1 D1 from by rw [hD1]; exact HB.out.2.2.2)))
      have htd : (D1.drop 32).take 32 = D1.drop 32:=List.take_of_length_le (by rw [List.length_drop,HD.out.2.1]; decide)
      have HTD:=veil htd
      clear hD1 htd f1 f2
      have KR:=veil (fun W (hW : Bs W A1 D1) => R.num A1 32 k1 (D1.take 32) W (by rw [List.length_take,HD.out.2.1]; rfl) rfl (bs_take hW 32))
      have KS:=veil (fun W (hW : Bs W A1 D1) => by
       have h:=R.num (cutA A1 32 k1) 32 (k1 - 32) ((D1.drop 32).take 32) W (by rw [List.length_take,List.length_drop,HD.out.2.1]; rfl) rfl (hW.cut 32 (n:=32) (c:=k1) (by rw [HD.out.2.1]; exact Nat.le_refl _) (by rw [HD.out.2.1]; exact hk1))
       rw [HTD.out] at h
       exact h)
      have hk32 : 32 ≤ k1:=by omega
      go_upto_region 5 with (first
       | ((with_reducible refine zau 48 ?_); refine wpl_val (.slice A1 32 k1) rfl (run_slice_hv rfl rfl rfl (cut_to_b A1 _ k1 32 hk32 _ rfl)) ?_)
       | (go_at_call 68; refine (KR.out _ HD.out.2.2).mono ?_; rintro e w2 ⟨rfl,hE2⟩)
       | ((with_reducible refine zat ?_); refine wpList_store_row rfl 26 _ _ rfl w2.heap.size (nc (valB (D1.take 32))) rfl rfl 26 _ (zaw w2 _) (iN _) rfl (zbp _) ?_; rw [World.setRow_alloc_new]))
      obtain ⟨g7,hg7⟩ : ∃ g,g = w2.heap.size:=⟨_,rfl⟩
      have hW3 : Ext w1 (w2.alloc (.cells (nc (valB (D1.take 32))) 26)):=hE2.trans (Ext.alloc _ _)
      have hb7 : (w2.alloc (.cells (nc (valB (D1.take 32))) 26)).heap[g7]? = some (.cells (nc (valB (D1.take 32))) 26 (0,0)):=by rw [hg7]; exact zaw _ _
      rw [← hg7]
      generalize w2.alloc (.cells (nc (valB (D1.take 32))) 26) = w3 at *
      have c0':=(hW3.cell hb).trans c0
      have c1':=(hW3.cell hb).trans c1
      have d0':=(hW3.cell hb).trans d0
      have d1':=(hW3.cell hb).trans d1
      have hb3:=Nat.lt_of_lt_of_le hb hW3.size
      have HB7:=veil (And.intro hb7 hW3)
      clear c0 c1 d0 d1 hb hg7 hb7 hE2 KR
      go_upto_region 6 with (first
       | ((with_reducible refine zau 54 ?_); refine wpl_val (.slice (cutA A1 32 k1) 32 (k1 - 32)) rfl (run_slice_lv rfl rfl rfl (cut_from A1 64 k1 32 (by decide) _)) ?_)
       | (go_at_call 68; refine (KS.out _ (HD.out.2.2.ext HB7.out.2)).mono ?_; rintro e w4 ⟨rfl,hE4⟩)
       | ((with_reducible refine zat ?_); refine wpList_store_row rfl 26 _ _ rfl w4.heap.size (nc (valB (D1.drop 32))) rfl rfl 26 _ (zaw w4 _) (iN _) rfl (zbp _) ?_; rw [World.setRow_alloc_new]))
      obtain ⟨g8,hg8⟩ : ∃ g,g = w4.heap.size:=⟨_,rfl⟩
      have hW5 : Ext w3 (w4.alloc (.cells (nc (valB (D1.drop 32))) 26)):=hE4.trans (Ext.alloc _ _)
      have hb8 : (w4.alloc (.cells (nc (valB (D1.drop 32))) 26)).heap[g8]? = some (.cells (nc (valB (D1.drop 32))) 26 (0,0)):=by rw [hg8]; exact zaw _ _
      rw [← hg8]
      generalize w4.alloc (.cells (nc (valB (D1.drop 32))) 26) = w5 at *
      have c0:=(hW5.cell hb3).trans c0'
      have c1:=(hW5.cell hb3).trans c1'
      have hb5:=Nat.lt_of_lt_of_le hb3 hW5.size
      have H5:=veil (And.intro (hW5.block HB7.out.1) (And.intro hb8 (And.intro (hW5.block (HB7.out.2.block H1.out.1)) (And.intro (H1.out.2.trans (HB7.out.2.trans hW5)) (HB7.out.2.trans hW5)))))
      clear c0' c1' d0' d1' hb3 hg8 hb8 hE4 KS HB7 hW5 hW3
      simp only [Act.put]
      refine zfr 8 [(true,[0,1,2,3,4,5,6,7]),(false,[8]),(false,[9])] (by kernel_rfl) (by kernel_rfl) fun Q' hQ' => ?_
      refine' zdc (A:=_) _ rfl (by kernel_rfl) ?_ ?_
      rotate_left
      ·
       intro D hD hN
       have e0:=hD.cell c0
       have e1:=hD.cell c1
       simp only [pickI,consO,List.getElem?_cons_zero,List.getElem?_cons_succ]
       iterate 4 (go_big_quiet_step (fail))
       go_big_quiet_want
       refine zdm (nv (valB (D1.take 32))) (fun x => zbt rfl rfl (hD.block H5.out.1 x) Tryz.underlying26 rfl (iN _)) ?_
       simp only [aP,lA,lZ,lS]
       go_big_quiet_on
       go_big_quiet_want
       refine zdm (nv (valB (D1.drop 32))) (fun x => zbt rfl rfl (hD.block H5.out.2.1 x) Tryz.underlying26 rfl (iN _)) ?_
       simp only [aP,lA,lZ,lS]
       go_big_quiet_on
       go_big_quiet_want
       refine zdm (gv (valB (D1.take 32)) (valB (D1.drop 32))) (fun x => run_build_v (vs:=[(0,nv (valB (D1.take 32))),(1,nv (valB (D1.drop 32)))]) rfl rfl (bldG x.val _ _)) ?_
       simp only [aP,lA,lZ,lS]
       go_big_quiet_on
       go_big_quiet_step (fail)
       exact zew
      refine sched_store (cells:=gc (valB (D1.take 32)) (valB (D1.drop 32))) _ rfl rfl rfl rfl (by decide) rfl rfl H5.out.2.2.1 (iSg _ _) rfl (zcu _ _) ?_
      intro w6 hB6 hb6
      refine zha (.bool true) _ rfl rfl rfl rfl rfl ?_
      intro w7 hE7
      simp only [aP,lA,lZ,lS]
      refine zep hQ' fun w8 hE8 => ?_
      have hr : partsB bs = some (bsF fs 0,valB (D1.take 32),valB (D1.drop 32)):=by
       rw [HX.out.2.2,if_pos ⟨HX.out.2.1.symm,HT.out.1.symm,HT.out.2.1.symm,HT.out.2.2.2.symm⟩,HD.out.1]
       rfl
      have hB0 : Bs w5 A0 (bsF fs 0):=HB.out.2.1.ext H5.out.2.2.2.2
      have hE6 : Ext w w6:=Below.trans H5.out.2.2.2.1 (hB6.new (Nat.le_refl _) (Below.size H5.out.2.2.2.1))
      have hB8:=((hB0.but hB6 (off_z8 hB0 H5.out.2.2.1)).ext hE7).ext hE8
      have hF:=veil (And.intro (((hE7.trans hE8)).block hb6) (And.intro hr (And.intro hB8 (hE6.trans (hE7.trans hE8)))))
      have hL0:=HT.out.2.2.1
      have hk0:=HB.out.1
      rw [← hL0] at hk0
      clear hr hB0 hE6 hB8 hb6 hB6
      go_wp2
      refine bodyPost_ret (zeb rfl _ _ w.heap.size 39 (gc (valB (D1.take 32)) (valB (D1.drop 32))) (0,0) _ rfl hF.out.1 Tryz.underlying39 rfl (iSg _ _)) rfl ⟨_,_,_,rfl,hF.out.2.2.2,.inr ⟨_,_,_,hF.out.2.1,⟨A0,k0,by rw [← hL0]; rfl,by rw [← hL0]; exact hk0,hF.out.2.2.1⟩,rfl,rfl⟩⟩
     ·
      have hr:=HNO.out (fun h => g3 h.2.2)
      have f3 : ((L1 : Int) == 64) = false:=by simp; omega
      have f4 : ¬ ((L1 : Int) = 64):=by omega
      go_wp2_with (first
       | ((with_reducible refine zat ?_); refine wpList_store_row rfl 39 _ _ rfl w.heap.size Z8 rfl rfl 39 _ H1.out.1 iZ8 rfl zfi ?_))
      refine bodyPost_ret (zeb rfl _ _ w.heap.size 39 Z8 (0,0) _ rfl (setRow_heap w1 w.heap.size _ Z8 39 (0,0) H1.out.1) Tryz.underlying39 rfl iZ8) rfl ⟨_,_,_,rfl,zbd H1.out.2 (Nat.le_refl _) _,.inl ⟨hr,rfl,z8_gc,rfl⟩⟩
    ·
     have hr:=HNO.out (fun h => g2 h.2.1)
     have f2 : (T1 == 2) = false:=by simp [g2]
     go_wp2_with (first
      | ((with_reducible refine zat ?_); refine wpList_store_row rfl 39 _ _ rfl w.heap.size Z8 rfl rfl 39 _ H1.out.1 iZ8 rfl zfi ?_))
     refine bodyPost_ret (zeb rfl _ _ w.heap.size 39 Z8 (0,0) _ rfl (setRow_heap w1 w.heap.size _ Z8 39 (0,0) H1.out.1) Tryz.underlying39 rfl iZ8) rfl ⟨_,_,_,rfl,zbd H1.out.2 (Nat.le_refl _) _,.inl ⟨hr,rfl,z8_gc,rfl⟩⟩
   ·
    have hr:=HNO.out (fun h => g1 h.1)
    have f1 : (T0 == 1) = false:=by simp [g1]
    go_wp2_with (first
     | ((with_reducible refine zat ?_); refine wpList_store_row rfl 39 _ _ rfl w.heap.size Z8 rfl rfl 39 _ H1.out.1 iZ8 rfl zfi ?_))
    refine bodyPost_ret (zeb rfl _ _ w.heap.size 39 Z8 (0,0) _ rfl (setRow_heap w1 w.heap.size _ Z8 39 (0,0) H1.out.1) Tryz.underlying39 rfl iZ8) rfl ⟨_,_,_,rfl,zbd H1.out.2 (Nat.le_refl _) _,.inl ⟨hr,rfl,z8_gc,rfl⟩⟩
  ·
   have f0 : ((q : Int) == 2) = false:=by simp; omega
   have f1 : ¬ ((q : Int) = 2):=by omega
   have hr : partsB bs = none:=by
    rw [HX.out.2.2,if_neg]
    intro h
    exact g0 (HX.out.2.1.trans h.1)
   clear HX
   go_wp2_with (first
    | ((with_reducible refine zat ?_); refine wpList_store_row rfl 39 _ _ rfl w.heap.size Z8 rfl rfl 39 _ H1.out.1 iZ8 rfl zfi ?_))
   refine bodyPost_ret (zeb rfl _ _ w.heap.size 39 Z8 (0,0) _ rfl (setRow_heap w1 w.heap.size _ Z8 39 (0,0) H1.out.1) Tryz.underlying39 rfl iZ8) rfl ⟨_,_,_,rfl,zbd H1.out.2 (Nat.le_refl _) _,.inl ⟨hr,rfl,z8_gc,rfl⟩⟩
def TZ : Array Value:=#[.int .i64 0,.int .i64 0,.int .i64 0,.int .i64 0,.int .i64 0]
theorem iTZ : (Tryz.prog.info? 23).map (·.size) = some TZ.size:=by kernel_rfl
theorem zeh : TZ.all (·.oneCell') = true:=by simp [TZ,Value.oneCell']
theorem tz_tk : TZ = tkC ⟨0,0,0,0,0⟩:=rfl
def OpenA (bs : List Nat) (T G : Array Value) (y : Value) : Prop :=
 (openB bs = none ∧ T = tkC ⟨0,0,0,0,0⟩ ∧ G = gc 0 0 ∧ y = .bool false) ∨ (∃ t r s,openB bs = some (t,r,s) ∧ T = tkC t ∧ G = gc r s ∧ y = .bool true)
theorem zbx {P : Program} {fn : Func} {q p s : Tmp} {ty ty2 : TypeId} (h : fn.results = #[.cell q ty,.cell p ty2,.tmp s]) (tmps : Array Value) (w : World) (g g2 : Nat) (t t2 : TypeId) (cs cs2 : Array Value) (fr fr2 : Nat × Nat) (d d2 : TypeDesc)
  (hq : tmps.getD q undef = .pointer (some ⟨g,0,none⟩)) (hg : w.heap[g]? = some (.cells cs t fr)) (hu : P.underlying ty = some d) (hd : d.isRow = true) (hi : (P.info? ty).map (·.size) = some cs.size)
  (hp : tmps.getD p undef = .pointer (some ⟨g2,0,none⟩)) (hg2 : w.heap[g2]? = some (.cells cs2 t2 fr2)) (hu2 : P.underlying ty2 = some d2) (hd2 : d2.isRow = true) (hi2 : (P.info? ty2).map (·.size) = some cs2.size) :
  (results fn tmps).run P w = .ok (.tuple #[.agg cs,.agg cs2,tmps.getD s undef]) w:=by
 have hq' : tmps[q]?.getD undef = .pointer (some ⟨g,0,none⟩):=by simpa using hq
 have hp' : tmps[p]?.getD undef = .pointer (some ⟨g2,0,none⟩):=by simpa using hp
 have hl : (loadVar ty ⟨g,0,none⟩).run P w = .ok (.agg cs) w:=run_loadVar_mid w g 0 ty cs.toList d (fun j v hv => by rw [cell_of_row w g (0 + j) cs t fr hg,Nat.zero_add]; simpa using hv) hu hd (by simpa using hi)
 have hl2 : (loadVar ty2 ⟨g2,0,none⟩).run P w = .ok (.agg cs2) w:=run_loadVar_mid w g2 0 ty2 cs2.toList d2 (fun j v hv => by rw [cell_of_row w g2 (0 + j) cs2 t2 fr2 hg2,Nat.zero_add]; simpa using hv) hu2 hd2 (by simpa using hi2)
 simp [results,h,hq',hp',asAddr,hl,hl2]
theorem partsA_all {w : World} {bs : List Nat} {x y : Value} {G : Array Value} (hb : Byt bs) (h : PartsA w bs x y G) :
  ∃ r s body A c o,G = gc r s ∧ x = .slice A body.length c ∧ body.length ≤ c ∧ body.length ≤ 65535 ∧ Bs w A body ∧ y = .bool o ∧ ((partsB bs = none ∧ o = false) ∨ (partsB bs = some (body,r,s) ∧ o = true)):=by
 rcases h with ⟨h,rfl,rfl,rfl⟩ | ⟨body,r,s,h,⟨A,c,rfl,hc,hB⟩,rfl,rfl⟩
 ·
  exact ⟨0,0,[],none,0,false,rfl,rfl,Nat.le_refl _,by decide,⟨fun b hb => absurd hb (List.not_mem_nil),Or.inl rfl⟩,rfl,.inl ⟨h,rfl⟩⟩
 ·
  exact ⟨r,s,body,A,c,true,rfl,rfl,hc,(zjz hb h).2.2.1,hB,rfl,.inr ⟨h,rfl⟩⟩
theorem openB_some {bs body : List Nat} {r s : Nat} (h : partsB bs = some (body,r,s)) {l : List Int} (h2 : numbersB body 5 = some l) : openB bs = if mayT (tkOf l) = true then some (tkOf l,r,s) else none:=by
 unfold openB
 rw [h]
 show (match numbersB body 5 with | some l => _ | none => _) = _
 rw [h2]
theorem zhe {bs : List Nat} (h : partsB bs = none) : openB bs = none:=by
 unfold openB
 rw [h]
theorem openB_none2 {bs body : List Nat} {r s : Nat} (h : partsB bs = some (body,r,s)) (h2 : numbersB body 5 = none) : openB bs = none:=by
 unfold openB
 rw [h]
 show (match numbersB body 5 with | some l => _ | none => _) = _
 rw [h2]
theorem zdj {W : World} {g g' t : Nat} {cs : Array Value} (T : Array Value) (h : W.heap[g']? = some (.cells cs t (0,0))) (hg : g < g') : (W.setRow g T).heap[g']? = some (.cells cs t (0,0)):=(zca W T (by omega)).trans h
theorem zdf {w W : World} {g g' t t' : Nat} {T G T0 G0 : Array Value} (hE : Ext w W) (h : W.heap[g]? = some (.cells T0 t (0,0))) (h' : W.heap[g']? = some (.cells G0 t' (0,0))) (hg : w.heap.size ≤ g ∧ g < g') :
  Ext w ((W.setRow g T).setRow g' G) ∧ ((W.setRow g T).setRow g' G).heap[g]? = some (.cells T t (0,0)) ∧ ((W.setRow g T).setRow g' G).heap[g']? = some (.cells G t' (0,0)) :=
 ⟨zbd (zbd hE hg.1 T) (by omega) G,(zca _ G (by omega)).trans (setRow_heap W g T0 T t (0,0) h),setRow_heap _ g' G0 G t' (0,0) (zdj T h' hg.2)⟩
theorem sched_alloc {P : Program} {Q : Exit → Act → World → Prop} {l : List Oper} {n k d : Nat} {r : Sched} {a : Act} {w : World} {t : TypeId} {C : Array Value} (o : Oper) (ho : l[k]? = some o) (hg : o.guard = none) (hd : o.dst = some d)
  (hb : ∀ W,(execOp a.eval o).run P W = .ok (.value (ptrTo W.heap.size)) (W.alloc (.cells C t)))
  (h : ∀ g W,w.heap.size ≤ g → W.heap[g]? = some (.cells C t (0,0)) → Ext w W → wpSched P l Q n r (a.put (some d) (ptrTo g)) W) : wpSched P l Q n ((false,[k]) :: r) a w:=by
 refine zem o ho hg fun W hW => ?_
 unfold Oper.wp
 rw [hb W]
 show (k < n → Ext W _) ∧ _
 rw [hd]
 exact ⟨fun _ => Ext.alloc W _,h _ _ (Below.size hW) (zaw W _) (hW.trans (Ext.alloc W _))⟩
/-! ### a region that draws its order,order by order -/
section
variable {P : Program} {ops : Array Oper} {Q : Exit → Act → World → Prop} {f j d : Nat} {listed : Array Bool} {a : Act} {w : World}
theorem wp_tree {id : Nat} {l : List Oper} (hm : P.follows .mixedOrders = true) (h : ∀ Q',Hid (Q' = NoPanic Q) → wpG P .any l.toArray Q' 0 l.length (Array.replicate l.length false) a w) : (Code.region id l.toArray true).wp P Q a w:=by
 refine wp_region_noPanic ?_
 refine wp_region_any hm (zgw (n:=0) _ _ _ _ ?_)
 have:=wpG.ext (h _ (veil rfl)) (Ext.drew w)
 simpa using this
abbrev GOne (P : Program) (ops : Array Oper) (Q : Exit → Act → World → Prop) (f : Nat) (listed : Array Bool) (j : Nat) (a : Act) (w : World) : Prop :=
 ∀ W,Ext w W → wpOp P ops Q j (fun a' W' => (j < 0 → Ext W W') ∧ wpG P .any ops Q 0 f (listed.setIfInBounds j true) a' W') a W
theorem G_one (hr : Region.ready .any ops listed = [j]) (h : GOne P ops Q f listed j a w) : wpG P .any ops Q 0 (f + 1) listed a w :=
 ⟨fun h0 => (by rw [hr] at h0; cases h0),fun i hi W hW => by
  rw [hr] at hi
  have e : i = j:=by simpa using hi
  subst e
  exact h W hW⟩
theorem G_two {i : Nat} (hr : Region.ready .any ops listed = [i,j]) (h : GOne P ops Q f listed i a w) (h2 : GOne P ops Q f listed j a w) : wpG P .any ops Q 0 (f + 1) listed a w :=
 ⟨fun h0 => (by rw [hr] at h0; cases h0),fun k hk W hW => by
  rw [hr] at hk
  have e : k = i ∨ k = j:=by simpa using hk
  rcases e with e | e <;> subst e
  ·
   exact h W hW
  ·
   exact h2 W hW⟩
theorem G_end {R : Exit → Act → World → Prop} (hr : Region.ready .any ops listed = []) (hQ : Hid (Q = NoPanic R)) (h : ∀ W,Ext w W → R .normal a W) : wpG P .any ops Q 0 0 listed a w :=
 ⟨hr,fun W hW => by rw [hQ.out]; exact h W hW⟩
theorem G_val {v : Value} (o : Oper) (ho : ops[j]? = some o) (hg : o.guard = none) (hd : o.dst = some d) (hm : ∀ W,Ext w W → (execOp a.eval o).run P W = .ok (.value v) W)
  (h : wpG P .any ops Q 0 f (listed.setIfInBounds j true) (a.put (some d) v) w) : GOne P ops Q f listed j a w:=fun W hW => zbj ho hg (by
 unfold Oper.wp
 rw [hm W hW,Oper.upon_value,hd]
 exact ⟨fun h => absurd h (Nat.not_lt_zero _),h.ext hW⟩)
theorem zdx {ty t : TypeId} {x y : Operand} {g : Nat} {cells old : Array Value} (o : Oper) (ho : ops[j]? = some o) (hgd : o.guard = none) (hop : o.op = .store ty x y) (hd : o.dst = none)
  (hx : a.eval x = ptrTo g) (hy : a.eval y = .agg cells) (hb : w.heap[g]? = some (.cells old t (0,0))) (hi : (P.info? ty).map (·.size) = some cells.size) (hold : old.size = cells.size) (h1 : cells.all (·.oneCell') = true)
  (h : ∀ W,But g w W → W.heap[g]? = some (.cells cells t (0,0)) → wpG P .any ops Q 0 f (listed.setIfInBounds j true) a W) : GOne P ops Q f listed j a w:=fun W hW =>
 zbj ho hgd (wp_store_row ty x y hop g cells hx hy t old (hW.block hb) hi hold h1 ⟨fun h => absurd h (Nat.not_lt_zero _),by
  rw [hd]
  exact h _ (zet (ziu hW) cells) (setRow_heap W g old cells t (0,0) (hW.block hb))⟩)
theorem zgn {w w7 W8 W9 W10 : World} {g2 g3 t t' : Nat} {T G : Array Value} (hE : Ext w w7) (hg : w.heap.size ≤ g2 ∧ g2 < g3) (hB8 : But g2 w7 W8) (h8 : W8.heap[g2]? = some (.cells T t (0,0))) (hB9 : But g3 W8 W9) (h9 : W9.heap[g3]? = some (.cells G t' (0,0))) (hE10 : Ext W9 W10) :
  Ext w W10 ∧ W10.heap[g2]? = some (.cells T t (0,0)) ∧ W10.heap[g3]? = some (.cells G t' (0,0)):=by
 have e8 : Ext w W8:=Below.trans hE (hB8.new hg.1 (Below.size hE))
 have e9 : Ext w W9:=Below.trans e8 (hB9.new (by omega) (Below.size e8))
 exact ⟨e9.trans hE10,hE10.block ((hB9.block g2 (Array.getElem?_eq_some_iff.mp h8).1 (fun e => by injection e with e; omega)).trans h8),hE10.block h9⟩
theorem zgj {w W : World} {g k : Nat} {o : Obj} (hB : But g w W) (h : w.heap[k]? = some o) (hne : k ≠ g) : W.heap[k]? = some o:=(hB.block k (Array.getElem?_eq_some_iff.mp h).1 (fun e => hne (by injection e))).trans h
end
theorem zkc {L : Low} (R : LowR L) (A : Option Addr) (m c : Nat) (bs : List Nat) (hm : m = bs.length) (hmc : m ≤ c) (hle : m ≤ 100000000) (w : World) (hS : Bs w A bs) :
  Calls Tryz.prog 17 #[.slice A m c] w fun e w' => ∃ T G y,e = .returned (.tuple #[.agg T,.agg G,y]) ∧ Ext w w' ∧ OpenA bs T G y:=by
 have KP:=veil (fun W => ziw R A m c bs hm hmc hle W)
 have HB:=veil hS
 clear hm hmc hle hS
 go_enter Tryz.func17,Tryz.ntmps17
 go_upto_region 1 with (fail)
 obtain ⟨g2,hg2⟩ : ∃ g,g = w.heap.size:=⟨_,rfl⟩
 obtain ⟨g3,hg3⟩ : ∃ g,g = w.heap.size + 1:=⟨_,rfl⟩
 obtain ⟨w0,hw0⟩ : ∃ W,W = (w.alloc (.cells TZ 23)).alloc (.cells Z8 39):=⟨_,rfl⟩
 have hE0 : Ext w w0:=by rw [hw0]; exact (Ext.alloc _ _).trans (Ext.alloc _ _)
 have h2 : w0.heap[g2]? = some (.cells TZ 23 (0,0)):=by rw [hw0,hg2]; exact (Ext.alloc _ _).block (zaw w _)
 have h3 : w0.heap[g3]? = some (.cells Z8 39 (0,0)):=by
  have h:=zaw (w.alloc (.cells TZ 23)) (.cells Z8 39)
  rw [World.size_alloc] at h
  rw [hw0,hg3]
  exact h
 have h23 : w.heap.size ≤ g2 ∧ g2 < g3:=by
  rw [hg2,hg3]
  omega
 have H0:=veil (And.intro hE0 (And.intro h2 (And.intro h3 (And.intro h23 (HB.out.ext hE0)))))
 unfold TZ at hw0
 unfold Z8 at hw0
 rw [← hw0,← hg3,← hg2]
 clear hw0 hg3 hg2 hE0 h2 h3 h23
 go_upto_region 2 with (first
  | (go_at_call 48; refine (KP.out w0 H0.out.2.2.2.2).mono ?_; rintro e w1 ⟨x,G,y,rfl,hE1,hA⟩; obtain ⟨r,s,body,A1,c1,o,rfl,rfl,hc1,hl1,hB1,rfl,hY⟩:=partsA_all HB.out.1 hA)
  | ((with_reducible refine zat ?_); refine wpList_store_row rfl 39 _ _ rfl w1.heap.size (gc r s) rfl rfl 39 _ (zaw w1 _) (iSg r s) rfl (zcu r s) ?_; rw [World.setRow_alloc_new]))
 have hE2 : Ext w0 (w1.alloc (.cells (gc r s) 39)):=hE1.trans (Ext.alloc _ _)
 have hB2:=hB1.ext (Ext.alloc w1 (.cells (gc r s) 39))
 obtain ⟨g6,hg6⟩ : ∃ g,g = w1.heap.size:=⟨_,rfl⟩
 have h6 : (w1.alloc (.cells (gc r s) 39)).heap[g6]? = some (.cells (gc r s) 39 (0,0)):=by rw [hg6]; exact zaw _ _
 have h36 : g3 < g6:=by
  have h:=(Array.getElem?_eq_some_iff.mp (hE1.block H0.out.2.2.1)).1
  omega
 rw [← hg6]
 generalize w1.alloc (.cells (gc r s) 39) = w2 at *
 have H2:=veil (And.intro (H0.out.1.trans hE2) (And.intro (hE2.block H0.out.2.1) (And.intro (hE2.block H0.out.2.2.1) (And.intro h6 (And.intro H0.out.2.2.2.1.1 (And.intro H0.out.2.2.2.1.2 h36))))))
 have KN : Hid (Calls Tryz.prog 49 #[.slice A1 body.length c1,.int .i64 5] w2 fun e w' => ∃ x y,e = .returned (.tuple #[x,y]) ∧ Ext w2 w' ∧ NumA w' body 5 x y):=veil (rnums8_calls A1 _ c1 body 5 rfl hc1 (by omega) (by decide) w2 hB2)
 have HY:=veil hY
 have HBB:=veil hB2.1
 clear hA hY hE1 hE2 hB1 hB2 hg6 h6 h36 hc1 hl1 H0 KP
 go_upto_region 3 with (go_at_call 49; refine KN.out.mono ?_; rintro e w3 ⟨x,y,rfl,hE3,hA⟩)
 have H3:=veil (And.intro (H2.out.1.trans hE3) (And.intro (hE3.block H2.out.2.1) (And.intro (hE3.block H2.out.2.2.1) (And.intro (hE3.block H2.out.2.2.2.1) H2.out.2.2.2.2))))
 clear hE3 H2 KN
 rcases HY.out with ⟨hp,rfl⟩ | ⟨hp,rfl⟩
 ·
  have hr:=zhe hp
  clear hA HY hp
  go_wp2_with (first
   | ((with_reducible refine zat ?_); refine wpList_store_row rfl 23 _ _ rfl g2 TZ rfl rfl 23 _ H3.out.2.1 iTZ rfl zeh ?_)
   | ((with_reducible refine zat ?_); refine wpList_store_row rfl 39 _ _ rfl g3 Z8 rfl rfl 39 _ (zdj TZ H3.out.2.2.1 H3.out.2.2.2.2.2.1) iZ8 rfl zfi ?_))
  have hF:=zdf (T:=TZ) (G:=Z8) H3.out.1 H3.out.2.1 H3.out.2.2.1 ⟨H3.out.2.2.2.2.1,H3.out.2.2.2.2.2.1⟩
  refine bodyPost_ret (zbx rfl _ _ g2 g3 23 39 TZ Z8 (0,0) (0,0) _ _ rfl hF.2.1 Tryz.underlying23 rfl iTZ rfl hF.2.2 Tryz.underlying39 rfl iZ8) rfl ⟨_,_,_,rfl,hF.1,.inl ⟨hr,tz_tk,z8_gc,rfl⟩⟩
 ·
  rcases hA with ⟨hn,rfl,rfl⟩ | ⟨l,hn,hI,rfl⟩
  ·
   have hr:=openB_none2 hp hn
   clear HY hp hn
   go_upto_region 4 with (fail)
   go_wp2_with (first
    | ((with_reducible refine zat ?_); refine wpList_store_row rfl 23 _ _ rfl g2 TZ rfl rfl 23 _ H3.out.2.1 iTZ rfl zeh ?_)
    | ((with_reducible refine zat ?_); refine wpList_store_row rfl 39 _ _ rfl g3 Z8 rfl rfl 39 _ (zdj TZ H3.out.2.2.1 H3.out.2.2.2.2.2.1) iZ8 rfl zfi ?_))
   have hF:=zdf (T:=TZ) (G:=Z8) H3.out.1 H3.out.2.1 H3.out.2.2.1 ⟨H3.out.2.2.2.2.1,H3.out.2.2.2.2.2.1⟩
   refine bodyPost_ret (zbx rfl _ _ g2 g3 23 39 TZ Z8 (0,0) (0,0) _ _ rfl hF.2.1 Tryz.underlying23 rfl iTZ rfl hF.2.2 Tryz.underlying39 rfl iZ8) rfl ⟨_,_,_,rfl,hF.1,.inl ⟨hr,tz_tk,z8_gc,rfl⟩⟩
  ·
   have hr:=openB_some hp hn
   have h5:=(zkk HBB.out hn).1
   clear HY hp hn
   match l,h5,hI,hr with
   | [t0,t1,t2,t3,t4],_,hI,hr =>
    obtain ⟨A2,c2,rfl,hc2,hx⟩:=hI
    obtain ⟨b2,o2,hA2,hb2,hcl⟩:=hx.resolve_left (by simp)
    have d0 : w3.cell? ⟨b2,o2,none⟩ = some (.int .i64 t0):=hcl 0 (by simp)
    have d1 : w3.cell? ⟨b2,o2 + 1,none⟩ = some (.int .i64 t1):=hcl 1 (by simp)
    have d2 : w3.cell? ⟨b2,o2 + 2,none⟩ = some (.int .i64 t2):=hcl 2 (by simp)
    have d3 : w3.cell? ⟨b2,o2 + 3,none⟩ = some (.int .i64 t3):=hcl 3 (by simp)
    have d4 : w3.cell? ⟨b2,o2 + 4,none⟩ = some (.int .i64 t4):=hcl 4 (by simp)
    have HR:=veil (show openB bs = if mayT ⟨t0,t1,t2,t3,t4⟩ = true then some (⟨t0,t1,t2,t3,t4⟩,r,s) else none from hr)
    have hc2' : 5 ≤ c2:=hc2
    subst hA2
    clear hx hcl hr hc2
    rw [show ([t0,t1,t2,t3,t4] : List Int).length = 5 from rfl]
    go_upto_region 5 with (fail)
    try simp only [Act.put]
    refine zfr 17 [(true,[0,1,2,3,4,5,6,7,8,9,10,11,12,13,14,15]),(false,[16]),(false,[17])] (by kernel_rfl) (by kernel_rfl) fun Q' hQ' => ?_
    refine' zdc (A:=_) _ rfl (by kernel_rfl) ?_ ?_
    rotate_left
    ·
     intro D hD hN
     have e0:=hD.cell d0
     have e1:=hD.cell d1
     have e2:=hD.cell d2
     have e3:=hD.cell d3
     have e4:=hD.cell d4
     simp only [pickI,consO,List.getElem?_cons_zero,List.getElem?_cons_succ]
     iterate 15 (go_big_quiet_step (fail))
     go_big_quiet_step (fail)
     exact zew
    refine sched_alloc (C:=TZ) (t:=23) _ rfl rfl rfl (fun _ => rfl) ?_
    intro g10 w4 hg10 hb10 hE4
    simp only [aP,lA,lZ,lS]
    obtain ⟨T,hT⟩ : ∃ T,T = tkC ⟨t0,t1,t2,t3,t4⟩:=⟨_,rfl⟩
    have HT:=veil (And.intro hT (And.intro (show (Tryz.prog.info? 23).map (·.size) = some T.size by rw [hT]; exact iTk _) (And.intro (show TZ.size = T.size by rw [hT]; rfl) (show T.all (·.oneCell') = true by rw [hT]; exact zcf _))))
    have KM:=veil (fun W => rmay9_calls ⟨t0,t1,t2,t3,t4⟩ W)
    unfold tkV at KM
    rw [← hT] at KM
    unfold tkC at hT
    rw [← hT]
    clear hT
    refine sched_store (cells:=T) _ rfl rfl rfl rfl (by decide) rfl rfl hb10 HT.out.2.1 HT.out.2.2.1 HT.out.2.2.2 ?_
    intro w5 hB5 hb5
    refine zep hQ' fun w6 hE6 => ?_
    have hE35 : Ext w3 w5:=Below.trans hE4 (hB5.new hg10 (Below.size hE4))
    have hE3:=hE35.trans hE6
    have hlt : g6 < g10:=by
     have h:=(Array.getElem?_eq_some_iff.mp H3.out.2.2.2.1).1
     omega
    have H6:=veil (And.intro (H3.out.1.trans hE3) (And.intro (hE3.block H3.out.2.1) (And.intro (hE3.block H3.out.2.2.1) (And.intro (hE3.block H3.out.2.2.2.1) (And.intro (hE6.block hb5) H3.out.2.2.2.2)))))
    clear hE3 hE35 hE4 hB5 hE6 hb5 hb10 hg10 hlt d0 d1 d2 d3 d4 hb2 H3
    go_upto_region 7 with (first
     | ((with_reducible refine zau 47 ?_); refine wpList_load_row rfl 23 _ rfl g10 rfl 23 T (0,0) _ H6.out.2.2.2.2.1 Tryz.underlying23 rfl HT.out.2.1 ?_)
     | (go_at_call 7; refine (KM.out _).mono ?_; rintro e w7 ⟨rfl,hE7⟩))
    have H7:=veil (And.intro (H6.out.1.trans hE7) (And.intro (hE7.block H6.out.2.1) (And.intro (hE7.block H6.out.2.2.1) (And.intro (hE7.block H6.out.2.2.2.1) (And.intro (hE7.block H6.out.2.2.2.2.1) H6.out.2.2.2.2.2)))))
    clear hE7 H6 KM
    cases hm : mayT ⟨t0,t1,t2,t3,t4⟩ with
    | false =>
     have hr : openB bs = none:=by rw [HR.out,hm]; rfl
     clear hm HR
     go_wp2_with (first
      | ((with_reducible refine zat ?_); refine wpList_store_row rfl 23 _ _ rfl g2 TZ rfl rfl 23 _ H7.out.2.1 iTZ rfl zeh ?_)
      | ((with_reducible refine zat ?_); refine wpList_store_row rfl 39 _ _ rfl g3 Z8 rfl rfl 39 _ (zdj TZ H7.out.2.2.1 H7.out.2.2.2.2.2.2.1) iZ8 rfl zfi ?_))
     have hF:=zdf (T:=TZ) (G:=Z8) H7.out.1 H7.out.2.1 H7.out.2.2.1 ⟨H7.out.2.2.2.2.2.1,H7.out.2.2.2.2.2.2.1⟩
     refine bodyPost_ret (zbx rfl _ _ g2 g3 23 39 TZ Z8 (0,0) (0,0) _ _ rfl hF.2.1 Tryz.underlying23 rfl iTZ rfl hF.2.2 Tryz.underlying39 rfl iZ8) rfl ⟨_,_,_,rfl,hF.1,.inl ⟨hr,tz_tk,z8_gc,rfl⟩⟩
    | true =>
     have hr : openB bs = some (⟨t0,t1,t2,t3,t4⟩,r,s):=by rw [HR.out,hm]; rfl
     have HR:=veil hr
     clear hm hr
     go_upto_region 9 with (fail)
     have n26 : g6 ≠ g2:=by have h:=H7.out.2.2.2.2.2.2; omega
     have n32 : g3 ≠ g2:=by have h:=H7.out.2.2.2.2.2.2; omega
     refine wp_tree (by kernel_rfl) fun Q' hQ' => ?_
     refine G_two (i:=0) (j:=1) (by kernel_rfl) ?_ ?_
     ·
      refine G_val _ rfl rfl rfl (fun W hW => zbt rfl rfl (hW.block H7.out.2.2.2.2.1) Tryz.underlying23 rfl HT.out.2.1) ?_
      simp only [aP,lA,lZ,lS]
      refine G_two (i:=1) (j:=2) (by kernel_rfl) ?_ ?_
      ·
       refine G_val _ rfl rfl rfl (fun W hW => zbt rfl rfl (hW.block (H7.out.2.2.2.1)) Tryz.underlying39 rfl (iSg r s)) ?_
       simp only [aP,lA,lZ,lS]
       refine G_one (j:=2) (by kernel_rfl) ?_
       refine zdx (cells:=T) _ rfl rfl rfl rfl rfl rfl H7.out.2.1 HT.out.2.1 HT.out.2.2.1 HT.out.2.2.2 ?_
       intro W8 hB8 h8
       refine G_one (j:=3) (by kernel_rfl) ?_
       refine zdx (cells:=gc r s) _ rfl rfl rfl rfl rfl rfl (zgj hB8 H7.out.2.2.1 n32) (iSg r s) rfl (zcu r s) ?_
       intro W9 hB9 h9
       refine G_one (j:=4) (by kernel_rfl) ?_
       refine G_val _ rfl rfl rfl (fun W hW => zcw rfl rfl W) ?_
       simp only [aP,lA,lZ,lS]
       refine G_end (by kernel_rfl) hQ' fun W10 hE10 => ?_
       have hF:=zgn H7.out.1 ⟨H7.out.2.2.2.2.2.1,H7.out.2.2.2.2.2.2.1⟩ hB8 h8 hB9 h9 hE10
       clear hB8 h8 hB9 h9 hE10 n26 n32
       go_wp2
       refine bodyPost_ret (zbx rfl _ _ g2 g3 23 39 T (gc r s) (0,0) (0,0) _ _ rfl hF.2.1 Tryz.underlying23 rfl HT.out.2.1 rfl hF.2.2 Tryz.underlying39 rfl (iSg r s)) rfl ⟨_,_,_,rfl,hF.1,.inr ⟨_,_,_,HR.out,HT.out.1,rfl,rfl⟩⟩
      ·
       refine zdx (cells:=T) _ rfl rfl rfl rfl rfl rfl H7.out.2.1 HT.out.2.1 HT.out.2.2.1 HT.out.2.2.2 ?_
       intro W8 hB8 h8
       refine G_one (j:=1) (by kernel_rfl) ?_
       refine G_val _ rfl rfl rfl (fun W hW => zbt rfl rfl (hW.block (zgj hB8 H7.out.2.2.2.1 n26)) Tryz.underlying39 rfl (iSg r s)) ?_
       simp only [aP,lA,lZ,lS]
       refine G_one (j:=3) (by kernel_rfl) ?_
       refine zdx (cells:=gc r s) _ rfl rfl rfl rfl rfl rfl (zgj hB8 H7.out.2.2.1 n32) (iSg r s) rfl (zcu r s) ?_
       intro W9 hB9 h9
       refine G_one (j:=4) (by kernel_rfl) ?_
       refine G_val _ rfl rfl rfl (fun W hW => zcw rfl rfl W) ?_
       simp only [aP,lA,lZ,lS]
       refine G_end (by kernel_rfl) hQ' fun W10 hE10 => ?_
       have hF:=zgn H7.out.1 ⟨H7.out.2.2.2.2.2.1,H7.out.2.2.2.2.2.2.1⟩ hB8 h8 hB9 h9 hE10
       clear hB8 h8 hB9 h9 hE10 n26 n32
       go_wp2
       refine bodyPost_ret (zbx rfl _ _ g2 g3 23 39 T (gc r s) (0,0) (0,0) _ _ rfl hF.2.1 Tryz.underlying23 rfl HT.out.2.1 rfl hF.2.2 Tryz.underlying39 rfl (iSg r s)) rfl ⟨_,_,_,rfl,hF.1,.inr ⟨_,_,_,HR.out,HT.out.1,rfl,rfl⟩⟩
     ·
      refine G_val _ rfl rfl rfl (fun W hW => zbt rfl rfl (hW.block (H7.out.2.2.2.1)) Tryz.underlying39 rfl (iSg r s)) ?_
      simp only [aP,lA,lZ,lS]
      refine G_one (j:=0) (by kernel_rfl) ?_
      refine G_val _ rfl rfl rfl (fun W hW => zbt rfl rfl (hW.block H7.out.2.2.2.2.1) Tryz.underlying23 rfl HT.out.2.1) ?_
      simp only [aP,lA,lZ,lS]
      refine G_one (j:=2) (by kernel_rfl) ?_
      refine zdx (cells:=T) _ rfl rfl rfl rfl rfl rfl H7.out.2.1 HT.out.2.1 HT.out.2.2.1 HT.out.2.2.2 ?_
      intro W8 hB8 h8
      refine G_one (j:=3) (by kernel_rfl) ?_
      refine zdx (cells:=gc r s) _ rfl rfl rfl rfl rfl rfl (zgj hB8 H7.out.2.2.1 n32) (iSg r s) rfl (zcu r s) ?_
      intro W9 hB9 h9
      refine G_one (j:=4) (by kernel_rfl) ?_
      refine G_val _ rfl rfl rfl (fun W hW => zcw rfl rfl W) ?_
      simp only [aP,lA,lZ,lS]
      refine G_end (by kernel_rfl) hQ' fun W10 hE10 => ?_
      have hF:=zgn H7.out.1 ⟨H7.out.2.2.2.2.2.1,H7.out.2.2.2.2.2.2.1⟩ hB8 h8 hB9 h9 hE10
      clear hB8 h8 hB9 h9 hE10 n26 n32
      go_wp2
      refine bodyPost_ret (zbx rfl _ _ g2 g3 23 39 T (gc r s) (0,0) (0,0) _ _ rfl hF.2.1 Tryz.underlying23 rfl HT.out.2.1 rfl hF.2.2 Tryz.underlying39 rfl (iSg r s)) rfl ⟨_,_,_,rfl,hF.1,.inr ⟨_,_,_,HR.out,HT.out.1,rfl,rfl⟩⟩
theorem eqCodes (k i : Int) (w : World) : (binOp .eql 31 (.iface 35 (.int .i64 k)) (.iface 35 (.int .i64 i))).run Tryz.prog w = .ok (.bool (k == i)) w:=by kernel_rfl
theorem eqCodeNil (k : Int) (w : World) : (binOp .eql 31 (.iface 35 (.int .i64 k)) .nilIface).run Tryz.prog w = .ok (.bool false) w:=by kernel_rfl
theorem eqNilNil (w : World) : (binOp .eql 31 .nilIface .nilIface).run Tryz.prog w = .ok (.bool true) w:=by kernel_rfl
def errV (k : Nat) : Value:=if k = 0 then .nilIface else .iface 35 (.int .i64 (k : Int))
theorem code0_nil (w : World) : Calls Tryz.prog 20 #[.nilIface] w fun e w' => e = .returned (.int .i64 0) ∧ Ext w w':=by
 go_enter Tryz.func20,Tryz.ntmps20
 have h:=eqNilNil
 go_wp2
 go_ret
 exact ⟨rfl,Ext.refl _⟩
theorem code0_some (k : Nat) (h1 : 1 ≤ k) (h9 : k ≤ 9) (w : World) : Calls Tryz.prog 20 #[.iface 35 (.int .i64 (k : Int))] w fun e w' => e = .returned (.int .i64 (k : Int)) ∧ Ext w w':=by
 have H:=veil (And.intro h1 h9)
 clear h1 h9
 have hn:=eqCodeNil (k : Int)
 go_enter Tryz.func20,Tryz.ntmps20
 go_upto_region 4 with (fail)
 clear hn
 go_loopw [3] (fun u wr => ∃ i : Nat,1 ≤ i ∧ i ≤ k ∧ u = .int .i64 (i : Int) ∧ Ext w wr)
  (fun v _ => k - (intOf v).toNat)
 case atStart => exact ⟨1,by omega,H.out.1,rfl,Ext.refl _⟩
 case round =>
  obtain ⟨i,hi1,hi,rfl,hE⟩:=hrel
  have hk9:=H.out.2
  have hd1 : decide ((i : Int) ≤ 9) = true:=by simp; omega
  have hii : (i : Int) ≤ 9:=by omega
  by_cases hlt : i < k
  ·
   have he : ((k : Int) == (i : Int)) = false:=by simp; omega
   have hc:=fun W => (eqCodes (k : Int) (i : Int) W).trans (by rw [he])
   go_wp2
   go_roundw
   case rel => exact ⟨i + 1,by omega,by omega,by go_num,hE⟩
   case measure => simp [intOf]; omega
  ·
   obtain rfl : i = k:=by omega
   have he : ((i : Int) == (i : Int)) = true:=by simp
   have hc:=fun W => (eqCodes (i : Int) (i : Int) W).trans (by rw [he])
   go_wp2
   go_ret
   exact ⟨rfl,hE⟩
theorem code0 (k : Nat) (h9 : k ≤ 9) (w : World) : Calls Tryz.prog 20 #[errV k] w fun e w' => e = .returned (.int .i64 (k : Int)) ∧ Ext w w':=by
 unfold errV
 by_cases h : k = 0
 ·
  rw [if_pos h,h]
  exact code0_nil w
 ·
  rw [if_neg h]
  exact code0_some k (by omega) h9 w
def checkB (L : Low) (X Y : Nat) (f : Bool) (bs : List Nat) : Tk × Nat:=match openB bs with
 | none => (⟨0,0,0,0,0⟩,2)
 | some (t,r,s) => if L.vf X Y f (L.dg (tkB t)) r s = true then (t,0) else (⟨0,0,0,0,0⟩,8)
theorem checkB_none {L : Low} {X Y : Nat} {f : Bool} {bs : List Nat} (h : openB bs = none) : checkB L X Y f bs = (⟨0,0,0,0,0⟩,2):=by
 unfold checkB
 rw [h]
theorem checkB_some {L : Low} {X Y : Nat} {f : Bool} {bs : List Nat} {t : Tk} {r s : Nat} (h : openB bs = some (t,r,s)) : checkB L X Y f bs = if L.vf X Y f (L.dg (tkB t)) r s = true then (t,0) else (⟨0,0,0,0,0⟩,8):=by
 unfold checkB
 rw [h]
theorem zck {P : Program} {fn : Func} {q s : Tmp} {ty : TypeId} (h : fn.results = #[.cell q ty,.tmp s]) (tmps : Array Value) (w : World) (g : Nat) (t : TypeId) (cs : Array Value) (fr : Nat × Nat) (d : TypeDesc)
  (hq : tmps.getD q undef = .pointer (some ⟨g,0,none⟩)) (hg : w.heap[g]? = some (.cells cs t fr)) (hu : P.underlying ty = some d) (hd : d.isRow = true) (hi : (P.info? ty).map (·.size) = some cs.size) :
  (results fn tmps).run P w = .ok (.tuple #[.agg cs,tmps.getD s undef]) w:=by
 have hq' : tmps[q]?.getD undef = .pointer (some ⟨g,0,none⟩):=by simpa using hq
 have hl : (loadVar ty ⟨g,0,none⟩).run P w = .ok (.agg cs) w:=run_loadVar_mid w g 0 ty cs.toList d (fun j v hv => by rw [cell_of_row w g (0 + j) cs t fr hg,Nat.zero_add]; simpa using hv) hu hd (by simpa using hi)
 simp [results,h,hq',asAddr,hl]
theorem openA_all {bs : List Nat} {T G : Array Value} {y : Value} (h : OpenA bs T G y) : ∃ t r s o,T = tkC t ∧ G = gc r s ∧ y = .bool o ∧ ((openB bs = none ∧ o = false) ∨ (openB bs = some (t,r,s) ∧ o = true)):=by
 rcases h with ⟨h,rfl,rfl,rfl⟩ | ⟨t,r,s,h,rfl,rfl,rfl⟩
 ·
  exact ⟨_,_,_,_,rfl,rfl,rfl,.inl ⟨h,rfl⟩⟩
 ·
  exact ⟨_,_,_,_,rfl,rfl,rfl,.inr ⟨h,rfl⟩⟩
theorem zbv (w1 : World) (o o2 : Obj) : ((w1.alloc o).alloc o2).heap[w1.heap.size]? = some o ∧ ((w1.alloc o).alloc o2).heap[w1.heap.size + 1]? = some o2:=by
 have h:=zaw (w1.alloc o) o2
 rw [World.size_alloc] at h
 exact ⟨(Ext.alloc (w1.alloc o) o2).block (zaw w1 o),h⟩
theorem zgg (w1 : World) (o o2 : Obj) : Ext w1 ((w1.alloc o).alloc o2):=(Ext.alloc _ _).trans (Ext.alloc _ _)
theorem Up.calls {P : Program} {w : World} {D : World → Prop} (h : Up w D) {f : FuncId} {args : Array Value} {v : Value} (k : ∀ W,Ext w W → Calls P f args W fun _e w' => _e = .returned v ∧ Ext W w') (x : Gw D) :
  Calls P f args x.val fun _e w' => _e = .returned v ∧ ∃ y : Gw D,w' = y.val :=
 (k _ (h.grown _ x.property)).mono fun _ w' ⟨he,hE⟩ => ⟨he,⟨w',h.up _ _ x.property hE⟩,rfl⟩
theorem rcheck9_calls {L : Low} (R : LowR L) (X Y : Nat) (f : Bool) (hX : X < top) (hY : Y < top) (A : Option Addr) (m c : Nat) (bs : List Nat) (hm : m = bs.length) (hmc : m ≤ c) (hle : m ≤ 100000) (w : World) (hS : Bs w A bs) :
  Calls Tryz.prog 19 #[.slice A m c,qv X Y f] w fun e w' => e = .returned (.tuple #[tkV (checkB L X Y f bs).1,.int .i64 ((checkB L X Y f bs).2 : Int)]) ∧ Ext w w':=by
 have KO:=veil (fun W => zkc R A m c bs hm hmc (by omega) W)
 have KP:=veil (fun W => ziw R A m c bs hm hmc (by omega) W)
 have HB:=veil hS
 have HX:=veil (And.intro hX hY)
 obtain ⟨C,hC⟩ : ∃ C,C = qc X Y f:=⟨_,rfl⟩
 have HC:=veil (And.intro hC (And.intro (show (Tryz.prog.info? 48).map (·.size) = some C.size by rw [hC]; exact iT X Y f) (show C.all (·.oneCell') = true by rw [hC]; exact zdr X Y f)))
 unfold qv
 rw [← hC]
 clear hm hmc hle hS hX hY hC
 go_enter Tryz.func19,Tryz.ntmps19
 go_upto_region 1 with (fail)
 obtain ⟨g3,hg3⟩ : ∃ g,g = w.heap.size:=⟨_,rfl⟩
 obtain ⟨g4,hg4⟩ : ∃ g,g = w.heap.size + 1:=⟨_,rfl⟩
 obtain ⟨w0,hw0⟩ : ∃ W,W = (w.alloc (.cells C 48)).alloc (.cells TZ 23):=⟨_,rfl⟩
 have h3:=(zbv w (.cells C 48) (.cells TZ 23)).1
 have h4:=(zbv w (.cells C 48) (.cells TZ 23)).2
 have hE0:=zgg w (.cells C 48) (.cells TZ 23)
 rw [← hw0,← hg3] at h3
 rw [← hw0,← hg4] at h4
 rw [← hw0] at hE0
 have H0:=veil (And.intro hE0 (And.intro h3 (And.intro h4 (And.intro (show w.heap.size ≤ g4 by omega) (HB.out.ext hE0)))))
 unfold TZ at hw0
 rw [← hw0,← hg4,← hg3]
 clear hw0 hg3 hg4 hE0 h3 h4
 go_upto_region 2 with (first
  | (go_at_call 17; refine (KO.out w0 H0.out.2.2.2.2).mono ?_; rintro e w1 ⟨T,G,y,rfl,hE1,hA⟩; obtain ⟨t,r,s,o,rfl,rfl,rfl,hY⟩:=openA_all hA)
  | ((with_reducible refine zat ?_); refine wpList_store_row rfl 23 _ _ rfl w1.heap.size (tkC t) rfl rfl 23 _ (zbv w1 _ _).1 (iTk t) rfl (zcf t) ?_)
  | ((with_reducible refine zat ?_); refine wpList_store_row rfl 39 _ _ rfl (w1.heap.size + 1) (gc r s) rfl rfl 39 _ (zdj _ (zbv w1 _ _).2 (Nat.lt_succ_self _)) (iSg r s) rfl (zcu r s) ?_))
 have hF:=zdf (T:=tkC t) (G:=gc r s) (zgg w1 (.cells TZ 23) (.cells Z8 39)) (zbv w1 _ _).1 (zbv w1 _ _).2 ⟨Nat.le_refl _,Nat.lt_succ_self _⟩
 have hE0:=H0.out.1.trans hE1
 have hS1:=(H0.out.2.2.2.2.ext hE1).ext hF.1
 have h31:=(hE1.trans hF.1).block H0.out.2.1
 have h41:=(hE1.trans hF.1).block H0.out.2.2.1
 have hE2:=hE0.trans hF.1
 have h6:=hF.2.1
 have h7:=hF.2.2
 clear hF hE0 hE1 hA
 obtain ⟨g6,hg6⟩ : ∃ g,g = w1.heap.size:=⟨_,rfl⟩
 obtain ⟨g7,hg7⟩ : ∃ g,g = w1.heap.size + 1:=⟨_,rfl⟩
 rw [← hg7,← hg6] at hE2 h6 h7 h31 h41 hS1 ⊢
 obtain ⟨w2,hw2⟩ : ∃ W,W = (((w1.alloc (.cells TZ 23)).alloc (.cells Z8 39)).setRow g6 (tkC t)).setRow g7 (gc r s):=⟨_,rfl⟩
 rw [← hw2] at hE2 h6 h7 h31 h41 hS1
 unfold TZ Z8 at hw2
 rw [← hw2]
 have H2:=veil (And.intro hE2 (And.intro h31 (And.intro h41 (And.intro h6 (And.intro h7 (And.intro H0.out.2.2.2.1 hS1))))))
 have HY:=veil hY
 clear hw2 hg6 hg7 hE2 h31 h41 h6 h7 hS1 hY KO H0
 rcases HY.out with ⟨hp,rfl⟩ | ⟨hp,rfl⟩
 ·
  have hr:=checkB_none (L:=L) (X:=X) (Y:=Y) (f:=f) hp
  clear HY hp
  go_wp2_with ((with_reducible refine zat ?_); refine wpList_store_row rfl 23 _ _ rfl g4 TZ rfl rfl 23 _ H2.out.2.2.1 iTZ rfl zeh ?_)
  refine bodyPost_ret (zck rfl _ _ g4 23 TZ (0,0) _ rfl (setRow_heap w2 g4 _ TZ 23 (0,0) H2.out.2.2.1) Tryz.underlying23 rfl iTZ) rfl ⟨by rw [hr]; rfl,zbd H2.out.1 H2.out.2.2.2.2.2.1 _⟩
 ·
  have hr:=checkB_some (L:=L) (X:=X) (Y:=Y) (f:=f) hp
  have hso:=zhn HB.out.1 hp
  have HR:=veil hr
  have HO:=veil hso
  clear HY hp hr hso
  go_upto_region 5 with (first
   | (go_at_call 48; refine (KP.out _ H2.out.2.2.2.2.2.2).mono ?_; rintro e w3 ⟨x,G,y,rfl,hE3,hA⟩; obtain ⟨r2,s2,body,A2,c2,o,rfl,rfl,hc2,hl2,hB2,rfl,hZ⟩:=partsA_all HB.out.1 hA)
   | ((with_reducible refine zat ?_); refine wpList_store_row rfl 39 _ _ rfl w3.heap.size (gc r2 s2) rfl rfl 39 _ (zaw w3 _) (iSg r2 s2) rfl (zcu r2 s2) ?_; rw [World.setRow_alloc_new]))
  have hbody : body = tkB t:=by
   rcases hZ with ⟨h,_⟩ | ⟨h,_⟩
   ·
    rw [HO.out.2.2.1] at h; cases h
   ·
    have h2:=HO.out.2.2.1.symm.trans h
    injection h2 with h2
    injection h2 with h2
    exact h2.symm
  have hE4:=hE3.trans (Ext.alloc w3 (.cells (gc r2 s2) 39))
  have hB4:=hB2.ext (Ext.alloc w3 (.cells (gc r2 s2) 39))
  subst hbody
  clear hZ hA hB2 hE3
  generalize w3.alloc (.cells (gc r2 s2) 39) = w4 at *
  have H4:=veil (And.intro (H2.out.1.trans hE4) (And.intro (hE4.block H2.out.2.1) (And.intro (hE4.block H2.out.2.2.1) (And.intro (hE4.block H2.out.2.2.2.1) (And.intro (hE4.block H2.out.2.2.2.2.1) (And.intro H2.out.2.2.2.2.2.1 hB4))))))
  clear hE4 hB4 H2 KP
  obtain ⟨v,hv⟩ : ∃ v,v = L.vf X Y f (L.dg (tkB t)) r s:=⟨_,rfl⟩
  have KS:=veil (fun W (hW : Ext w4 W) => R.sum A2 (tkB t).length c2 (tkB t) W rfl (by omega) (H4.out.2.2.2.2.2.2.ext hW))
  have KV : Hid (∀ W : World,Calls Tryz.prog 51 #[.agg C,dgv (L.dg (tkB t)),.agg (gc r s)] W fun e w' => e = .returned (.bool v) ∧ Ext W w'):=veil (fun W => by
   have h:=R.ver X Y f (L.dg (tkB t)) r s W HX.out.1 HX.out.2 (by have:=HO.out.2.2.2.1; exact this) (by have:=HO.out.2.2.2.2; exact this) (L.dgb _)
   unfold qv gv at h
   rw [← HC.out.1,← hv] at h
   exact h)
  have HV:=veil hv
  clear hv
  refine zfr 6 [(true,[0,1,2,3,4,5])] (by kernel_rfl) (by kernel_rfl) fun Q' hQ' => ?_
  refine' zdc (A:=_) _ rfl (by kernel_rfl) ?h1 ?h2
  case h1 =>
   intro D hD hN
   have K1:=veil (fun x : Gw D => hD.calls (v:=dgv (L.dg (tkB t))) (fun W hW => KS.out W hW) x)
   have K2:=veil (fun x : Gw D => hD.calls (v:=.bool v) (fun W _ => KV.out W) x)
   simp only [pickI,consO,List.getElem?_cons_zero,List.getElem?_cons_succ]
   go_big_quiet_want
   refine zdm (.agg C) (fun x => zbt rfl rfl (hD.block H4.out.2.1 x) Tryz.underlying48 rfl HC.out.2.1) ?_
   simp only [aP,lA,lZ,lS]
   go_big_quiet_on
   iterate 2 (go_big_quiet_step (exact K1.out _))
   go_big_quiet_want
   refine zdm (.agg (gc r s)) (fun x => zbt rfl rfl (hD.block H4.out.2.2.2.2.1 x) Tryz.underlying39 rfl (iSg r s)) ?_
   simp only [aP,lA,lZ,lS]
   go_big_quiet_on
   iterate 2 (go_big_quiet_step (exact K2.out _))
   exact zew
  refine zep hQ' fun w5 hE5 => ?_
  have H5:=veil (And.intro (H4.out.1.trans hE5) (And.intro (hE5.block H4.out.2.2.1) (And.intro (hE5.block H4.out.2.2.2.1) H4.out.2.2.2.2.2.1)))
  clear hE5 H4 KS KV
  cases v with
  | false =>
   have hr : checkB L X Y f bs = (⟨0,0,0,0,0⟩,8):=by rw [HR.out,← HV.out]; rfl
   go_wp2_with ((with_reducible refine zat ?_); refine wpList_store_row rfl 23 _ _ rfl g4 TZ rfl rfl 23 _ H5.out.2.1 iTZ rfl zeh ?_)
   refine bodyPost_ret (zck rfl _ _ g4 23 TZ (0,0) _ rfl (setRow_heap w5 g4 _ TZ 23 (0,0) H5.out.2.1) Tryz.underlying23 rfl iTZ) rfl ⟨by rw [hr]; rfl,zbd H5.out.1 H5.out.2.2.2 _⟩
  | true =>
   have hr : checkB L X Y f bs = (t,0):=by rw [HR.out,← HV.out]; rfl
   go_wp2_with (first
    | ((with_reducible refine zau 36 ?_); refine wpList_load_row rfl 23 _ rfl g6 rfl 23 (tkC t) (0,0) _ H5.out.2.2.1 Tryz.underlying23 rfl (iTk t) ?_)
    | ((with_reducible refine zat ?_); refine wpList_store_row rfl 23 _ _ rfl g4 (tkC t) rfl rfl 23 _ H5.out.2.1 (iTk t) rfl (zcf t) ?_))
   refine bodyPost_ret (zck rfl _ _ g4 23 (tkC t) (0,0) _ rfl (setRow_heap w5 g4 _ (tkC t) 23 (0,0) H5.out.2.1) Tryz.underlying23 rfl (iTk t)) rfl ⟨by rw [hr]; rfl,zbd H5.out.1 H5.out.2.2.2 _⟩
theorem zjk : Tryz.prog.cellsOf 39 = 8:=by kernel_rfl
theorem cells_tk : Tryz.prog.cellsOf 23 = 5:=by kernel_rfl
theorem lits_sig9 (X Y : Nat) (D : Nat) : Tryz.prog.keyLits (D + 3) 39 (gc X Y).toList = some [.int .u64 (wd X 0),.int .u64 (wd X 1),.int .u64 (wd X 2),.int .u64 (wd X 3),.int .u64 (wd Y 0),.int .u64 (wd Y 1),.int .u64 (wd Y 2),.int .u64 (wd Y 3)]:=by
 unfold Program.keyLits gc
 simp [Tryz.underlying39,zjk,zgv,lits_num]
theorem cells_int : Tryz.prog.cellsOf 3 = 1:=by kernel_rfl
def Tk.ok (t : Tk) : Prop:=∀ n ∈ t.list,(Lit.int .i64 n).wf = true
theorem zhx {n : Int} (h : (Lit.int .i64 n).wf = true) (D : Nat) : Tryz.prog.keyLits (D + 1) 3 [.int .i64 n] = some [.int .i64 n]:=by
 unfold Program.keyLits
 simp [Tryz.underlying3,h]
theorem lits_tk {t : Tk} (h : t.ok) (D : Nat) : Tryz.prog.keyLits (D + 2) 23 (tkC t).toList = some [.int .i64 t.s,.int .i64 t.p,.int .i64 t.z,.int .i64 t.f,.int .i64 t.k]:=by
 have h0:=zhx (h t.s (by simp [Tk.list])) D
 have h1:=zhx (h t.p (by simp [Tk.list])) D
 have h2:=zhx (h t.z (by simp [Tk.list])) D
 have h3:=zhx (h t.f (by simp [Tk.list])) D
 have h4:=zhx (h t.k (by simp [Tk.list])) D
 unfold Program.keyLits tkC
 simp [Tryz.underlying23,cells_tk,cells_int,h0,h1,h2,h3,h4]
theorem wf_int {n : Int} (h0 : -9223372036854775808 ≤ n) (h1 : n ≤ 9223372036854775807) : (Lit.int .i64 n).wf = true:=by
 show (decide (_ ≤ n) && decide (n ≤ _)) = true
 simp only [Bool.and_eq_true,decide_eq_true_eq]
 exact ⟨h0,h1⟩
theorem ok_may {t : Tk} (h : mayT t = true) : t.ok:=fun n hn => by
 have:=mayT_each h n hn
 exact wf_int (by omega) (by omega)
theorem ok_zero : (⟨0,0,0,0,0⟩ : Tk).ok:=fun n hn => by
 have : n = 0:=by simpa [Tk.list] using hn
 subst this
 exact wf_int (by omega) (by omega)
theorem eqG9 (X Y : Nat) (w : World) : (binOp .eql 39 (gv X Y) (gv X Y)).run Tryz.prog w = .ok (.bool true) w:=by
 unfold gv
 rw [run_eql_struct]
 obtain ⟨r,hr,hiff⟩:=run_equalIn_deep (P:=Tryz.prog) 9990 10 39 (by kernel_rfl) w 10000 10000 (.agg (gc X Y)) (.agg (gc X Y)) _ _ (by simp [Value.formed,Tryz.underlying39,zjk,gc]) (by simp [Value.formed,Tryz.underlying39,zjk,gc]) (lits_sig9 X Y 9997) (lits_sig9 X Y 9997)
 rw [hr,Result.andThen_ok,hiff.2 rfl]
theorem neG9 (X Y : Nat) (w : World) : (binOp .neq 39 (gv X Y) (gv X Y)).run Tryz.prog w = .ok (.bool false) w:=neq_of (eqG9 X Y w) rfl
theorem eqT9 {t : Tk} (ht : t.ok) (w : World) : (binOp .eql 23 (tkV t) (tkV t)).run Tryz.prog w = .ok (.bool true) w:=by
 unfold tkV
 rw [run_eql_struct]
 obtain ⟨r,hr,hiff⟩:=run_equalIn_deep (P:=Tryz.prog) 9990 10 23 (by kernel_rfl) w 10000 10000 (.agg (tkC t)) (.agg (tkC t)) _ _ (by simp [Value.formed,Tryz.underlying23,cells_tk,tkC]) (by simp [Value.formed,Tryz.underlying23,cells_tk,tkC]) (lits_tk ht 9998) (lits_tk ht 9998)
 rw [hr,Result.andThen_ok,hiff.2 rfl]
theorem neT9 {t : Tk} (ht : t.ok) (w : World) : (binOp .neq 23 (tkV t) (tkV t)).run Tryz.prog w = .ok (.bool false) w:=neq_of (eqT9 ht w) rfl
theorem gT9 (t t' : Tk) (op : BinOp) (x y : Operand) (W : World) : (eqGuard op 23 x y (tkV t) (tkV t')).run Tryz.prog W = .ok () W:=by
 unfold tkV tkC
 cases op <;> simp [eqGuard,go_sem]
theorem gG9 (X Y X' Y' : Nat) (op : BinOp) (x y : Operand) (W : World) : (eqGuard op 39 x y (gv X Y) (gv X' Y')).run Tryz.prog W = .ok () W:=by
 unfold gv gc
 cases op <;> simp [eqGuard,go_sem]
theorem zgm {P : Program} {ops : Array Oper} {rest : List Oper} {o : Oper} {a : Act} {w : World} {Q : Exit → Act → World → Prop} (hgd : Region.wanted o (yielded ops a.tmps) = true) (ty : TypeId) (x : Operand) (ho : o.op = .load ty x)
  (g : Nat) (hx : a.eval x = .pointer (some ⟨g,0,none⟩)) (t : TypeId) (cs : Array Value) (fr : Nat × Nat) (d : TypeDesc) (hg : w.heap[g]? = some (.cells cs t fr))
  (hu : P.underlying ty = some d) (hd : (match d with | .struct _ | .array _ _ => true | _ => false) = true) (hi : (P.info? ty).map (·.size) = some cs.size)
  (h : wpList P ops Q rest (a.put o.dst (.agg cs)) w) : wpList P ops Q (o :: rest) a w :=
 wpList_step fun K hK => by
  rw [if_pos hgd]
  exact wp_load_row ty x ho g hx t cs fr d hg hu hd hi (hK _ _ h)
/-! ### what the laws ask of the landed package -/
def BodyA (w' : World) (t : Tk) (x ev : Value) : Prop :=
 (mayT t = false ∧ (∃ A c,x = .slice A 0 c) ∧ ev = .iface 35 (.int .i64 1)) ∨
 (mayT t = true ∧ (∃ A c,x = .slice A 55 c ∧ 55 ≤ c ∧ Bs w' A (tkB t)) ∧ ev = .nilIface)
def OpenC (bs : List Nat) (T G : Array Value) (ev : Value) : Prop :=
 (openB bs = none ∧ T = tkC ⟨0,0,0,0,0⟩ ∧ G = gc 0 0 ∧ ev = .iface 35 (.int .i64 2)) ∨ (∃ t r s,openB bs = some (t,r,s) ∧ T = tkC t ∧ G = gc r s ∧ ev = .nilIface)
structure Code9 (L : Low) (I : World → Prop) : Prop where
 keep : ∀ w w',I w → Ext w w' → I w'
 body : ∀ t w,Calls Tryz.prog 8 #[tkV t] w fun e w' => ∃ x ev,e = .returned (.tuple #[x,ev]) ∧ Ext w w' ∧ BodyA w' t x ev
 open_nil : ∀ w,Calls Tryz.prog 16 #[.slice none 0 0] w fun e w' => e = .returned (.tuple #[.agg (tkC ⟨0,0,0,0,0⟩),.agg (gc 0 0),.iface 35 (.int .i64 2)]) ∧ Ext w w'
 open_ : ∀ A m c bs w,m = bs.length → m ≤ c → m ≤ 5000 → Bs w A bs → Calls Tryz.prog 16 #[.slice A m c] w fun e w' => ∃ T G ev,e = .returned (.tuple #[.agg T,.agg G,ev]) ∧ Ext w w' ∧ OpenC bs T G ev
 check : ∀ X Y f A m c bs w,I w → X < top → Y < top → m = bs.length → m ≤ c → m ≤ 5000 → Bs w A bs → Calls Tryz.prog 18 #[.slice A m c,qv X Y f] w fun e w' => e = .returned (.tuple #[tkV (checkB L X Y f bs).1,errV (checkB L X Y f bs).2]) ∧ Ext w w'
theorem mayT_up : mayT ⟨1,1,1,0,1⟩ = true:=by decide
theorem tkB_up : (tkB ⟨1,1,1,0,1⟩).getD 0 0 = 1:=by decide
theorem eqCode22 (w : World) : (binOp .eql 31 (.iface 35 (.int .i64 2)) (.iface 35 (.int .i64 2))).run Tryz.prog w = .ok (.bool true) w:=by kernel_rfl
theorem up9 {L : Low} {I : World → Prop} (C : Code9 L I) (w : World) : Calls Tryz.prog 6 #[] w fun e w' => e = .returned (.bool true) ∧ Ext w w':=by
 have KO:=veil (fun W => C.open_nil W)
 have KB:=veil (fun W => C.body ⟨1,1,1,0,1⟩ W)
 unfold tkV tkC at KB
 simp only [] at KB
 have h22:=eqCode22
 have hnn:=eqNilNil
 go_enter Tryz.func6,Tryz.ntmps6
 go_upto_region 2 with (first
  | (go_at_call 16; refine (KO.out _).mono ?_; rintro e w1 ⟨rfl,hE1⟩)
  | ((with_reducible refine zat ?_); refine wpList_store_row rfl 23 _ _ rfl w1.heap.size (tkC ⟨0,0,0,0,0⟩) rfl rfl 23 _ (zbv w1 _ _).1 (iTk _) rfl (zcf _) ?_)
  | ((with_reducible refine zat ?_); refine wpList_store_row rfl 39 _ _ rfl (w1.heap.size + 1) (gc 0 0) rfl rfl 39 _ (zdj _ (zbv w1 _ _).2 (Nat.lt_succ_self _)) (iSg 0 0) rfl (zcu 0 0) ?_))
 have hF:=zdf (T:=tkC ⟨0,0,0,0,0⟩) (G:=gc 0 0) (zgg w1 (.cells TZ 23) (.cells Z8 39)) (zbv w1 _ _).1 (zbv w1 _ _).2 ⟨Nat.le_refl _,Nat.lt_succ_self _⟩
 have hE2:=hE1.trans hF.1
 clear hF hE1
 obtain ⟨w2,hw2⟩ : ∃ W,W = (((w1.alloc (.cells TZ 23)).alloc (.cells Z8 39)).setRow w1.heap.size (tkC ⟨0,0,0,0,0⟩)).setRow (w1.heap.size + 1) (gc 0 0):=⟨_,rfl⟩
 rw [← hw2] at hE2
 unfold TZ Z8 at hw2
 rw [← hw2]
 clear hw2
 have HE2:=veil hE2
 clear hE2
 go_upto_region 3 with (go_at_call 8; refine (KB.out _).mono ?_; rintro e w3 ⟨x,ev,rfl,hE3,hA⟩)
 rcases hA with ⟨hm,_⟩ | ⟨_,⟨A,c,rfl,hc,hB⟩,rfl⟩
 ·
  rw [mayT_up] at hm; cases hm
 ·
  obtain ⟨b,o,rfl,hb,hcell⟩:=hB.cell (j:=0) (by rw [ziy]; decide)
  rw [tkB_up] at hcell
  have hcell' : w3.cell? ⟨b,o,none⟩ = some (.int .u8 1):=hcell
  have HE3:=veil (HE2.out.trans hE3)
  clear hE3 hB hcell KO KB
  go_wp2
  go_ret
  exact ⟨rfl,HE3.out⟩
end Go.Proofs.YtedehdbajiaaiaaGreatDoor
