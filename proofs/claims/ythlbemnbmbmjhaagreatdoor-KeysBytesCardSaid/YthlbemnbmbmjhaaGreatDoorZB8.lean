/-
  Of Lp KA L3 Ln L1 TG TH L5 L2 L6 KB La.
-/
import Derived.Test.YthlbemnbmbmjhaaGreatDoorZB7
import Derived.Test.YthlbemnbmbmjhaaGreatDoorZB6
import Derived.Test.YthlbemnbmbmjhaaGreatDoorZB5
set_option maxRecDepth 1000000
set_option maxHeartbeats 20000000
namespace Go.Proofs.YthlbemnbmbmjhaaGreatDoor
open Go.RowKit
open Go.Value renaming int → vI
open Go.IntKind renaming u64 → vU
open Go.Act renaming put → aP
open List renaming setIfInBounds_toArray → lA, set_cons_zero → lZ, set_cons_succ → lS
theorem rptb_bs (X Y : Nat) (f : Bool) (w : World) : Calls Tryz.prog 29 #[.agg (qc X Y f)] w fun e w' => ∃ v,e = .returned v ∧ Ext w w' ∧ ∃ A c,v = .slice A 64 c ∧ 64 ≤ c ∧ Bs w' A (sigB X Y) :=
 (rptb_calls X Y f w).mono fun e w' ⟨g,c,he,_,o,hE⟩ => by
  obtain ⟨A,c2,hv,h1,h2,_⟩:=own_sig o
  exact ⟨_,he,hE,A,c2,hv,h1,h2⟩
def ptO (bs : List Nat) : Array Value:=if onB (sigR bs) (sigS bs) false = true then qc (sigR bs) (sigS bs) false else qc 0 0 false
theorem rparse_bs {A : Option Addr} {c : Nat} {bs : List Nat} (hl : bs.length = 64) (hc : 64 ≤ c) (w : World) (hS : Bs w A bs) :
  Calls Tryz.prog 34 #[.slice A 64 c] w fun e w' => e = .returned (.tuple #[.agg (ptO bs),.bool (onB (sigR bs) (sigS bs) false)]) ∧ Ext w w':=by
 obtain ⟨b,o,rfl,hb,hcl⟩:=hS.2.resolve_left (by omega)
 refine (rparse_64 b o c (fun j => bs.getD j 0) hS.1.getD hc w hb fun j hj => hcl j (by omega)).mono fun e w' ⟨he,hE⟩ => ⟨?_,hE⟩
 rw [he,zgb hS.1 hl,zga hS.1 hl]
 unfold ptO
 cases onB (sigR bs) (sigS bs) false with
 | true => rfl
 | false =>
  rw [← pz_qc]
  rfl
theorem zfz : Tryz.prog.cellsOf 3 = 1:=by kernel_rfl
def Tk.ok (t : Tk) : Prop:=∀ n ∈ t.list,(Lit.int .i64 n).wf = true
theorem lits_int {n : Int} (h : (Lit.int .i64 n).wf = true) (D : Nat) : Tryz.prog.keyLits (D + 1) 3 [.int .i64 n] = some [.int .i64 n]:=by
 unfold Program.keyLits
 simp [Tryz.underlying3,h]
theorem wf_int {n : Int} (h0 : -9223372036854775808 ≤ n) (h1 : n ≤ 9223372036854775807) : (Lit.int .i64 n).wf = true:=by
 show (decide (_ ≤ n) && decide (n ≤ _)) = true
 simp only [Bool.and_eq_true,decide_eq_true_eq]
 exact ⟨h0,h1⟩
/-! ### what the laws ask of the landed package -/
def WfK (l : List Ky) : Prop:=∀ k ∈ l,(Lit.int .i64 k.i).wf = true ∧ (Lit.int .i64 k.a).wf = true ∧ (Lit.int .i64 k.b).wf = true
theorem mayK_wf {l : List Ky} (h : mayK l = true) : WfK l:=fun k hk => by
 obtain ⟨h1,h2,_,_,h5,h6,h7⟩:=mayK_each h k hk
 exact ⟨wf_int (by omega) (by omega),wf_int (by omega) (by omega),wf_int (by omega) (by omega)⟩
theorem zdp : Tryz.prog.cellsOf 55 = 12:=by kernel_rfl
theorem lits_ky {k : Ky} (hi : (Lit.int .i64 k.i).wf = true) (ha : (Lit.int .i64 k.a).wf = true) (hb : (Lit.int .i64 k.b).wf = true) (D : Nat) : Tryz.prog.keyLits (D + 4) 55 (kyC k).toArray.toList = some [.int .i64 k.i,.int .u64 (wd k.x 0),.int .u64 (wd k.x 1),.int .u64 (wd k.x 2),.int .u64 (wd k.x 3),.int .u64 (wd k.y 0),.int .u64 (wd k.y 1),.int .u64 (wd k.y 2),.int .u64 (wd k.y 3),.bool k.f,.int .i64 k.a,.int .i64 k.b]:=by
 have h0:=lits_int hi (D + 2)
 have h2:=lits_int ha (D + 2)
 have h3:=lits_int hb (D + 2)
 have h1:=lits_pt k.x k.y k.f D
 unfold Program.keyLits kyC qc
 simp [Tryz.underlying55,zfj,zfz,zdp] at h0 h1 h2 h3 ⊢
 simp [h0,h1,h2,h3]
theorem eqKy {k : Ky} (h : (Lit.int .i64 k.i).wf = true ∧ (Lit.int .i64 k.a).wf = true ∧ (Lit.int .i64 k.b).wf = true) (w : World) : (binOp .eql 55 (.agg (kyC k).toArray) (.agg (kyC k).toArray)).run Tryz.prog w = .ok (.bool true) w:=by
 rw [run_eql_struct]
 obtain ⟨r,hr,hiff⟩:=run_equalIn_deep (P:=Tryz.prog) 9990 10 55 (by kernel_rfl) w 10000 10000 (.agg (kyC k).toArray) (.agg (kyC k).toArray) _ _ (by simp [Value.formed,Tryz.underlying55,zdp,kyC,qc]) (by simp [Value.formed,Tryz.underlying55,zdp,kyC,qc]) (lits_ky h.1 h.2.1 h.2.2 9996) (lits_ky h.1 h.2.1 h.2.2 9996)
 rw [hr,Result.andThen_ok,hiff.2 rfl]
theorem neKy {k : Ky} (h : (Lit.int .i64 k.i).wf = true ∧ (Lit.int .i64 k.a).wf = true ∧ (Lit.int .i64 k.b).wf = true) (w : World) : (binOp .neq 55 (.agg (kyC k).toArray) (.agg (kyC k).toArray)).run Tryz.prog w = .ok (.bool false) w:=neq_of (eqKy h w) rfl
theorem gKy (k k' : Ky) (op : BinOp) (x y : Operand) (W : World) : (eqGuard op 55 x y (.agg (kyC k).toArray) (.agg (kyC k').toArray)).run Tryz.prog W = .ok () W:=by
 unfold kyC qc
 cases op <;> simp [eqGuard,go_sem]
theorem zes {P : Program} {o : Oper} {a : Act} {ty : TypeId} {x : Operand} {b off : Nat} {cs : List Value} {d : TypeDesc} {W : World} (ho : o.op = .load ty x) (hx : a.eval x = .pointer (some ⟨b,off,none⟩)) (hr : W.rangeAt b off cs)
  (hu : P.underlying ty = some d) (hd : d.isRow = true) (hi : (P.info? ty).map (·.size) = some cs.length) : (execOp a.eval o).run P W = .ok (.value (.agg cs.toArray)) W:=by
 unfold execOp
 simp only [ho,hx,Instr.loadAt,Instr.sureAddr,Sem.run_bind,Sem.run_pure,Result.andThen_ok,run_loadVar_mid W b off ty cs d hr hu hd hi]
theorem Up.range {w : World} {D : World → Prop} (h : Up w D) {b off : Nat} {L : List Value} (hb : b < w.heap.size) (hr : w.rangeAt b off L) (x : Gw D) : x.val.rangeAt b off L:=zbd (h.grown _ x.property) hb hr
theorem zgf (v v' : Value) (l : List Ky) (w : World) (hF : Ks w v l) (hF' : Ks w v' l) (hW : WfK l) (hL : l.length ≤ 1000000000) :
  Calls Tryz.prog 16 #[v,v'] w fun e w' => e = .returned (.bool true) ∧ Ext w w':=by
 obtain ⟨AL,c,rfl,hc,hx⟩:=hF
 obtain ⟨AL',c',rfl,hc',hx'⟩:=hF'
 obtain ⟨n,hn⟩ : ∃ n,n = l.length:=⟨_,rfl⟩
 rw [← hn] at hx hc hL hx' hc' ⊢
 have HX:=veil (And.intro hx (And.intro hx' (And.intro hn hW)))
 clear hx hx' hn hW hc hc'
 go_enter Tryz.func16,Tryz.ntmps16
 go_wp2
 go_loopw [5] (fun v wr => ∃ i : Nat,i ≤ n ∧ v = .int .i64 (i : Int) ∧ Ext w wr)
  (fun v _ => n - (intOf v).toNat)
 case atStart => exact ⟨0,by omega,rfl,Ext.refl _⟩
 case round =>
  obtain ⟨i,hi,rfl,hE⟩:=hrel
  by_cases hlt : i < n
  ·
   have hd1 : decide ((i : Int) < (n : Int)) = true:=by simp; omega
   have hii : (i : Int) < (n : Int):=by omega
   have hil : i < l.length:=by have:=HX.out.2.2.1; omega
   obtain ⟨b,o,hAL,hb,hcl⟩:=HX.out.1.resolve_left (by omega)
   obtain ⟨b',o',hAL',hb',hcl'⟩:=HX.out.2.1.resolve_left (by omega)
   have hwf:=HX.out.2.2.2 (l.getD i ky0) (List.mem_of_getElem? (zcn hil))
   have HR:=veil (And.intro (zbd hE hb (hcl i _ (zcn hil))) (And.intro (zbd hE hb' (hcl' i _ (zcn hil))) (And.intro (Nat.lt_of_lt_of_le hb (Below.size hE)) (Nat.lt_of_lt_of_le hb' (Below.size hE)))))
   generalize l.getD i ky0 = k at *
   have kn:=fun W => neKy hwf W
   have kg:=fun op x y W => gKy k k op x y W
   have HE:=veil hE
   subst hAL hAL'
   clear hcl hcl' hb hb' hwf hE hil
   go_upto_region 6 with (fail)
   refine zcj 9 [(true,[0,1,2,3,4,5,6,7,8])] (by kernel_rfl) (by kernel_rfl) fun Q' hQ' => ?_
   refine' zbc (A:=_) _ rfl (by kernel_rfl) ?_ ?_
   rotate_left
   ·
    intro D hD hN
    simp only [pickI,consO,List.getElem?_cons_zero,List.getElem?_cons_succ]
    iterate 3 (go_big_quiet_step (fail))
    go_big_quiet_want
    refine zdg (.agg (kyC k).toArray) (fun x => zes rfl rfl (hD.range HR.out.2.2.1 HR.out.1 x) Tryz.underlying55 rfl (iKy k)) ?_
    simp only [aP,lA,lZ,lS]
    go_big_quiet_on
    iterate 3 (go_big_quiet_step (fail))
    go_big_quiet_want
    refine zdg (.agg (kyC k).toArray) (fun x => zes rfl rfl (hD.range HR.out.2.2.2 HR.out.2.1 x) Tryz.underlying55 rfl (iKy k)) ?_
    simp only [aP,lA,lZ,lS]
    go_big_quiet_on
    go_big_quiet_step (fail)
    exact zbu
   refine zcb hQ' fun W2 hE2 => ?_
   clear kn kg
   go_wp2
   go_roundw
   case rel => exact ⟨i + 1,by omega,by go_num,HE.out.trans hE2⟩
   case measure => simp [intOf]; omega
  ·
   obtain rfl : i = n:=by omega
   have hd1 : decide ((i : Int) < (i : Int)) = false:=by simp
   go_wp2
   go_ret
   exact ⟨rfl,hE⟩
theorem infoKy96 : (Tryz.prog.info? 55).map (fun i => (i.zero,i.size,i.bytes)) = some (some (.agg #[.int .i64 0,vI vU 0,vI vU 0,vI vU 0,vI vU 0,vI vU 0,vI vU 0,vI vU 0,vI vU 0,.bool false,.int .i64 0,.int .i64 0]),12,96):=by kernel_rfl
theorem bldKy (k : Ky) (W : World) : (Instr.build 55 [(0,.int .i64 k.i),(1,.agg (qc k.x k.y k.f)),(2,.int .i64 k.a),(3,.int .i64 k.b)].toArray).run Tryz.prog W = .ok (.agg (kyC k).toArray) W:=by simp [Instr.build,go_sem,qc,kyC]
theorem bslKy (k : Ky) (W : World) : (Instr.buildSlice 22 1 #[(0,.agg (kyC k).toArray)]).run Tryz.prog W = .ok (.slice (some ⟨W.heap.size,0,none⟩) 1 1) (W.alloc (.cells (kyC k).toArray 55)):=by
 simp [Instr.buildSlice,go_sem,kyC,qc]
abbrev OwnK (w : World) (base : Nat) (v : Value) (l : List Ky) : Prop:=OwnL 12 kyC w base 55 v l
section
variable {ops : Array Oper} {Q : Exit → Act → World → Prop} {rest : List Oper} {a : Act} {w : World} {op : Oper}
theorem wpl_append_ky {s x : Operand} {v : Value} {l ys : List Ky} {base m c : Nat} {A : Option Addr} (hgd : op.guard = none) (hop : op.op = .call { callee:=.builtin .append,args:=#[s,x],argTypes:=#[22,22] })
  (hs : a.eval s = v) (hx : a.eval x = .slice A m c) (o : OwnK w base v l) (hm : m = ys.length) (hy : Ks w (.slice A m c) ys) (hn : l.length + m ≤ 1000000000) (hbase : base ≤ w.heap.size)
  (h : ∀ v' w',OwnK w' base v' (l ++ ys) → w.grownBy w' v.ownBlock → wpList Tryz.prog ops Q rest (a.put op.dst v') w') : wpList Tryz.prog ops Q (op :: rest) a w:=by
 obtain ⟨i,hi,hz,hsz,hby⟩:=zdt infoKy96
 exact wpl_append_ls Tryz.underlying22 hi hz hsz hby rfl (by decide) zbx kyC_one hgd hop hs hx o hm hy (by unfold maxLen; omega) (by omega) hbase h
end
theorem zgg {P : Program} {ops : Array Oper} {Q : Exit → Act → World → Prop} {rest : List Oper} {a : Act} {w : World} {o : Oper} {t e : TypeId} {len : Nat} {ps : List (Nat × Operand)} {vs : List (Nat × Value)} {C : Array Value} (hg : o.guard = none) (hop : o.op = .buildSlice t len ps.toArray)
  (hv : ps.map (fun (i,x) => (i,a.eval x)) = vs) (hb : (Instr.buildSlice t len vs.toArray).run P w = .ok (.slice (some ⟨w.heap.size,0,none⟩) len len) (w.alloc (.cells C e)))
  (h : wpList P ops Q rest (a.put o.dst (.slice (some ⟨w.heap.size,0,none⟩) len len)) (w.alloc (.cells C e))) : wpList P ops Q (o :: rest) a w:=by
 refine wpList_plain hg fun K hK => ?_
 unfold Oper.wp execOp
 simp only [hop,List.map_toArray]
 rw [show ps.map (fun x => match x with | (i,x) => (i,a.eval x)) = vs from hv]
 simp only [Sem.run_bind,hb,Result.andThen_ok,Sem.run_pure]
 exact hK _ _ h
theorem OwnK.ks {w : World} {base : Nat} {v : Value} {l : List Ky} (o : OwnK w base v l) : Ks w v l:=OwnL.ls zbx o
/-! ### the keys of fields,one by one -/
theorem keysF_no {fs : List Fd} {pre : List Ky} {i : Nat} (hi : i < fs.length) (h : keysF 1 fs = (keysF ((i : Int) + 1) (fs.drop i)).map (pre ++ ·)) (hn : ¬ (tgF fs i = (i : Int) + 1 ∧ (keyOf (bsF fs i)).isSome = true)) : keysF 1 fs = none:=by
 have e : fs.drop i = (tgF fs i,bsF fs i) :: fs.drop (i + 1):=by
  rw [List.drop_eq_getElem_cons hi]
  congr 1
  unfold tgF bsF
  rw [List.getD_eq_getElem?_getD,List.getElem?_eq_getElem hi]
  rfl
 rw [h,e]
 show Option.map _ (if tgF fs i = _ then _ else none) = none
 by_cases ht : tgF fs i = (i : Int) + 1
 ·
  rw [if_pos ht]
  have hk : keyOf (bsF fs i) = none:=by
   cases hx : keyOf (bsF fs i) with
   | none => rfl
   | some k => exact absurd ⟨ht,by rw [hx]; rfl⟩ hn
  show Option.map _ ((keyOf (bsF fs i)).bind _) = none
  rw [hk]
  rfl
 ·
  rw [if_neg ht]
  rfl
theorem keysF_yes {fs : List Fd} {pre : List Ky} {i : Nat} {k : Ky} (hi : i < fs.length) (h : keysF 1 fs = (keysF ((i : Int) + 1) (fs.drop i)).map (pre ++ ·)) (ht : tgF fs i = (i : Int) + 1) (hk : keyOf (bsF fs i) = some k) : keysF 1 fs = (keysF (((i + 1 : Nat) : Int) + 1) (fs.drop (i + 1))).map ((pre ++ [k]) ++ ·):=by
 have e : fs.drop i = (tgF fs i,bsF fs i) :: fs.drop (i + 1):=by
  rw [List.drop_eq_getElem_cons hi]
  congr 1
  unfold tgF bsF
  rw [List.getD_eq_getElem?_getD,List.getElem?_eq_getElem hi]
  rfl
 rw [h,e]
 show Option.map _ (if tgF fs i = _ then (keyOf (bsF fs i)).bind _ else none) = _
 rw [if_pos ht,hk,Option.bind_some,show ((i + 1 : Nat) : Int) + 1 = (i : Int) + 1 + 1 by omega]
 cases keysF ((i : Int) + 1 + 1) (fs.drop (i + 1)) with
 | none => rfl
 | some x => simp
theorem keysF_end {fs : List Fd} {pre : List Ky} (h : keysF 1 fs = (keysF ((fs.length : Int) + 1) (fs.drop fs.length)).map (pre ++ ·)) : keysF 1 fs = some pre:=by
 rw [h,List.drop_length]
 simp [keysF]
theorem keysOf_get {bs : List Nat} {fs : List Fd} (h : getFs bs = some fs) : keysOf bs = (keysF 1 fs).filter mayK:=by
 unfold keysOf
 rw [h]
 rfl
theorem keyOf_none {D : List Nat} (h : ¬ (D.length = 88 ∧ onB (sigR ((D.drop 8).take 64)) (sigS ((D.drop 8).take 64)) false = true ∧ 0 ≤ ofB (D.take 8) ∧ 0 ≤ ofB ((D.drop 72).take 8) ∧ 0 ≤ ofB (D.drop 80))) : (keyOf D).isSome = true → False:=by
 unfold keyOf
 rw [if_neg h]
 intro h
 cases h
theorem onB_top {x y : Nat} (h : onB x y false = true) : x < top ∧ y < top:=by
 have e : (256 : Nat) ^ 32 = top:=by decide +kernel
 have:=onB_lt h
 rwa [e] at this
theorem zhc (v : Value) (l : List Ky) (w : World) (hF : Ks w v l) (hT : TopK l) (hL : l.length ≤ 1000000000) :
  Calls Tryz.prog 8 #[v] w fun e w' => e = .returned (.bool (mayK l)) ∧ Ext w w':=by
 obtain ⟨AL,c,rfl,hc,hx⟩:=hF
 obtain ⟨R,hR⟩ : ∃ R,R = mayK l:=⟨_,rfl⟩
 rw [← hR]
 obtain ⟨n,hn⟩ : ∃ n,n = l.length:=⟨_,rfl⟩
 rw [← hn] at hx hc ⊢
 have HR:=veil (And.intro hR (And.intro hn (And.intro hL hT)))
 have HX:=veil hx
 have hnL : n ≤ 1000000000:=by omega
 clear hR hx hn hL hT
 go_enter Tryz.func8,Tryz.ntmps8
 go_wp2
 go_loopw [3] (fun v wr => ∃ i : Nat,i ≤ n ∧ v = .int .i64 (i : Int) ∧ (∀ j,j < i → okK l j) ∧ Ext w wr)
  (fun v _ => n - (intOf v).toNat)
 case atStart => exact ⟨0,by omega,rfl,fun j hj => by omega,Ext.refl _⟩
 case round =>
  obtain ⟨i,hi,rfl,hall,hE⟩:=hrel
  by_cases hlt : i < n
  ·
   have hd1 : decide ((i : Int) < (n : Int)) = true:=by simp; omega
   have hii : (i : Int) < (n : Int):=by omega
   obtain ⟨b,o,hAL,hb,hcl⟩:=HX.out.resolve_left (by omega)
   have hil : i < l.length:=by have:=HR.out.2.1; omega
   have hgi : l[i]? = some (l.getD i ky0):=by rw [List.getD_eq_getElem?_getD,List.getElem?_eq_getElem hil]; rfl
   have HRG:=veil (zbd hE hb (hcl i _ hgi))
   obtain ⟨k,hk⟩ : ∃ k,k = l.getD i ky0:=⟨_,rfl⟩
   rw [← hk] at HRG
   have hkt:=HR.out.2.2.2 (l.getD i ky0) (List.mem_of_getElem? hgi)
   rw [← hk] at hkt
   have KO:=veil (fun W => show Calls Tryz.prog 21 #[.agg (qc k.x k.y k.f)] W (fun e w' => e = .returned (.bool (onB k.x k.y k.f)) ∧ Ext W w') from ron_calls k.x k.y k.f hkt.1 hkt.2 W)
   have hfalse : ∀ h : ¬ okK l i,R = false:=fun h => HR.out.1.trans (mayK_false hil h)
   have HK:=veil (And.intro hk (And.intro hall hfalse))
   have HP:=veil (And.intro hb hcl)
   clear hk hall hfalse hkt hgi hb hcl
   subst hAL
   go_upto_region 5 with (first
    | ((with_reducible refine zah 15 ?_); refine wpList_load_mid rfl 55 _ rfl b _ rfl (kyC k) _ HRG.out Tryz.underlying55 rfl (iKy k) ?_)
    | ((with_reducible refine zah 4 ?_); refine zcu _ _ rfl rfl rfl rfl rfl rfl hzKy (fun _ => rfl) (fun _ => rfl) (iKyA k) (zfd k) (zfw k) ?_; intro g W hg hW hEW))
   have HW:=veil (And.intro (zcr hW) (hE.trans hEW))
   clear hW hEW
   go_upto_region 6 with (first
    | ((with_reducible refine zah 17 ?_); refine wpList_load_mid rfl 29 _ rfl g 1 rfl _ _ (ky_q HW.out.1) Tryz.underlying29 rfl (iT k.x k.y k.f) ?_)
    | (go_at_call 21; refine (KO.out _).mono ?_; rintro e w2 ⟨rfl,hE2⟩))
   have hrg:=fun j u (hu : (kyC k)[j]? = some u) => zbd hE2 (World.block_lt_of_cell? _ _ (ky_i HW.out.1)) HW.out.1 j u hu
   have hEE:=HW.out.2.trans hE2
   have HH:=veil (And.intro hrg hEE)
   have c0:=ky_i HH.out.1
   have c9:=ky_f HH.out.1
   have c10:=ky_a HH.out.1
   have c11:=ky_b HH.out.1
   simp only [Nat.zero_add] at c9 c10 c11
   clear hrg hE2 KO HW HRG hEE hE
   have hpc : 0 < i → w2.cell? ⟨b,o + (i - 1) * 12,none⟩ = some (.int .i64 (l.getD (i - 1) ky0).i):=fun h0 => by
    have hl2 : i - 1 < l.length:=by omega
    have:=zbd HH.out.2 HP.out.1 (HP.out.2 (i - 1) (l.getD (i - 1) ky0) (by rw [List.getD_eq_getElem?_getD,List.getElem?_eq_getElem hl2]; rfl))
    exact ky_i this
   have HPC:=veil hpc
   clear hpc
   obtain ⟨ki,hki⟩ : ∃ z,z = k.i:=⟨_,rfl⟩
   obtain ⟨kf,hkf⟩ : ∃ z,z = k.f:=⟨_,rfl⟩
   obtain ⟨ka,hka⟩ : ∃ z,z = k.a:=⟨_,rfl⟩
   obtain ⟨kb,hkb⟩ : ∃ z,z = k.b:=⟨_,rfl⟩
   obtain ⟨on,hon⟩ : ∃ z,z = onB k.x k.y k.f:=⟨_,rfl⟩
   rw [← hki] at c0
   rw [← hkf] at c9
   rw [← hka] at c10
   rw [← hkb] at c11
   rw [← hon]
   have HV:=veil (And.intro hki (And.intro hkf (And.intro hka (And.intro hkb hon))))
   clear hki hkf hka hkb hon hil
   have hno : ∀ (p : okK l i → False),R = false:=fun p => HK.out.2.2 p
   have HN:=veil hno
   clear hno
   by_cases g0 : ki < 1
   ·
    have hd2 : decide (ki < 1) = true:=decide_eq_true g0
    have e : R = false:=HN.out fun h => by
     unfold okK at h
     rw [← HK.out.1] at h
     have h1:=h.1
     rw [← HV.out.1] at h1
     omega
    subst e
    go_quiet (fail)
    go_wp2
    go_ret
    exact ⟨rfl,HH.out.2.trans (Ext.drewK _ _)⟩
   ·
    have hd2 : decide (ki < 1) = false:=decide_eq_false g0
    by_cases g1 : 2147483647 < ki
    ·
     have hd3 : decide (2147483647 < ki) = true:=decide_eq_true g1
     have e : R = false:=HN.out fun h => by
      unfold okK at h
      rw [← HK.out.1] at h
      have h1:=h.2.1
      rw [← HV.out.1] at h1
      omega
     subst e
     go_quiet (fail)
     go_wp2
     go_ret
     exact ⟨rfl,HH.out.2.trans (Ext.drewK _ _)⟩
    ·
     have hd3 : decide (2147483647 < ki) = false:=decide_eq_false g1
     cases on with
     | false =>
      have e : R = false:=HN.out fun h => by
       unfold okK at h
       rw [← HK.out.1] at h
       have h1:=h.2.2.1
       rw [← HV.out.2.2.2.2] at h1
       cases h1
      subst e
      go_quiet (fail)
      go_wp2
      go_ret
      exact ⟨rfl,HH.out.2.trans (Ext.drewK _ _)⟩
     | true =>
      cases kf with
      | true =>
       have e : R = false:=HN.out fun h => by
        unfold okK at h
        rw [← HK.out.1] at h
        have h1:=h.2.2.2.1
        rw [← HV.out.2.1] at h1
        cases h1
       subst e
       go_quiet (fail)
       go_wp2
       go_ret
       exact ⟨rfl,HH.out.2.trans (Ext.drewK _ _)⟩
      | false =>
       by_cases g4 : ka < 0
       ·
        have hd6 : decide (ka < 0) = true:=decide_eq_true g4
        have e : R = false:=HN.out fun h => by
         unfold okK at h
         rw [← HK.out.1] at h
         have h1:=h.2.2.2.2.1
         rw [← HV.out.2.2.1] at h1
         omega
        subst e
        go_quiet (fail)
        go_wp2
        go_ret
        exact ⟨rfl,HH.out.2.trans (Ext.drewK _ _)⟩
       ·
        have hd6 : decide (ka < 0) = false:=decide_eq_false g4
        by_cases g5 : kb < ka
        ·
         have hd7 : decide (kb < ka) = true:=decide_eq_true g5
         have e : R = false:=HN.out fun h => by
          unfold okK at h
          rw [← HK.out.1] at h
          have h1:=h.2.2.2.2.2.1
          rw [← HV.out.2.2.1,← HV.out.2.2.2.1] at h1
          omega
         subst e
         go_quiet (fail)
         go_wp2
         go_ret
         exact ⟨rfl,HH.out.2.trans (Ext.drewK _ _)⟩
        ·
         have hd7 : decide (kb < ka) = false:=decide_eq_false g5
         by_cases g6 : 1073741824 < kb
         ·
          have hd8 : decide (1073741824 < kb) = true:=decide_eq_true g6
          have e : R = false:=HN.out fun h => by
           unfold okK at h
           rw [← HK.out.1] at h
           have h1:=h.2.2.2.2.2.2.1
           rw [← HV.out.2.2.2.1] at h1
           omega
          subst e
          go_quiet (fail)
          go_wp2
          go_ret
          exact ⟨rfl,HH.out.2.trans (Ext.drewK _ _)⟩
         ·
          have hd8 : decide (1073741824 < kb) = false:=decide_eq_false g6
          by_cases g7 : i = 0
          ·
           have hd9 : decide (0 < i) = false:=by simp; omega
           have hd9' : decide ((0 : Int) < (i : Int)) = false:=by simp; omega
           have G:=veil g7
           clear g7
           go_quiet (fail)
           go_wp2
           go_roundw
           case rel =>
            refine ⟨i + 1,by omega,by go_num,fun j hj => ?_,HH.out.2.trans (Ext.drewK _ _)⟩
            obtain rfl : j = i:=by have:=G.out; omega
            unfold okK
            rw [← HK.out.1,← HV.out.1,← HV.out.2.1,← HV.out.2.2.1,← HV.out.2.2.2.1,HV.out.2.1,← HV.out.2.2.2.2,← HV.out.2.1]
            exact ⟨by omega,by omega,rfl,rfl,by omega,by omega,by omega,fun h => absurd h (by have:=G.out; omega)⟩
           case measure => simp [intOf]; omega
          ·
           have hd9 : decide (0 < i) = true:=by simp; omega
           have hd9' : decide ((0 : Int) < (i : Int)) = true:=by simp; omega
           have cp:=HPC.out (by omega)
           obtain ⟨z,hz⟩ : ∃ z,z = (l.getD (i - 1) ky0).i:=⟨_,rfl⟩
           rw [← hz] at cp
           have hki2 : (i : Int) - 1 = ((i - 1 : Nat) : Int):=by omega
           obtain ⟨m,hm⟩ : ∃ m,m = i - 1:=⟨_,rfl⟩
           rw [← hm] at cp hki2
           have hmn : (m : Int) < (n : Int):=by omega
           have HZ:=veil (And.intro hz hm)
           clear hz hm
           by_cases g8 : ki ≤ z
           ·
            have hd10 : decide (ki ≤ z) = true:=decide_eq_true g8
            have e : R = false:=HN.out fun h => by
             unfold okK at h
             rw [← HK.out.1] at h
             have h1:=h.2.2.2.2.2.2.2 (by omega)
             rw [← HV.out.1,← HZ.out.1] at h1
             omega
            subst e
            go_quiet (fail)
            go_wp2
            go_ret
            exact ⟨rfl,HH.out.2.trans (Ext.drewK _ _)⟩
           ·
            have hd10 : decide (ki ≤ z) = false:=decide_eq_false g8
            go_quiet (fail)
            go_wp2
            go_roundw
            case rel =>
             refine ⟨i + 1,by omega,by go_num,fun j hj => ?_,HH.out.2.trans (Ext.drewK _ _)⟩
             by_cases e : j = i
             ·
              subst e
              unfold okK
              rw [← HK.out.1,← HV.out.1,← HV.out.2.1,← HV.out.2.2.1,← HV.out.2.2.2.1,HV.out.2.1,← HV.out.2.2.2.2,← HV.out.2.1]
              exact ⟨by omega,by omega,rfl,rfl,by omega,by omega,by omega,fun _ => by rw [← HZ.out.1]; omega⟩
             ·
              exact HK.out.2.1 j (by omega)
            case measure => simp [intOf]; omega
  ·
   obtain rfl : i = n:=by omega
   have e : R = decide ((i : Int) ≤ 32):=by
    rw [HR.out.1,mayK_len (by rw [← HR.out.2.1]; exact hall),← HR.out.2.1]
    by_cases h : i ≤ 32
    ·
     rw [decide_eq_true h,decide_eq_true (by omega)]
    ·
     rw [decide_eq_false h,decide_eq_false (by omega)]
   have HE:=veil e
   clear hall e
   go_wp2
   go_ret
   exact ⟨by rw [HE.out]; rfl,hE⟩
theorem infoTG : (Tryz.prog.info? 5).map (fun i => (i.zero,i.size,i.bytes)) = some (some (.int .u8 0),1,1):=by kernel_rfl
theorem put_no (v : Value) (fs : List Fd) (w : World) (hF : Fl w v fs) (hL : fs.length ≤ 1000000000) (hM : mayFs fs = false) :
  Calls Tryz.prog 27 #[v] w fun e w' => e = .returned (.tuple #[.slice none 0 0,.iface 39 (.int .i64 1)]) ∧ Ext w w':=by
 have KM:=veil (zdm v fs w hF hL)
 rw [hM] at KM
 clear hF hL hM
 go_enter Tryz.func27,Tryz.ntmps27
 go_wp2_with (go_at_call 51; refine KM.out.mono ?_; rintro e w1 ⟨rfl,hE1⟩)
 go_ret2
 exact ⟨rfl,hE1⟩
theorem put_yes (v : Value) (fs : List Fd) (w : World) (hF : Fl w v fs) (hM : mayFs fs = true) :
  Calls Tryz.prog 27 #[v] w fun e w' => ∃ A c,e = .returned (.tuple #[.slice A (encF fs).length c,.nilIface]) ∧ (encF fs).length ≤ c ∧ Bs w' A (encF fs) ∧ Ext w w':=by
 have h64:=zec hM
 have KM:=veil (zdm v fs w hF (by omega))
 rw [hM] at KM
 have HF:=veil hF
 obtain ⟨hB,AL,c,rfl,hc,hx⟩:=hF
 obtain ⟨n,hn⟩ : ∃ n,n = fs.length:=⟨_,rfl⟩
 rw [← hn] at hx hc KM HF ⊢
 have HR:=veil (And.intro hn (And.intro hM hB))
 have HX:=veil hx
 have hnL : n ≤ 64:=by omega
 clear hx hB hn hM h64
 go_enter Tryz.func27,Tryz.ntmps27
 go_upto_region 3 with (go_at_call 51; refine KM.out.mono ?_; rintro e w1 ⟨rfl,hE1⟩)
 have KS:=veil (sizeOf_calls _ fs w1 (HF.out.ext hE1) HR.out.2.1)
 have HE1:=veil hE1
 have hle:=zdc HR.out.2.1 fs.length
 rw [List.take_length] at hle
 obtain ⟨S,hS⟩ : ∃ S,S = (encF fs).length:=⟨_,rfl⟩
 rw [← hS] at KS hle
 obtain ⟨i8,hi8,hz0,hz1,hz2⟩:=info_parts infoTG
 have HI:=veil (And.intro hi8 (And.intro hz0 (And.intro hz1 hz2)))
 clear hE1 KM hi8 hz0 hz1 hz2 hS
 go_upto_region 4 with (first
  | (go_at_call 52; refine KS.out.mono ?_; rintro e w2 ⟨rfl,hE2⟩)
  | ((with_reducible refine zah 14 ?_); refine wpList_make_own _ rfl _ _ 33 rfl w.heap.size 5 i8 (.int .u8 0) 1 Tryz.underlying33 HI.out.1 HI.out.2.1 HI.out.2.2.1 .i64 .i64 _ S rfl rfl rfl (by rw [HI.out.2.2.2]; omega) (by unfold maxLen; omega) (Below.size (HE1.out.trans hE2)) ?_; intro w3 hO3 hG3))
 have hE3 : Ext w w3:=(HE1.out.trans hE2).grown hG3 (Below.size (HE1.out.trans hE2)) fun k hk => by cases hk
 have hO : OwnB w3 w.heap.size (.slice (some ⟨w2.heap.size,0,none⟩) 0 S) []:=⟨(fun _ h => by cases h),hO3⟩
 clear hO3 hG3 hE2
 go_wp2
 go_loopw [4,17] (fun s v wr => ∃ i : Nat,i ≤ n ∧ OwnB wr w.heap.size s (encF (fs.take i)) ∧ v = .int .i64 (i : Int) ∧ Ext w wr)
  (fun _ v _ => n - (intOf v).toNat)
 case atStart => exact ⟨0,by omega,hO,rfl,hE3⟩
 case round =>
  obtain ⟨i,hi,hO,rfl,hE⟩:=hrel
  by_cases hlt : i < n
  ·
   have hd1 : decide ((i : Int) < (n : Int)) = true:=by simp; omega
   have hii : (i : Int) < (n : Int):=by omega
   have hok:=mayFs_ok HR.out.2.1 (by have:=HR.out.1; omega : i < fs.length)
   have hst:=encF_take fs (by have:=HR.out.1; omega : i < fs.length)
   have hle:=zdc HR.out.2.1 i
   obtain ⟨b,o,hAL,hb,hcl⟩:=HX.out.resolve_left (by omega)
   obtain ⟨h1,A,c',h2,h3,h4⟩:=hcl i hlt
   have c0:=(hE.cell hb).trans h1
   have c1:=(hE.cell hb).trans h2
   have hBS:=h4
   have hT1:=hok.1
   have hT2:=hok.2.1
   have hL1:=hok.2.2.1
   have HS:=veil (And.intro hst (And.intro hle hO))
   clear hcl h1 h2 hok hst hle h4 hO
   generalize tgF fs i = T at *
   generalize bsF fs i = D0 at *
   obtain ⟨L,hL⟩ : ∃ L,L = D0.length:=⟨_,rfl⟩
   rw [← hL] at c1 hL1 h3
   have HD:=veil (And.intro hL hBS)
   have HRG:=veil (rng_fd c0 c1)
   clear c0 c1 hL hBS
   have hL2 : (L : Int) ≤ 65535:=by omega
   subst hAL
   go_upto_region 7 with (first
    | ((with_reducible refine zah 20 ?_); refine wpList_load_mid rfl 64 _ rfl b _ rfl _ _ HRG.out Tryz.underlying64 rfl infoF2 ?_)
    | ((with_reducible refine zah 6 ?_); refine zcu _ _ rfl rfl rfl rfl rfl rfl hzF (fun _ => rfl) (fun _ => rfl) infoF2 rfl one_fd ?_; intro g W hg hW hEW))
   have hEE:=hE.trans hEW
   have HW:=veil (And.intro hW (And.intro hEE hEW))
   obtain ⟨d0,d1⟩:=zfk hW
   clear hW hEW hE hEE
   go_upto_region 9 with ((with_reducible refine zah 34 ?_); refine zaz _ rfl _ _ 33 rfl w.heap.size 5 i8 (.int .u8 0) 1 Tryz.underlying33 HI.out.1 HI.out.2.1 HI.out.2.2.1 HI.out.2.2.2 rfl _ _ _ rfl (HS.out.2.2.ext (HW.out.2.2.trans (Ext.alloc W _))).2 (some ⟨W.heap.size,0,none⟩) 3 3 rfl _ (hdr3 (zag W _) hT1 hT2 hL1 HD.out.1).from (fun _ => rfl) (by unfold maxLen; have:=HS.out.2.1; omega) (by have:=HS.out.2.1; omega) (Nat.le_trans (Below.size HW.out.2.1) (Below.size (Ext.alloc W _))) ?_; intro v6 w6 hO6 hG6 _)
   have hEa:=HW.out.2.1.trans (Ext.alloc W (.cells #[.int .u8 T,.int .u8 ((L : Int) / 256),.int .u8 ((L : Int) % 256)] 5))
   have hE6 : Ext w w6:=hEa.grown hG6 (Below.size hEa) fun k hk => (HS.out.2.2.2.lt hk).1
   have hgl : g < (W.alloc (.cells #[.int .u8 T,.int .u8 ((L : Int) / 256),.int .u8 ((L : Int) % 256)] 5)).heap.size:=Nat.lt_of_lt_of_le (Array.getElem?_eq_some_iff.1 HW.out.1).1 (Below.size (Ext.alloc W _))
   have hg6 : w6.heap[g]? = some (.cells #[.int .i64 T,.slice A L c'] 64 (0,0)):=(hG6.block g hgl fun hk => by have:=(HS.out.2.2.2.lt hk.symm).2; omega).trans ((Ext.alloc W _).block HW.out.1)
   have hO7 : OwnB w6 w.heap.size v6 (encF (fs.take i) ++ hdr (T,D0)):=OwnB.append hO6 HS.out.2.2.1 (hdr_byt _) rfl rfl
   obtain ⟨e0,e1⟩:=zfk hg6
   have hl3 : (encF (fs.take i) ++ hdr (T,D0)).length ≤ 4194435:=by rw [List.length_append]; have:=HS.out.2.1; show _ + 3 ≤ _; omega
   have H7:=veil (And.intro hO7 (And.intro hE6 (And.intro hg6 hl3)))
   have hfr:=(HD.out.2.ext hE6).from
   rw [← HD.out.1] at hfr
   have HFR:=veil hfr
   clear hO6 hG6 hEa hgl hg6 hO7 d0 d1 hl3 hfr hE6
   go_wp2_with ((with_reducible refine zah 38 ?_); refine zaz _ rfl _ _ 33 rfl w.heap.size 5 i8 (.int .u8 0) 1 Tryz.underlying33 HI.out.1 HI.out.2.1 HI.out.2.2.1 HI.out.2.2.2 rfl _ _ _ rfl H7.out.1.2 A L c' rfl _ HFR.out (fun _ => rfl) (by unfold maxLen; have:=H7.out.2.2.2; omega) (by have:=H7.out.2.2.2; omega) (Below.size H7.out.2.1) ?_; intro v8 w8 hO8 hG8 _)
   have hE8 : Ext w w8:=H7.out.2.1.grown hG8 (Below.size H7.out.2.1) fun k hk => (H7.out.1.2.lt hk).1
   have hO9 : OwnB w8 w.heap.size v8 (encF (fs.take i) ++ hdr (T,D0) ++ D0):=OwnB.append hO8 H7.out.1.1 HD.out.2.1 rfl HD.out.1
   rw [List.append_assoc] at hO9
   clear hO8 hG8
   go_roundw
   case rel => exact ⟨i + 1,by omega,by rw [HS.out.1]; exact hO9,by go_num,hE8⟩
   case measure => simp [intOf]; omega
  ·
   obtain rfl : i = n:=by omega
   have e : encF (fs.take i) = encF fs:=by rw [HR.out.1,List.take_length]
   rw [e] at hO
   obtain ⟨A,c2,rfl,hc2,hB2⟩:=hO.bs
   clear hO
   go_wp2
   go_ret2
   exact ⟨A,c2,rfl,hc2,hB2,hE⟩
theorem szB_long {D : List Nat} (h0 : 0 < D.length) (h : D.length < szB D) : parse D = none:=by
 unfold szB at h
 by_cases h3 : D.length < 3
 ·
  exact parse_two h3 h0
 ·
  rw [if_neg h3] at h
  have:=parse_long (bs:=D) (a:=0) (n:=256 * D.getD 1 0 + D.getD 2 0) (by omega) rfl (by omega)
  rwa [List.drop_zero] at this
theorem szB_3 {D : List Nat} (h : szB D ≤ D.length) : 3 ≤ D.length:=by
 unfold szB at h
 by_cases h3 : D.length < 3
 ·
  rw [if_pos h3] at h; omega
 ·
  omega
theorem szB_ge (D : List Nat) : 3 ≤ szB D:=by unfold szB; split <;> omega
theorem szB_step {D : List Nat} {N : Nat} (hN : szB D = 3 + N) (h3 : 3 ≤ D.length) (h : 3 + N ≤ D.length) :
  parse D = (parse (D.drop (3 + N))).map ((((D.getD 0 0 : Nat) : Int),(D.drop 3).take N) :: ·):=by
 unfold szB at hN
 rw [if_neg (by omega)] at hN
 have:=parse_more (bs:=D) (a:=0) (n:=N) (by omega) (by show N = 256 * D.getD 1 0 + D.getD 2 0; omega) (by omega)
 rwa [List.drop_zero,Nat.zero_add] at this
theorem get_of_false {bs D : List Nat} {fs : List Fd} (h : parse bs = (parse D).map (fs ++ ·)) (hl : 64 < fs.length) : getFs bs = none:=by
 rw [zbp,h]
 cases parse D with
 | none => rfl
 | some x =>
  have hm : mayFs (fs ++ x) = false:=decide_eq_false fun hh => by have:=hh.1; rw [List.length_append] at this; omega
  simp [hm]
def lenV : Value → Nat
 | .slice _ n _ => n
 | _ => 0
theorem zck {P : Program} {o : Oper} {a : Act} {t : TypeId} {x z : Operand} {v v' vz : Value} {W : World} (ho : o.op = .slice t x (some z) none none) (hx : a.eval x = v) (hz : a.eval z = vz)
  (h : (Instr.sliceAt t v (some vz) none none).run P W = .ok v' W) : (execOp a.eval o).run P W = .ok (.value v') W:=by
 unfold execOp
 simp only [ho,hx,hz,Option.map_some,Option.map_none,Sem.run_bind,h,Result.andThen_ok,Sem.run_pure]
theorem zfx (A : Option Addr) (r c m : Nat) (hm : m ≤ r) (w : World) {y : Int} (hy : y = (m : Int)) : (Instr.sliceAt 33 (.slice A r c) (some (.int .i64 y)) none none).run Tryz.prog w = .ok (.slice (cutA A m c) (r - m) (c - m)) w:=by
 subst hy
 exact zhm A r c m hm w
theorem bs_drop {w : World} {A : Option Addr} {D : List Nat} {c : Nat} (h : Bs w A D) (m : Nat) (hm : m ≤ D.length) (hc : D.length ≤ c) : Bs w (cutA A m c) (D.drop m):=by
 have:=h.cut m (n:=D.length - m) (by omega) hc
 rwa [List.take_of_length_le (by rw [List.length_drop]; omega)] at this
theorem zdf {P : Program} {Q : Exit → Act → World → Prop} {l : List Oper} {n k i d : Nat} {r : Sched} {a : Act} {w : World} {xs : List Operand} {ts : Array TypeId} {args : List Value} {R : Value → World → Prop} (o : Oper) (ho : l[i]? = some o) (hg : o.guard = none) (hd : o.dst = some d)
  (hop : o.op = .call { callee:=.value (.func k),args:=xs.toArray,argTypes:=ts }) (hx : xs.map a.eval = args)
  (he : ∀ W,(callFunc k args.toArray).run P W = .ok (.enter k args.toArray) W) (hc : ∀ W,Ext w W → Calls P k args.toArray W fun e W' => ∃ v,e = .returned v ∧ Ext W W' ∧ R v W')
  (h : ∀ v W,Ext w W → R v W → wpSched P l Q n r (a.put (some d) v) W) : wpSched P l Q n ((false,[i]) :: r) a w:=by
 refine zdy o ho hg fun W hW => ?_
 have h1 : execOp a.eval o = callFunc k (#[] ++ xs.toArray.map a.eval ++ #[]):=by
  cases o
  subst hop
  rfl
 have h2 : (execOp a.eval o).run P W = .ok (.enter k args.toArray) W:=by
  rw [h1,List.map_toArray,hx]
  simpa using he W
 unfold Oper.wp
 rw [h2,Oper.upon_enter]
 refine (hc W hW).mono ?_
 rintro e W' ⟨v,rfl,hE,hR⟩
 show (i < n → Ext W W') ∧ _
 rw [hd]
 exact ⟨fun _ => hE,h v W' (hW.trans hE) hR⟩
theorem zce {P : Program} {f : FuncId} {fn : Func} {c : Code} (hf : P.funcs[f]? = some fn) (hname : (fn.name == "runtime.NumGoroutine") = false) (hb : fn.body = some c) (args : Array Value) (w : World) :
  (callFunc f args).run P w = .ok (.enter f args) w:=by
 have hn : ¬ fn.name = "runtime.NumGoroutine":=by simpa using hname
 simp [callFunc,go_sem,hf,hb,hn]
theorem get8_calls (A : Option Addr) (m c : Nat) (bs : List Nat) (hm : m = bs.length) (hmc : m ≤ c) (hle : m ≤ 100000000) (w : World) (hS : Bs w A bs) :
  Calls Tryz.prog 31 #[.slice A m c] w fun e w' => ∃ x ev,e = .returned (.tuple #[x,ev]) ∧ Ext w w' ∧ GetA w' bs x ev:=by
 have HS:=veil (And.intro hm (And.intro hmc (And.intro hS hle)))
 clear hS hm hmc hle
 go_enter Tryz.func31,Tryz.ntmps31
 go_wp2
 go_loopw [0,4] (fun s v wr => ∃ (A : Option Addr) (m c : Nat) (D : List Nat) (fs : List Fd),s = .slice A m c ∧ m = D.length ∧ m ≤ c ∧ m ≤ 100000000 ∧ Bs w A D ∧ OwnFs wr w.heap.size v fs ∧ fs.length ≤ 65 ∧ parse bs = (parse D).map (fs ++ ·) ∧ Ext w wr)
  (fun s _ _ => lenV s)
 case atStart => exact ⟨A,m,c,bs,[],rfl,HS.out.1,HS.out.2.1,HS.out.2.2.2,HS.out.2.2.1,OwnFs.nil _ _,by simp,by simp,Ext.refl _⟩
 case round =>
  obtain ⟨A,m,c,D,fs,rfl,hm,hmc,hle,hB,hO,hfl,hpar,hE⟩:=hrel
  have HO:=veil (And.intro hO (And.intro hfl hpar))
  have HB:=veil (And.intro hm (And.intro hB hmc))
  obtain ⟨AL,cl,hv,hcl,_⟩:=hO.fl.2
  obtain ⟨k,hk⟩ : ∃ k,k = fs.length:=⟨_,rfl⟩
  rw [← hk] at hv hcl hfl
  have HK:=veil hk
  clear hO hpar hm hB hk
  have KM:=veil (zdm _ fs wr HO.out.1.fl (by have:=HK.out; omega))
  subst hv
  by_cases hlt : 0 < m
  ·
   have hd1 : decide ((0 : Int) < (m : Int)) = true:=by simp; omega
   have hd1' : decide (0 < m) = true:=by simp; omega
   by_cases hk : (k : Int) ≤ 64
   ·
    have hd2 : decide ((k : Int) ≤ 64) = true:=decide_eq_true hk
    have KZ:=veil (sizeFirst_calls A m c D HB.out.1 wr (HB.out.2.1.ext hE))
    have HZ3:=szB_ge D
    obtain ⟨N,hN⟩ : ∃ N,szB D = 3 + N:=⟨szB D - 3,by omega⟩
    rw [hN] at KZ
    have HN:=veil hN
    clear HZ3 hN
    go_upto_region 4 with (go_at_call 54; refine KZ.out.mono ?_; rintro e w1 ⟨rfl,hE1⟩)
    have HE1:=veil (hE.trans hE1)
    have hO1:=HO.out.1.keep hE1
    have HO1:=veil hO1
    clear hO1 KM hE1 KZ
    by_cases h4 : m < 3 + N
    ·
     have hd3 : decide ((m : Int) < 3 + (N : Int)) = true:=by simp; omega
     have hn : getFs bs = none:=by
      rw [zbp,HO.out.2.2,szB_long (by have:=HB.out.1; omega) (by have:=HB.out.1; rw [HN.out]; omega)]
      rfl
     go_wp2
     go_ret2
     exact ⟨_,_,rfl,HE1.out,.inl ⟨hn,⟨none,0,rfl⟩,rfl⟩⟩
    ·
     have hd3 : decide ((m : Int) < 3 + (N : Int)) = false:=by simp; omega
     have h3m : 3 ≤ m:=by have:=HB.out.1; have:=szB_3 (D:=D) (by rw [HN.out]; omega); omega
     have hst:=szB_step HN.out (by have:=HB.out.1; omega : 3 ≤ D.length) (by have:=HB.out.1; omega)
     have hbt:=HB.out.2.1.ext HE1.out
     obtain ⟨b,o,hA,hbl,c0⟩:=hbt.cell (j:=0) (by have:=HB.out.1; omega)
     rw [Nat.add_zero] at c0
     have l0:=HB.out.2.1.1.getD 0
     obtain ⟨T,hT⟩ : ∃ T,T = D.getD 0 0:=⟨_,rfl⟩
     rw [← hT] at c0 l0 hst
     have k0 : (T : Int) ≤ 255:=by omega
     have i0 : (0 : Int) < (m : Int):=by omega
     have HST:=veil (And.intro hst hbt)
     have hbd:=bs_drop (c:=c) HB.out.2.1 (3 + N) (by have:=HB.out.1; omega) (by have:=HB.out.1; omega)
     have HBD:=veil hbd
     clear hst hbt hT l0 hbd
     subst hA
     go_upto_region 6 with (fail)
     refine zcj 11 [(true,[0,1,2,3,4,5,6,7]),(false,[8]),(true,[9]),(false,[10]),(false,[11]),(false,[12])] (by kernel_rfl) (by kernel_rfl) fun Q' hQ' => ?_
     refine' zbc (A:=_) _ rfl (by kernel_rfl) ?h1 ?h2
     case h1 =>
      intro D' hD hN'
      have d0:=hD.cell c0
      simp only [pickI,consO,List.getElem?_cons_zero,List.getElem?_cons_succ]
      iterate 7 (go_big_quiet_step (fail))
      go_big_quiet_want
      refine zdg (.slice (cutA (some ⟨b,o,none⟩) 3 c) N (c - 3)) (fun x => zbw rfl rfl rfl rfl (zek _ _ _ 3 N (by omega) _ rfl (by omega))) ?_
      simp only [aP,lA,lZ,lS]
      go_big_quiet_on
      exact zbu
     have hl : N = ((D.drop 3).take N).length:=by rw [List.length_take,List.length_drop]; have:=HB.out.1; omega
     have hBc:=HST.out.2.cut 3 (n:=N) (c:=c) (by have:=HB.out.1; omega) (by have:=HB.out.1; omega)
     have HC:=veil (And.intro hl hBc)
     clear hl hBc
     refine zdf (R:=fun v W => ∃ A' c',v = .slice A' N c' ∧ N ≤ c' ∧ Bs W A' ((D.drop 3).take N) ∧ Fresh w1 A' ((D.drop 3).take N)) _ rfl rfl rfl rfl rfl (zce Tryz.func55 rfl rfl _) (fun W hW => (clone8_calls _ N (c - 3) ((D.drop 3).take N) HC.out.1 (by omega) W (HC.out.2.ext hW)).mono fun e W' ⟨A',c',he,hE',hc',hB',hF'⟩ => ⟨_,he,hE',A',c',rfl,hc',hB',hF'.imp id fun h b o e => Nat.le_trans (Below.size hW) (h b o e)⟩) ?_
     rintro _ W2 hE2 ⟨A',c',rfl,hc',hB',hF'⟩
     simp only [aP,lA,lZ,lS]
     refine' zbc (A:=_) _ rfl (by kernel_rfl) ?k1 ?k2
     case k1 =>
      intro D' hD hN'
      simp only [pickI,consO,List.getElem?_cons_zero,List.getElem?_cons_succ]
      repeat (go_big_quiet_step (fail))
      exact zbu
     refine zcx (vs:=[(0,.agg #[.int .i64 (T : Int),.slice A' N c'])]) (C:=#[.int .i64 (T : Int),.slice A' N c']) (e:=64) _ rfl rfl rfl rfl rfl (fun W => by simp [Instr.buildSlice,go_sem]) ?_
     intro g2 W3 hg2 hgb2 hE3
     simp only [aP,lA,lZ,lS]
     have hEW3:=hE2.trans hE3
     have hown3:=HO1.out.keep hEW3
     have hoff : Off A' ((D.drop 3).take N) (Value.ownBlock (.slice AL k cl)):=hF'.off fun k hk => (HO1.out.lt hk).2
     have hBn:=hB'.ext hE3
     have hbase:=Nat.le_trans (Below.size HE1.out) (Below.size hEW3)
     have hNl:=HC.out.1
     have hfl9 : fs.length ≤ 1000000000:=by have:=HK.out; omega
     rw [hNl] at hgb2 hc'
     refine zeq (f:=((T : Int),(D.drop 3).take N)) (al:=(A',c')) _ rfl rfl rfl rfl rfl rfl (by decide) hown3 hgb2 hc' hBn hoff hfl9 hbase ?_
     intro v' W4 W5 hE4 hO5 hG5
     simp only [aP,lA,lZ,lS]
     have hE5 : Ext w W5:=(HE1.out.trans (hEW3.trans hE4)).grown hG5 (Below.size (HE1.out.trans (hEW3.trans hE4))) fun k hk => (HO1.out.lt hk).1
     have HO5:=veil (And.intro hO5 hE5)
     clear hown3 hoff hBn hbase hNl hgb2 hc' hO5 hE5 hG5
     refine zhb v' _ rfl rfl rfl rfl rfl ?_
     intro W6 hE6
     simp only [aP,lA,lZ,lS]
     refine zcb hQ' fun W7 hE7 => ?_
     have hle3 : 3 + N ≤ m:=by omega
     go_wp2_with ((with_reducible refine zah 35 ?_); refine zan (.slice (cutA (some ⟨b,o,none⟩) (3 + N) c) (m - (3 + N)) (c - (3 + N))) rfl (zck rfl rfl rfl (zfx _ _ _ (3 + N) hle3 _ (by omega))) ?_)
     go_roundw
     case rel =>
      refine ⟨_,m - (3 + N),c - (3 + N),D.drop (3 + N),fs ++ [((T : Int),(D.drop 3).take N)],rfl,by rw [List.length_drop,← HB.out.1],by omega,by omega,HBD.out,(HO5.out.1.keep hE6).keep hE7,?_,?_,HO5.out.2.trans (hE6.trans hE7)⟩
      ·
       rw [List.length_append,List.length_singleton]; have:=HK.out; omega
      ·
       rw [HO.out.2.2,HST.out.1]
       cases parse (D.drop (3 + N)) with
       | none => rfl
       | some x => simp
     case measure => simp [lenV]; omega
   ·
    have hd2 : decide ((k : Int) ≤ 64) = false:=decide_eq_false hk
    have hmay : mayFs fs = false:=decide_eq_false fun hh => by have:=hh.1; have:=HK.out; omega
    rw [hmay] at KM
    have HE:=veil hE
    clear hE hmay
    go_wp2_with (go_at_call 51; refine KM.out.mono ?_; rintro e w2 ⟨rfl,hE2⟩)
    go_ret2
    exact ⟨_,_,rfl,HE.out.trans hE2,.inl ⟨get_of_false HO.out.2.2 (by have:=HK.out; omega),⟨none,0,rfl⟩,rfl⟩⟩
  ·
   have hd1 : decide ((0 : Int) < (m : Int)) = false:=by simp; omega
   have hd1' : decide (0 < m) = false:=by simp; omega
   have hp : parse bs = some fs:=by
    rw [HO.out.2.2,List.length_eq_zero_iff.1 (show D.length = 0 by have:=HB.out.1; omega),parse_nil]
    simp
   have HP:=veil (And.intro hE (And.intro hp HO.out.1.fl))
   cases hmay : mayFs fs with
   | false =>
    rw [hmay] at KM
    have hn : getFs bs = none:=by
     rw [zbp,hp]
     simp [hmay]
    have HN:=veil hn
    clear hE hmay hp hn
    go_wp2_with (go_at_call 51; refine KM.out.mono ?_; rintro e w2 ⟨rfl,hE2⟩)
    go_ret2
    exact ⟨_,_,rfl,HP.out.1.trans hE2,.inl ⟨HN.out,⟨none,0,rfl⟩,rfl⟩⟩
   | true =>
    rw [hmay] at KM
    have hn : getFs bs = some fs:=by
     rw [zbp,hp]
     simp [hmay]
    have HN:=veil hn
    clear hE hmay hp hn
    go_wp2_with (go_at_call 51; refine KM.out.mono ?_; rintro e w2 ⟨rfl,hE2⟩)
    go_ret2
    exact ⟨_,_,rfl,HP.out.1.trans hE2,.inr ⟨fs,HN.out,rfl,HP.out.2.2.ext hE2⟩⟩
def RKeysA (w' : World) (bs : List Nat) (x y : Value) : Prop:=(keysOf bs = none ∧ x = .slice none 0 0 ∧ y = .bool false) ∨ (∃ l,keysOf bs = some l ∧ mayK l = true ∧ l.length ≤ 32 ∧ Ks w' x l ∧ y = .bool true)
theorem ptO_yes {bs : List Nat} (h : onB (sigR bs) (sigS bs) false = true) : ptO bs = qc (sigR bs) (sigS bs) false:=if_pos h
theorem ptO_one (bs : List Nat) : (ptO bs).all (·.oneCell') = true:=by unfold ptO; split <;> exact zex _ _ _
theorem ptO_info (bs : List Nat) : (Tryz.prog.info? 29).map (·.size) = some (ptO bs).size:=by unfold ptO; split <;> exact iT _ _ _
theorem ptO_size (bs : List Nat) : PZ.size = (ptO bs).size:=by unfold ptO; split <;> rfl
theorem rparse10_calls (A : Option Addr) (m c : Nat) (bs : List Nat) (hm : m = bs.length) (hmc : m ≤ c) (hle : m ≤ 100000000) (w : World) (hS : Bs w A bs) :
  Calls Tryz.prog 15 #[.slice A m c] w fun e w' => ∃ x y,e = .returned (.tuple #[x,y]) ∧ Ext w w' ∧ RKeysA w' bs x y:=by
 have KG:=veil (rget8_any A m c bs hm hmc hle w hS)
 clear hm hmc hS hle
 go_enter Tryz.func15,Tryz.ntmps15
 go_upto_region 2 with (go_at_call 33; refine KG.out.mono ?_; rintro e w1 ⟨x,y,rfl,hE1,hA⟩)
 rcases hA with ⟨hn,rfl,rfl⟩ | ⟨fs,hs,hF,rfl⟩
 ·
  have hr : keysOf bs = none:=by
   unfold keysOf
   rw [hn]
   rfl
  clear KG
  go_wp2
  go_ret2
  exact ⟨_,_,rfl,hE1,.inl ⟨hr,rfl,rfl⟩⟩
 ·
  have hget:=keysOf_get hs
  have h64:=zec (get_some hs).2
  obtain ⟨hB,AL,cl,rfl,hcl,hx⟩:=hF
  obtain ⟨n,hn⟩ : ∃ n,n = fs.length:=⟨_,rfl⟩
  rw [← hn] at hx hcl h64 ⊢
  have HX:=veil (And.intro hx (And.intro hn (And.intro hget hE1)))
  clear KG hx hn hget hE1 hs hB hcl
  go_upto_region 5 with (fail)
  go_wp2
  go_loopw [6,7,8,9,10,11,12,13] (fun v u _ _ _ _ _ _ wr => ∃ (i : Nat) (pre : List Ky),i ≤ n ∧ u = .int .i64 (i : Int) ∧ OwnK wr w1.heap.size v pre ∧ pre.length = i ∧ TopK pre ∧ keysF 1 fs = (keysF ((i : Int) + 1) (fs.drop i)).map (pre ++ ·) ∧ Ext w1 wr)
   (fun _ u _ _ _ _ _ _ _ => n - (intOf u).toNat)
  case atStart => exact ⟨0,[],by omega,rfl,OwnL.nil _ _ _,rfl,fun k hk => by (cases hk),by simp,Ext.refl _⟩
  case round =>
   obtain ⟨i,pre,hi,rfl,hO,hpl,hT,hk,hE⟩:=hrel
   by_cases hlt : i < n
   ·
    have hd1 : decide ((i : Int) < (n : Int)) = true:=by simp; omega
    have hii : (i : Int) < (n : Int):=by omega
    have hil : i < fs.length:=by have:=HX.out.2.1; omega
    obtain ⟨b,o,hAL,hb,hcl⟩:=HX.out.1.resolve_left (by omega)
    obtain ⟨h1,A',k',h2,h3,h4⟩:=hcl i (by omega)
    have c0:=(hE.cell hb).trans h1
    have c1:=(hE.cell hb).trans h2
    have hno : ¬ (tgF fs i = (i : Int) + 1 ∧ (keyOf (bsF fs i)).isSome = true) → keysOf bs = none:=fun h => by
     rw [HX.out.2.2.1,keysF_no hil hk h]
     rfl
    have HNO:=veil hno
    have hyes : ∀ k,tgF fs i = (i : Int) + 1 → keyOf (bsF fs i) = some k → keysF 1 fs = (keysF (((i + 1 : Nat) : Int) + 1) (fs.drop (i + 1))).map ((pre ++ [k]) ++ ·):=fun k ht hk' => keysF_yes hil hk ht hk'
    have HY:=veil hyes
    have HS:=veil (And.intro hO (And.intro hpl (And.intro hT (And.intro hE (h4.ext hE)))))
    clear h1 h2 h4 hO hpl hT hk hE hcl hno hyes hil
    generalize tgF fs i = T at *
    generalize bsF fs i = D at *
    obtain ⟨L,hL⟩ : ∃ L,L = D.length:=⟨_,rfl⟩
    rw [← hL] at c1 h3
    subst hAL
    by_cases g1 : T = (i : Int) + 1
    ·
     have f1 : (T == (i : Int) + 1) = true:=by simp [g1]
     by_cases g2 : L = 88
     ·
      have HT:=veil (And.intro g1 (And.intro (hL.symm.trans g2) h3))
      subst g1 g2
      clear f1 hL
      obtain ⟨D1,hD1⟩ : ∃ x,x = (D.drop 8).take 64:=⟨_,rfl⟩
      obtain ⟨D2,hD2⟩ : ∃ x,x = D.take 8:=⟨_,rfl⟩
      obtain ⟨D3,hD3⟩ : ∃ x,x = (D.drop 72).take 8:=⟨_,rfl⟩
      obtain ⟨D4,hD4⟩ : ∃ x,x = D.drop 80:=⟨_,rfl⟩
      have l1 : D1.length = 64:=by rw [hD1,List.length_take,List.length_drop,HT.out.2.1]; rfl
      have l2 : D2.length = 8:=by rw [hD2,List.length_take,HT.out.2.1]; rfl
      have l3 : D3.length = 8:=by rw [hD3,List.length_take,List.length_drop,HT.out.2.1]; rfl
      have l4 : D4.length = 8:=by rw [hD4,List.length_drop,HT.out.2.1]
      have KP:=veil (fun W (hW : Ext wr W) => rparse_bs (A:=cutA A' 8 k') (c:=k' - 8) l1 (by omega) W (by rw [hD1]; exact (HS.out.2.2.2.2.ext hW).cut 8 (n:=64) (by rw [HT.out.2.1]; decide) (by rw [HT.out.2.1]; exact h3)))
      have K2:=veil (fun W (hW : Ext wr W) => zgm A' 8 k' D2 l2.symm W (by rw [hD2]; exact bs_take (HS.out.2.2.2.2.ext hW) 8))
      have K3:=veil (fun W (hW : Ext wr W) => zgm (cutA A' 72 k') 8 (k' - 72) D3 l3.symm W (by rw [hD3]; exact (HS.out.2.2.2.2.ext hW).cut 72 (n:=8) (by rw [HT.out.2.1]; decide) (by rw [HT.out.2.1]; exact h3)))
      have K4:=veil (fun W (hW : Ext wr W) => zgm (cutA A' 80 k') 8 (k' - 80) D4 l4.symm W (by rw [hD4]; exact bs_drop (HS.out.2.2.2.2.ext hW) 80 (by rw [HT.out.2.1]; decide) (by rw [HT.out.2.1]; exact h3)))
      have hkn:=keyOf_none (D:=D)
      have hks : onB (sigR D1) (sigS D1) false = true → 0 ≤ ofB D2 → 0 ≤ ofB D3 → 0 ≤ ofB D4 → keyOf D = some ⟨ofB D2,sigR D1,sigS D1,false,ofB D3,ofB D4⟩:=fun p1 p2 p3 p4 => by
       rw [hD1] at p1
       rw [hD2] at p2
       rw [hD3] at p3
       rw [hD4] at p4
       unfold keyOf
       rw [if_pos ⟨HT.out.2.1,p1,p2,p3,p4⟩,hD1,hD2,hD3,hD4]
      rw [← hD1,← hD2,← hD3,← hD4] at hkn
      have HKN:=veil (And.intro hkn hks)
      have hrg2:=ofB_le (bs:=D2) (by rw [hD2]; exact HS.out.2.2.2.2.1.take 8)
      have hrg3:=ofB_le (bs:=D3) (by rw [hD3]; exact (HS.out.2.2.2.2.1.drop 72).take 8)
      have hrg4:=ofB_le (bs:=D4) (by rw [hD4]; exact HS.out.2.2.2.2.1.drop 80)
      have hk72 : 8 + 64 ≤ k':=by omega
      have hk8 : 8 ≤ k':=by omega
      have hk80 : 72 + 8 ≤ k':=by omega
      clear hD1 hD2 hD3 hD4 l1 l2 l3 l4 hkn hks h3
      obtain ⟨N2,hN2⟩ : ∃ x,x = ofB D2:=⟨_,rfl⟩
      obtain ⟨N3,hN3⟩ : ∃ x,x = ofB D3:=⟨_,rfl⟩
      obtain ⟨N4,hN4⟩ : ∃ x,x = ofB D4:=⟨_,rfl⟩
      obtain ⟨on,hon⟩ : ∃ x,x = onB (sigR D1) (sigS D1) false:=⟨_,rfl⟩
      rw [← hN2] at K2 hrg2
      rw [← hN3] at K3 hrg3
      rw [← hN4] at K4 hrg4
      rw [← hon] at KP
      have HN:=veil (And.intro hN2 (And.intro hN3 (And.intro hN4 hon)))
      clear hN2 hN3 hN4 hon
      go_upto_region 12 with (first
       | ((with_reducible refine zah 48 ?_); refine zan (.slice (cutA A' 8 k') 64 (k' - 8)) rfl (zbw rfl rfl rfl rfl (zek A' _ k' 8 64 hk72 _ rfl rfl)) ?_)
       | (go_at_call 34; refine (KP.out _ (Ext.refl _)).mono ?_; rintro e w2 ⟨rfl,hE2⟩)
       | ((with_reducible refine zay ?_); refine wpList_store_row rfl 29 _ _ rfl w2.heap.size (ptO D1) rfl rfl 29 _ (zag w2 _) (ptO_info D1) (ptO_size D1) (ptO_one D1) ?_; rw [World.setRow_alloc_new]))
      have hE3:=hE2.trans (Ext.alloc w2 (.cells (ptO D1) 29))
      have h9:=zag w2 (.cells (ptO D1) 29)
      generalize w2.alloc (.cells (ptO D1) 29) = w3 at *
      generalize w2.heap.size = g9 at *
      have H3:=veil (And.intro hE3 h9)
      clear hE2 hE3 h9 c0 c1 KP
      go_upto_region 13 with (first
       | ((with_reducible refine zah 53 ?_); refine zan (.slice A' 8 k') rfl (zef rfl rfl rfl (cut_to_b A' _ k' 8 hk8 _ rfl)) ?_)
       | (go_at_call 35; refine (K2.out _ H3.out.1).mono ?_; rintro e w4 ⟨rfl,hE4⟩))
      have H4:=veil (And.intro (H3.out.1.trans hE4) (hE4.block H3.out.2))
      clear hE4 H3 K2
      go_upto_region 14 with (first
       | ((with_reducible refine zah 56 ?_); refine zan (.slice (cutA A' 72 k') 8 (k' - 72)) rfl (zbw rfl rfl rfl rfl (zek A' _ k' 72 8 hk80 _ rfl rfl)) ?_)
       | (go_at_call 35; refine (K3.out _ H4.out.1).mono ?_; rintro e w5 ⟨rfl,hE5⟩))
      have H5:=veil (And.intro (H4.out.1.trans hE5) (hE5.block H4.out.2))
      clear hE5 H4 K3
      go_upto_region 15 with (first
       | ((with_reducible refine zah 59 ?_); refine zan (.slice (cutA A' 80 k') 8 (k' - 80)) rfl (zck rfl rfl rfl (zfx A' 88 k' 80 (by decide) _ rfl)) ?_)
       | (go_at_call 35; refine (K4.out _ H5.out.1).mono ?_; rintro e w6 ⟨rfl,hE6⟩))
      have H6:=veil (And.intro (H5.out.1.trans hE6) (hE6.block H5.out.2))
      clear hE6 H5 K4
      have hbad : ¬ (on = true ∧ 0 ≤ N2 ∧ 0 ≤ N3 ∧ 0 ≤ N4) → keysOf bs = none:=fun h => HNO.out fun hh => HKN.out.1 (fun hq => h ⟨HN.out.2.2.2.trans hq.2.1,by rw [HN.out.1]; exact hq.2.2.1,by rw [HN.out.2.1]; exact hq.2.2.2.1,by rw [HN.out.2.2.1]; exact hq.2.2.2.2⟩) hh.2
      have HBAD:=veil hbad
      have HE:=veil (HX.out.2.2.2.trans (HS.out.2.2.2.1.trans H6.out.1))
      clear hbad
      cases on with
      | false =>
       have hr:=HBAD.out (by simp)
       go_wp2
       go_ret2
       exact ⟨_,_,rfl,HE.out,.inl ⟨hr,rfl,rfl⟩⟩
      | true =>
       by_cases q2 : N2 < 0
       ·
        have hd2 : decide (N2 < 0) = true:=decide_eq_true q2
        have hr:=HBAD.out (by omega)
        go_wp2
        go_ret2
        exact ⟨_,_,rfl,HE.out,.inl ⟨hr,rfl,rfl⟩⟩
       ·
        have hd2 : decide (N2 < 0) = false:=decide_eq_false q2
        by_cases q3 : N3 < 0
        ·
         have hd3 : decide (N3 < 0) = true:=decide_eq_true q3
         have hr:=HBAD.out (by omega)
         go_wp2
         go_ret2
         exact ⟨_,_,rfl,HE.out,.inl ⟨hr,rfl,rfl⟩⟩
        ·
         have hd3 : decide (N3 < 0) = false:=decide_eq_false q3
         by_cases q4 : N4 < 0
         ·
          have hd4 : decide (N4 < 0) = true:=decide_eq_true q4
          have hr:=HBAD.out (by omega)
          go_wp2
          go_ret2
          exact ⟨_,_,rfl,HE.out,.inl ⟨hr,rfl,rfl⟩⟩
         ·
          have hd4 : decide (N4 < 0) = false:=decide_eq_false q4
          obtain ⟨X,hX⟩ : ∃ x,x = sigR D1:=⟨_,rfl⟩
          obtain ⟨Y,hY⟩ : ∃ x,x = sigS D1:=⟨_,rfl⟩
          have hon:=HN.out.2.2.2.symm
          have hpt:=ptO_yes hon
          rw [← hX,← hY] at hpt hon
          have hkey : keyOf D = some ⟨N2,X,Y,false,N3,N4⟩:=by
           rw [HN.out.1,HN.out.2.1,HN.out.2.2.1,hX,hY]
           exact HKN.out.2 HN.out.2.2.2.symm (by rw [← HN.out.1]; omega) (by rw [← HN.out.2.1]; omega) (by rw [← HN.out.2.2.1]; omega)
          have HK:=veil (And.intro (HY.out _ HT.out.1 hkey) (onB_top hon))
          have h9:=H6.out.2
          rw [hpt] at h9
          have H9:=veil h9
          have hO6:=veil (HS.out.1.keep H6.out.1)
          have hbl:=fun W => bldKy ⟨N2,X,Y,false,N3,N4⟩ W
          have HBL:=veil hbl
          clear hX hY hon hpt hkey h9 hbl q2 q3 q4 hrg2 hrg3 hrg4 HBAD HN HKN HY HNO
          obtain ⟨ky,hky⟩ : ∃ k : Ky,k = ⟨N2,X,Y,false,N3,N4⟩:=⟨_,rfl⟩
          have HKY:=veil hky
          clear hky
          have hkc : 88 ≤ k':=HT.out.2.2
          go_upto_region 17 with (fail)
          refine wp_region_list ?_
          refine zan _ rfl rfl ?_
          simp only [aP,lA,lZ,lS]
          refine zan (.int .i64 N2) rfl rfl ?_
          simp only [aP,lA,lZ,lS]
          refine wpList_load_row rfl 29 _ rfl g9 rfl 29 (qc X Y false) (0,0) _ H9.out Tryz.underlying29 rfl (iT _ _ _) ?_
          simp only [aP,lA,lZ,lS]
          refine zan (.int .i64 N3) rfl rfl ?_
          simp only [aP,lA,lZ,lS]
          refine zan (.int .i64 N4) rfl rfl ?_
          simp only [aP,lA,lZ,lS]
          refine zan (.agg (kyC ky).toArray) rfl (zdr (vs:=[(0,.int .i64 N2),(1,.agg (qc X Y false)),(2,.int .i64 N3),(3,.int .i64 N4)]) rfl rfl (by rw [HKY.out]; exact HBL.out _)) ?_
          simp only [aP,lA,lZ,lS]
          refine zgg (vs:=[(0,.agg (kyC ky).toArray)]) rfl rfl rfl (bslKy ky w6) ?_
          simp only [aP,lA,lZ,lS]
          refine wpl_append_ky (ys:=[ky]) rfl rfl rfl rfl (hO6.out.keep (Ext.alloc w6 _)) rfl (ls_one (zag w6 _)) (by have:=HS.out.2.1; omega) (Nat.le_trans (Below.size (HS.out.2.2.2.1.trans H6.out.1)) (Below.size (Ext.alloc w6 _))) ?_
          intro v' w8 hO8 hG8
          simp only [aP,lA,lZ,lS]
          refine zan v' rfl rfl ?_
          simp only [aP,lA,lZ,lS]
          refine wpList_nil ?_
          have hEa:=(HS.out.2.2.2.1.trans H6.out.1).trans (Ext.alloc w6 (.cells (kyC ky).toArray 55))
          have hE8 : Ext w1 w8:=hEa.grown hG8 (Below.size hEa) fun j hj => (hO6.out.lt hj).1
          clear hG8
          go_wp2
          go_roundw
          case rel =>
           refine ⟨i + 1,pre ++ [ky],by omega,by go_num,hO8,by rw [List.length_append,HS.out.2.1]; rfl,fun k hk => ?_,by rw [HKY.out]; exact HK.out.1,hE8⟩
           rcases List.mem_append.1 hk with hk | hk
           ·
            exact HS.out.2.2.1 k hk
           ·
            rw [List.mem_singleton.1 hk,HKY.out]
            exact HK.out.2
          case measure => simp [intOf]; omega
     ·
      have f2 : ((L : Int) == 88) = false:=by simp; omega
      have f3 : ¬ ((L : Int) = 88):=by omega
      have hr:=HNO.out (fun h => keyOf_none (D:=D) (fun hq => g2 (hL.trans hq.1)) h.2)
      have HR:=veil (And.intro hr (HX.out.2.2.2.trans HS.out.2.2.2.1))
      have HG:=veil g1
      subst g1
      clear hr g2 hL HNO HY
      go_wp2
      go_ret2
      exact ⟨_,_,rfl,HR.out.2,.inl ⟨HR.out.1,rfl,rfl⟩⟩
    ·
     have f1 : (T == (i : Int) + 1) = false:=by simp [g1]
     have hr:=HNO.out (fun h => g1 h.1)
     have HR:=veil (And.intro hr (HX.out.2.2.2.trans HS.out.2.2.2.1))
     clear hr hL HNO HY
     go_wp2
     go_ret2
     exact ⟨_,_,rfl,HR.out.2,.inl ⟨HR.out.1,rfl,rfl⟩⟩
   ·
    obtain rfl : i = n:=by omega
    have hd1 : decide ((i : Int) < (i : Int)) = false:=by simp
    have hend : keysF 1 fs = some pre:=keysF_end (by rw [← HX.out.2.1]; exact hk)
    have hks:=hO.ks
    have KM:=veil (zhc _ pre wr hks hT (by omega))
    have HP:=veil (And.intro hks (And.intro hE (And.intro hend hpl)))
    clear hO hT hk hE hend hks hpl
    cases hmay : mayK pre with
    | false =>
     rw [hmay] at KM
     have hr : keysOf bs = none:=by
      rw [HX.out.2.2.1,HP.out.2.2.1]
      simp [hmay]
     have HR:=veil hr
     clear hr hmay
     go_wp2_with (go_at_call 8; refine KM.out.mono ?_; rintro e w2 ⟨rfl,hE2⟩)
     go_ret2
     exact ⟨_,_,rfl,HX.out.2.2.2.trans (HP.out.2.1.trans hE2),.inl ⟨HR.out,rfl,rfl⟩⟩
    | true =>
     rw [hmay] at KM
     have hr : keysOf bs = some pre:=by
      rw [HX.out.2.2.1,HP.out.2.2.1]
      simp [hmay]
     have HR:=veil (And.intro hr hmay)
     clear hr hmay
     go_wp2_with (go_at_call 8; refine KM.out.mono ?_; rintro e w2 ⟨rfl,hE2⟩)
     go_ret2
     exact ⟨_,_,rfl,HX.out.2.2.2.trans (HP.out.2.1.trans hE2),.inr ⟨pre,HR.out.1,HR.out.2,mayK_32 HR.out.2,HP.out.1.ext hE2,rfl⟩⟩
theorem cntK_no {k : Ky} {id at_ : Int} (h : ¬ (k.i = id ∧ k.a ≤ at_ ∧ at_ < k.b)) : cntK k id at_ = false:=by
 unfold cntK
 simp only [Bool.and_eq_false_iff,decide_eq_false_iff_not]
 omega
theorem cntK_yes {k : Ky} {id at_ : Int} (h : k.i = id ∧ k.a ≤ at_ ∧ at_ < k.b) : cntK k id at_ = true:=by
 unfold cntK
 simp only [Bool.and_eq_true,decide_eq_true_eq]
 omega
theorem qO_size (o : Option Ky) : PZ.size = (qO o).size:=by cases o <;> rfl
theorem qO_info (o : Option Ky) : (Tryz.prog.info? 29).map (·.size) = some (qO o).size:=by cases o <;> exact iT _ _ _
theorem qO_one (o : Option Ky) : (qO o).all (·.oneCell') = true:=by cases o <;> exact zex _ _ _
theorem eqCode22 (w : World) : (binOp .eql 35 (.iface 39 (.int .i64 2)) (.iface 39 (.int .i64 2))).run Tryz.prog w = .ok (.bool true) w:=by kernel_rfl
def findC (l : List Ky) (id at_ : Int) : Option Ky:=if mayK l = true then findK l id at_ else none
def KBytesA (w' : World) (l : List Ky) (x ev : Value) : Prop :=
 (mayK l = false ∧ (∃ A c,x = .slice A 0 c) ∧ ev = .iface 39 (.int .i64 1)) ∨ (mayK l = true ∧ (∃ A c,x = .slice A (keysB l).length c ∧ (keysB l).length ≤ c ∧ Bs w' A (keysB l)) ∧ ev = .nilIface)
def KParseA (w' : World) (bs : List Nat) (x ev : Value) : Prop :=
 (keysOf bs = none ∧ (∃ A c,x = .slice A 0 c) ∧ ev = .iface 39 (.int .i64 2)) ∨ (∃ l,keysOf bs = some l ∧ Ks w' x l ∧ ev = .nilIface)
structure Code10 (L : Low) (I : World → Prop) : Prop where
 keep : ∀ w w',I w → Ext w w' → I w'
 base : ∀ w,Calls Tryz.prog 20 #[] w fun e w' => e = .returned (.agg (qc Pt.gx Pt.gy false)) ∧ Ext w w'
 find : ∀ v l id at_ w,Ks w v l → TopK l → l.length ≤ 1000 → Calls Tryz.prog 9 #[v,.int .i64 id,.int .i64 at_] w fun e w' => e = .returned (.tuple #[.agg (qO (findC l id at_)),.bool (findC l id at_).isSome]) ∧ Ext w w'
 bytes : ∀ v l w,Ks w v l → TopK l → l.length ≤ 1000 → Calls Tryz.prog 12 #[v] w fun e w' => ∃ x ev,e = .returned (.tuple #[x,ev]) ∧ Ext w w' ∧ KBytesA w' l x ev
 parse : ∀ A m c bs w,m = bs.length → m ≤ c → m ≤ 8000 → Bs w A bs → Calls Tryz.prog 14 #[.slice A m c] w fun e w' => ∃ x ev,e = .returned (.tuple #[x,ev]) ∧ Ext w w' ∧ KParseA w' bs x ev
 check_nil : ∀ w,Calls Tryz.prog 17 #[.slice none 0 0,.slice none 0 0,.int .i64 0] w fun e w' => e = .returned (.tuple #[.agg (tkC ⟨0,0,0,0,0⟩),.iface 39 (.int .i64 2)]) ∧ Ext w w'
theorem onB_base : onB Pt.gx Pt.gy false = true:=by decide +kernel
theorem gx_top : Pt.gx < top:=(onB_top onB_base).1
theorem gy_top : Pt.gy < top:=(onB_top onB_base).2
def kB : Ky:=⟨1,Pt.gx,Pt.gy,false,5,6⟩
theorem may_kB : mayK [kB] = true:=by
 rw [mayK_len fun j hj => ?_]
 ·
  rfl
 ·
  obtain rfl : j = 0:=by simpa using hj
  exact ⟨by decide,by decide,onB_base,rfl,by decide,by decide,by decide,fun h => absurd h (by decide)⟩
theorem find_kB5 : findC [kB] 1 5 = some kB:=by
 unfold findC
 rw [if_pos may_kB]
 rfl
theorem find_kB6 : findC [kB] 1 6 = none:=by
 unfold findC
 rw [if_pos may_kB]
 rfl
theorem top_kB : TopK [kB]:=fun k hk => by
 rw [List.mem_singleton.1 hk]
 exact ⟨gx_top,gy_top⟩
theorem up10 {L : Low} {I : World → Prop} (C : Code10 L I) (w : World) : Calls Tryz.prog 7 #[] w fun e w' => e = .returned (.bool true) ∧ Ext w w':=by
 have KC:=veil (fun W => C.check_nil W)
 have KB:=veil (fun W => C.base W)
 have KF:=veil (fun (g : Nat) (at_ : Int) W (hg : W.heap[g]? = some (.cells (kyC kB).toArray 55 (0,0))) => C.find (.slice (some ⟨g,0,none⟩) 1 1) [kB] 1 at_ W (ls_one hg) top_kB (by decide : (1 : Nat) ≤ 1000))
 have h22:=eqCode22
 go_enter Tryz.func7,Tryz.ntmps7
 go_upto_region 2 with (first
  | (go_at_call 17; refine (KC.out _).mono ?_; rintro e w1 ⟨rfl,hE1⟩)
  | ((with_reducible refine zay ?_); refine wpList_store_row rfl 47 _ _ rfl w1.heap.size (tkC ⟨0,0,0,0,0⟩) rfl rfl 47 _ (zag w1 _) (iTk _) rfl (tkC_one _) ?_; rw [World.setRow_alloc_new]))
 have hE2:=hE1.trans (Ext.alloc w1 (.cells (tkC ⟨0,0,0,0,0⟩) 47))
 generalize w1.alloc (.cells (tkC ⟨0,0,0,0,0⟩) 47) = w2 at *
 generalize w1.heap.size = g1 at *
 have H2:=veil hE2
 clear hE1 hE2 KC
 refine wp_region_list ?_
 refine wpl_fun (R:=fun v W => v = .agg (qc Pt.gx Pt.gy false) ∧ Ext w2 W) rfl rfl rfl (zce Tryz.func20 rfl rfl _) ((KB.out w2).mono fun e W' ⟨he,hE⟩ => ⟨_,he,rfl,hE⟩) ?_
 rintro _ w3 ⟨rfl,hE3⟩
 simp only [aP,lA,lZ,lS]
 refine zan (.agg (kyC kB).toArray) rfl (zdr (vs:=[(0,.int .i64 1),(1,.agg (qc Pt.gx Pt.gy false)),(2,.int .i64 5),(3,.int .i64 6)]) rfl rfl (bldKy kB _)) ?_
 simp only [aP,lA,lZ,lS]
 refine zgg (vs:=[(0,.agg (kyC kB).toArray)]) rfl rfl rfl (bslKy kB w3) ?_
 simp only [aP,lA,lZ,lS]
 have K5:=KF.out w3.heap.size 5 _ (zag w3 _)
 rw [find_kB5] at K5
 refine wpl_fun (R:=fun v W => v = .tuple #[.agg (qO (some kB)),.bool true] ∧ Ext _ W) rfl rfl rfl (zce Tryz.func9 rfl rfl _) (K5.mono fun e W' ⟨he,hE⟩ => ⟨_,he,rfl,hE⟩) ?_
 rintro _ w4 ⟨rfl,hE4⟩
 simp only [aP,lA,lZ,lS]
 refine zan (.tuple #[.agg (qO (some kB)),.bool true]) rfl rfl ?_
 simp only [aP,lA,lZ,lS]
 refine zan (.agg (qO (some kB))) rfl rfl ?_
 simp only [aP,lA,lZ,lS]
 refine zan (.bool true) rfl rfl ?_
 simp only [aP,lA,lZ,lS]
 refine zcu (zs:=PZ) _ _ rfl rfl rfl rfl rfl rfl (fun _ => rfl) (fun _ => rfl) (fun _ => rfl) (qO_info (some kB)) (qO_size (some kB)) (qO_one (some kB)) ?_
 intro g5 w5 _ h5 hE5
 simp only [aP,lA,lZ,lS]
 refine zan (.bool true) rfl rfl ?_
 simp only [aP,lA,lZ,lS]
 refine wpList_nil ?_
 have H5:=veil (And.intro (H2.out.trans (hE3.trans ((Ext.alloc w3 _).trans (hE4.trans hE5)))) h5)
 clear K5 hE3 hE4 hE5 h5 H2
 go_upto_region 3 with (fail)
 refine wp_region_list ?_
 refine wpl_fun (R:=fun v W => v = .agg (qc Pt.gx Pt.gy false) ∧ Ext w5 W) rfl rfl rfl (zce Tryz.func20 rfl rfl _) ((KB.out w5).mono fun e W' ⟨he,hE⟩ => ⟨_,he,rfl,hE⟩) ?_
 rintro _ w6 ⟨rfl,hE6⟩
 simp only [aP,lA,lZ,lS]
 refine zan (.agg (kyC kB).toArray) rfl (zdr (vs:=[(0,.int .i64 1),(1,.agg (qc Pt.gx Pt.gy false)),(2,.int .i64 5),(3,.int .i64 6)]) rfl rfl (bldKy kB _)) ?_
 simp only [aP,lA,lZ,lS]
 refine zgg (vs:=[(0,.agg (kyC kB).toArray)]) rfl rfl rfl (bslKy kB w6) ?_
 simp only [aP,lA,lZ,lS]
 have K6:=KF.out w6.heap.size 6 _ (zag w6 _)
 rw [find_kB6] at K6
 refine wpl_fun (R:=fun v W => v = .tuple #[.agg (qO none),.bool false] ∧ Ext _ W) rfl rfl rfl (zce Tryz.func9 rfl rfl _) (K6.mono fun e W' ⟨he,hE⟩ => ⟨_,he,rfl,hE⟩) ?_
 rintro _ w7 ⟨rfl,hE7⟩
 simp only [aP,lA,lZ,lS]
 refine zan (.tuple #[.agg (qO none),.bool false]) rfl rfl ?_
 simp only [aP,lA,lZ,lS]
 refine zan (.agg (qO none)) rfl rfl ?_
 simp only [aP,lA,lZ,lS]
 refine zan (.bool false) rfl rfl ?_
 simp only [aP,lA,lZ,lS]
 refine zcu (zs:=PZ) _ _ rfl rfl rfl rfl rfl rfl (fun _ => rfl) (fun _ => rfl) (fun _ => rfl) (qO_info none) (qO_size none) (qO_one none) ?_
 intro g8 w8 _ _ hE8
 simp only [aP,lA,lZ,lS]
 refine zan (.bool false) rfl rfl ?_
 simp only [aP,lA,lZ,lS]
 refine wpList_nil ?_
 have hE9:=hE6.trans ((Ext.alloc w6 _).trans (hE7.trans hE8))
 have H8:=veil (And.intro (H5.out.1.trans hE9) (hE9.block H5.out.2))
 clear K6 hE6 hE7 hE8 hE9 H5
 go_upto_region 4 with (fail)
 refine zcj 16 [(true,List.range 16)] (by kernel_rfl) (by kernel_rfl) fun Q' hQ' => ?_
 refine' zbc (A:=_) _ rfl (by kernel_rfl) ?_ ?_
 rotate_left
 ·
  intro D hD hN
  have KD:=veil (fun x : Gw D => hD.calls (v:=.agg (qc Pt.gx Pt.gy false)) (fun W _ => KB.out W) x)
  have ke : ∀ W,(binOp .eql 29 (.agg (qc Pt.gx Pt.gy false)) (.agg (qc Pt.gx Pt.gy false))).run Tryz.prog W = .ok (.bool true) W:=fun W => eqT gx_top gy_top W
  have kg : ∀ op x y W,(eqGuard op 29 x y (.agg (qc Pt.gx Pt.gy false)) (.agg (qc Pt.gx Pt.gy false))).run Tryz.prog W = .ok () W:=fun op x y W => gT _ _ _ _ _ _ op x y W
  simp only [List.range,List.range.loop,pickI,consO,List.getElem?_cons_zero,List.getElem?_cons_succ]
  iterate 7 (go_big_quiet_step (fail))
  go_big_quiet_want
  refine zdg (.agg (qc Pt.gx Pt.gy false)) (fun x => run_load_v rfl rfl (hD.block H8.out.2 x) Tryz.underlying29 rfl (iT _ _ _)) ?_
  simp only [aP,lA,lZ,lS]
  go_big_quiet_on
  go_big_quiet_step (exact KD.out _)
  repeat (go_big_quiet_step (fail))
  exact zbu
 refine zcb hQ' fun w9 hE9 => ?_
 have hE:=H8.out.1.trans hE9
 clear h22
 go_wp2
 go_ret
 exact ⟨rfl,hE⟩
end Go.Proofs.YthlbemnbmbmjhaaGreatDoor
