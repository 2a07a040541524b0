/-
  Of L3 Ln TG TH L2 J2 L6 KB La KC Ld Le.
-/
import Derived.Test.YthlbemnbmbmjhaaGreatDoorZM5
import Derived.Test.YthlbemnbmbmjhaaGreatDoorZM4
set_option maxRecDepth 1000000
set_option maxHeartbeats 20000000
namespace Go.Proofs.YthlbemnbmbmjhaaGreatDoor
open Go.RowKit
open Go.Value renaming int → vI
open Go.IntKind renaming u64 → vU
open Go.Act renaming put → aP
open List renaming setIfInBounds_toArray → lA, set_cons_zero → lZ, set_cons_succ → lS
def WfK (l : List Ky) : Prop:=∀ k ∈ l,(Lit.int .i64 k.i).wf = true ∧ (Lit.int .i64 k.a).wf = true ∧ (Lit.int .i64 k.b).wf = true
theorem zfb : Tryz.prog.cellsOf 55 = 12:=by kernel_rfl
theorem lits_ky {k : Ky} (hi : (Lit.int .i64 k.i).wf = true) (ha : (Lit.int .i64 k.a).wf = true) (hb : (Lit.int .i64 k.b).wf = true) (D : Nat) : Tryz.prog.keyLits (D + 4) 55 (kyC k).toArray.toList = some [.int .i64 k.i,.int .u64 (wd k.x 0),.int .u64 (wd k.x 1),.int .u64 (wd k.x 2),.int .u64 (wd k.x 3),.int .u64 (wd k.y 0),.int .u64 (wd k.y 1),.int .u64 (wd k.y 2),.int .u64 (wd k.y 3),.bool k.f,.int .i64 k.a,.int .i64 k.b]:=by
 have h0:=zeb hi (D + 2)
 have h2:=zeb ha (D + 2)
 have h3:=zeb hb (D + 2)
 have h1:=lits_pt k.x k.y k.f D
 unfold Program.keyLits kyC qc
 simp [Tryz.underlying55,zgz,zfv,zfb] at h0 h1 h2 h3 ⊢
 simp [h0,h1,h2,h3]
theorem eqKy {k : Ky} (h : (Lit.int .i64 k.i).wf = true ∧ (Lit.int .i64 k.a).wf = true ∧ (Lit.int .i64 k.b).wf = true) (w : World) : (binOp .eql 55 (.agg (kyC k).toArray) (.agg (kyC k).toArray)).run Tryz.prog w = .ok (.bool true) w:=by
 rw [run_eql_struct]
 obtain ⟨r,hr,hiff⟩:=run_equalIn_deep (P:=Tryz.prog) 9990 10 55 (by kernel_rfl) w 10000 10000 (.agg (kyC k).toArray) (.agg (kyC k).toArray) _ _ (by simp [Value.formed,Tryz.underlying55,zfb,kyC,qc]) (by simp [Value.formed,Tryz.underlying55,zfb,kyC,qc]) (lits_ky h.1 h.2.1 h.2.2 9996) (lits_ky h.1 h.2.1 h.2.2 9996)
 rw [hr,Result.andThen_ok,hiff.2 rfl]
theorem neKy {k : Ky} (h : (Lit.int .i64 k.i).wf = true ∧ (Lit.int .i64 k.a).wf = true ∧ (Lit.int .i64 k.b).wf = true) (w : World) : (binOp .neq 55 (.agg (kyC k).toArray) (.agg (kyC k).toArray)).run Tryz.prog w = .ok (.bool false) w:=neq_of (eqKy h w) rfl
theorem gKy (k k' : Ky) (op : BinOp) (x y : Operand) (W : World) : (eqGuard op 55 x y (.agg (kyC k).toArray) (.agg (kyC k').toArray)).run Tryz.prog W = .ok () W:=by
 unfold kyC qc
 cases op <;> simp [eqGuard,go_sem]
theorem run_loadm_v {P : Program} {o : Oper} {a : Act} {ty : TypeId} {x : Operand} {b off : Nat} {cs : List Value} {d : TypeDesc} {W : World} (ho : o.op = .load ty x) (hx : a.eval x = .pointer (some ⟨b,off,none⟩)) (hr : W.rangeAt b off cs)
  (hu : P.underlying ty = some d) (hd : d.isRow = true) (hi : (P.info? ty).map (·.size) = some cs.length) : (execOp a.eval o).run P W = .ok (.value (.agg cs.toArray)) W:=by
 unfold execOp
 simp only [ho,hx,Instr.loadAt,Instr.sureAddr,Sem.run_bind,Sem.run_pure,Result.andThen_ok,run_loadVar_mid W b off ty cs d hr hu hd hi]
theorem Up.range {w : World} {D : World → Prop} (h : Up w D) {b off : Nat} {L : List Value} (hb : b < w.heap.size) (hr : w.rangeAt b off L) (x : Gw D) : x.val.rangeAt b off L:=zcf (h.grown _ x.property) hb hr
theorem zhs (v v' : Value) (l : List Ky) (w : World) (hF : Ks w v l) (hF' : Ks w v' l) (hW : WfK l) (hL : l.length ≤ 1000000000) :
  Calls Tryz.prog 16 #[v,v'] w fun e w' => e = .returned (.bool true) ∧ Ext w w':=by
 obtain ⟨AL,c,rfl,hc,hx⟩:=hF
 obtain ⟨AL',c',rfl,hc',hx'⟩:=hF'
 obtain ⟨n,hn⟩ : ∃ n,n = l.length:=⟨_,rfl⟩
 rw [← hn] at hx hc hL hx' hc' ⊢
 have HX:=veil (And.intro hx (And.intro hx' (And.intro hn hW)))
 clear hx hx' hn hW hc hc'
 go_enter Tryz.func16,Tryz.ntmps16
 go_wp2
 go_loopw [5] (fun v wr => ∃ i : Nat,i ≤ n ∧ v = .int .i64 (i : Int) ∧ Ext w wr)
  (fun v _ => n - (intOf v).toNat)
 case atStart => exact ⟨0,by omega,rfl,Ext.refl _⟩
 case round =>
  obtain ⟨i,hi,rfl,hE⟩:=hrel
  by_cases hlt : i < n
  ·
   have hd1 : decide ((i : Int) < (n : Int)) = true:=by simp; omega
   have hii : (i : Int) < (n : Int):=by omega
   have hil : i < l.length:=by have:=HX.out.2.2.1; omega
   obtain ⟨b,o,hAL,hb,hcl⟩:=HX.out.1.resolve_left (by omega)
   obtain ⟨b',o',hAL',hb',hcl'⟩:=HX.out.2.1.resolve_left (by omega)
   have hwf:=HX.out.2.2.2 (l.getD i ky0) (List.mem_of_getElem? (zee hil))
   have HR:=veil (And.intro (zcf hE hb (hcl i _ (zee hil))) (And.intro (zcf hE hb' (hcl' i _ (zee hil))) (And.intro (Nat.lt_of_lt_of_le hb (Below.size hE)) (Nat.lt_of_lt_of_le hb' (Below.size hE)))))
   generalize l.getD i ky0 = k at *
   have kn:=fun W => neKy hwf W
   have kg:=fun op x y W => gKy k k op x y W
   have HE:=veil hE
   subst hAL hAL'
   clear hcl hcl' hb hb' hwf hE hil
   go_upto_region 6 with (fail)
   refine zdf 9 [(true,[0,1,2,3,4,5,6,7,8])] (by kernel_rfl) (by kernel_rfl) fun Q' hQ' => ?_
   refine' zbz (A:=_) _ rfl (by kernel_rfl) ?_ ?_
   rotate_left
   ·
    intro D hD hN
    simp only [pickI,consO,List.getElem?_cons_zero,List.getElem?_cons_succ]
    iterate 3 (go_big_quiet_step (fail))
    go_big_quiet_want
    refine zep (.agg (kyC k).toArray) (fun x => run_loadm_v rfl rfl (hD.range HR.out.2.2.1 HR.out.1 x) Tryz.underlying55 rfl (iKy k)) ?_
    simp only [aP,lA,lZ,lS]
    go_big_quiet_on
    iterate 3 (go_big_quiet_step (fail))
    go_big_quiet_want
    refine zep (.agg (kyC k).toArray) (fun x => run_loadm_v rfl rfl (hD.range HR.out.2.2.2 HR.out.2.1 x) Tryz.underlying55 rfl (iKy k)) ?_
    simp only [aP,lA,lZ,lS]
    go_big_quiet_on
    go_big_quiet_step (fail)
    exact zcz
   refine zct hQ' fun W2 hE2 => ?_
   clear kn kg
   go_wp2
   go_roundw
   case rel => exact ⟨i + 1,by omega,by go_num,HE.out.trans hE2⟩
   case measure => simp [intOf]; omega
  ·
   obtain rfl : i = n:=by omega
   have hd1 : decide ((i : Int) < (i : Int)) = false:=by simp
   go_wp2
   go_ret
   exact ⟨rfl,hE⟩
theorem infoKy96 : (Tryz.prog.info? 55).map (fun i => (i.zero,i.size,i.bytes)) = some (some (.agg #[.int .i64 0,vI vU 0,vI vU 0,vI vU 0,vI vU 0,vI vU 0,vI vU 0,vI vU 0,vI vU 0,.bool false,.int .i64 0,.int .i64 0]),12,96):=by kernel_rfl
theorem bldKy (k : Ky) (W : World) : (Instr.build 55 [(0,.int .i64 k.i),(1,.agg (qc k.x k.y k.f)),(2,.int .i64 k.a),(3,.int .i64 k.b)].toArray).run Tryz.prog W = .ok (.agg (kyC k).toArray) W:=by simp [Instr.build,go_sem,qc,kyC]
theorem bslKy (k : Ky) (W : World) : (Instr.buildSlice 22 1 #[(0,.agg (kyC k).toArray)]).run Tryz.prog W = .ok (.slice (some ⟨W.heap.size,0,none⟩) 1 1) (W.alloc (.cells (kyC k).toArray 55)):=by
 simp [Instr.buildSlice,go_sem,kyC,qc]
abbrev OwnK (w : World) (base : Nat) (v : Value) (l : List Ky) : Prop:=OwnL 12 kyC w base 55 v l
section
variable {ops : Array Oper} {Q : Exit → Act → World → Prop} {rest : List Oper} {a : Act} {w : World} {op : Oper}
theorem zcc {s x : Operand} {v : Value} {l ys : List Ky} {base m c : Nat} {A : Option Addr} (hgd : op.guard = none) (hop : op.op = .call { callee:=.builtin .append,args:=#[s,x],argTypes:=#[22,22] })
  (hs : a.eval s = v) (hx : a.eval x = .slice A m c) (o : OwnK w base v l) (hm : m = ys.length) (hy : Ks w (.slice A m c) ys) (hn : l.length + m ≤ 1000000000) (hbase : base ≤ w.heap.size)
  (h : ∀ v' w',OwnK w' base v' (l ++ ys) → w.grownBy w' v.ownBlock → wpList Tryz.prog ops Q rest (a.put op.dst v') w') : wpList Tryz.prog ops Q (op :: rest) a w:=by
 obtain ⟨i,hi,hz,hsz,hby⟩:=zfi infoKy96
 exact wpl_append_ls Tryz.underlying22 hi hz hsz hby rfl (by decide) zcs kyC_one hgd hop hs hx o hm hy (by unfold maxLen; omega) (by omega) hbase h
end
theorem zfx {P : Program} {ops : Array Oper} {Q : Exit → Act → World → Prop} {rest : List Oper} {a : Act} {w : World} {o : Oper} {t e : TypeId} {len : Nat} {ps : List (Nat × Operand)} {vs : List (Nat × Value)} {C : Array Value} (hg : o.guard = none) (hop : o.op = .buildSlice t len ps.toArray)
  (hv : ps.map (fun (i,x) => (i,a.eval x)) = vs) (hb : (Instr.buildSlice t len vs.toArray).run P w = .ok (.slice (some ⟨w.heap.size,0,none⟩) len len) (w.alloc (.cells C e)))
  (h : wpList P ops Q rest (a.put o.dst (.slice (some ⟨w.heap.size,0,none⟩) len len)) (w.alloc (.cells C e))) : wpList P ops Q (o :: rest) a w:=by
 refine wpList_plain hg fun K hK => ?_
 unfold Oper.wp execOp
 simp only [hop,List.map_toArray]
 rw [show ps.map (fun x => match x with | (i,x) => (i,a.eval x)) = vs from hv]
 simp only [Sem.run_bind,hb,Result.andThen_ok,Sem.run_pure]
 exact hK _ _ h
theorem OwnK.ks {w : World} {base : Nat} {v : Value} {l : List Ky} (o : OwnK w base v l) : Ks w v l:=OwnL.ls zcs o
/-! ### the keys of fields,one by one -/
theorem keysF_no {fs : List Fd} {pre : List Ky} {i : Nat} (hi : i < fs.length) (h : keysF 1 fs = (keysF ((i : Int) + 1) (fs.drop i)).map (pre ++ ·)) (hn : ¬ (tgF fs i = (i : Int) + 1 ∧ (keyOf (bsF fs i)).isSome = true)) : keysF 1 fs = none:=by
 have e : fs.drop i = (tgF fs i,bsF fs i) :: fs.drop (i + 1):=by
  rw [List.drop_eq_getElem_cons hi]
  congr 1
  unfold tgF bsF
  rw [List.getD_eq_getElem?_getD,List.getElem?_eq_getElem hi]
  rfl
 rw [h,e]
 show Option.map _ (if tgF fs i = _ then _ else none) = none
 by_cases ht : tgF fs i = (i : Int) + 1
 ·
  rw [if_pos ht]
  have hk : keyOf (bsF fs i) = none:=by
   cases hx : keyOf (bsF fs i) with
   | none => rfl
   | some k => exact absurd ⟨ht,by rw [hx]; rfl⟩ hn
  show Option.map _ ((keyOf (bsF fs i)).bind _) = none
  rw [hk]
  rfl
 ·
  rw [if_neg ht]
  rfl
theorem keysF_yes {fs : List Fd} {pre : List Ky} {i : Nat} {k : Ky} (hi : i < fs.length) (h : keysF 1 fs = (keysF ((i : Int) + 1) (fs.drop i)).map (pre ++ ·)) (ht : tgF fs i = (i : Int) + 1) (hk : keyOf (bsF fs i) = some k) : keysF 1 fs = (keysF (((i + 1 : Nat) : Int) + 1) (fs.drop (i + 1))).map ((pre ++ [k]) ++ ·):=by
 have e : fs.drop i = (tgF fs i,bsF fs i) :: fs.drop (i + 1):=by
  rw [List.drop_eq_getElem_cons hi]
  congr 1
  unfold tgF bsF
  rw [List.getD_eq_getElem?_getD,List.getElem?_eq_getElem hi]
  rfl
 rw [h,e]
 show Option.map _ (if tgF fs i = _ then (keyOf (bsF fs i)).bind _ else none) = _
 rw [if_pos ht,hk,Option.bind_some,show ((i + 1 : Nat) : Int) + 1 = (i : Int) + 1 + 1 by omega]
 cases keysF ((i : Int) + 1 + 1) (fs.drop (i + 1)) with
 | none => rfl
 | some x => simp
theorem keysF_end {fs : List Fd} {pre : List Ky} (h : keysF 1 fs = (keysF ((fs.length : Int) + 1) (fs.drop fs.length)).map (pre ++ ·)) : keysF 1 fs = some pre:=by
 rw [h,List.drop_length]
 simp [keysF]
theorem keysOf_get {bs : List Nat} {fs : List Fd} (h : getFs bs = some fs) : keysOf bs = (keysF 1 fs).filter mayK:=by
 unfold keysOf
 rw [h]
 rfl
theorem onB_top {x y : Nat} (h : onB x y false = true) : x < top ∧ y < top:=by
 have e : (256 : Nat) ^ 32 = top:=by decide +kernel
 have:=onB_lt h
 rwa [e] at this
theorem infoTG : (Tryz.prog.info? 5).map (fun i => (i.zero,i.size,i.bytes)) = some (some (.int .u8 0),1,1):=by kernel_rfl
theorem put_no (v : Value) (fs : List Fd) (w : World) (hF : Fl w v fs) (hL : fs.length ≤ 1000000000) (hM : mayFs fs = false) :
  Calls Tryz.prog 27 #[v] w fun e w' => e = .returned (.tuple #[.slice none 0 0,.iface 39 (.int .i64 1)]) ∧ Ext w w':=by
 have KM:=veil (zez v fs w hF hL)
 rw [hM] at KM
 clear hF hL hM
 go_enter Tryz.func27,Tryz.ntmps27
 go_wp2_with (go_at_call 51; refine KM.out.mono ?_; rintro e w1 ⟨rfl,hE1⟩)
 go_ret2
 exact ⟨rfl,hE1⟩
theorem put_yes (v : Value) (fs : List Fd) (w : World) (hF : Fl w v fs) (hM : mayFs fs = true) :
  Calls Tryz.prog 27 #[v] w fun e w' => ∃ A c,e = .returned (.tuple #[.slice A (encF fs).length c,.nilIface]) ∧ (encF fs).length ≤ c ∧ Bs w' A (encF fs) ∧ Ext w w':=by
 have h64:=ziv hM
 have KM:=veil (zez v fs w hF (by omega))
 rw [hM] at KM
 have HF:=veil hF
 obtain ⟨hB,AL,c,rfl,hc,hx⟩:=hF
 obtain ⟨n,hn⟩ : ∃ n,n = fs.length:=⟨_,rfl⟩
 rw [← hn] at hx hc KM HF ⊢
 have HR:=veil (And.intro hn (And.intro hM hB))
 have HX:=veil hx
 have hnL : n ≤ 64:=by omega
 clear hx hB hn hM h64
 go_enter Tryz.func27,Tryz.ntmps27
 go_upto_region 3 with (go_at_call 51; refine KM.out.mono ?_; rintro e w1 ⟨rfl,hE1⟩)
 have KS:=veil (sizeOf_calls _ fs w1 (HF.out.ext hE1) HR.out.2.1)
 have HE1:=veil hE1
 have hle:=zgc HR.out.2.1 fs.length
 rw [List.take_length] at hle
 obtain ⟨S,hS⟩ : ∃ S,S = (encF fs).length:=⟨_,rfl⟩
 rw [← hS] at KS hle
 obtain ⟨i8,hi8,hz0,hz1,hz2⟩:=info_parts infoTG
 have HI:=veil (And.intro hi8 (And.intro hz0 (And.intro hz1 hz2)))
 clear hE1 KM hi8 hz0 hz1 hz2 hS
 go_upto_region 4 with (first
  | (go_at_call 52; refine KS.out.mono ?_; rintro e w2 ⟨rfl,hE2⟩)
  | ((with_reducible refine zam 14 ?_); refine wpList_make_own _ rfl _ _ 33 rfl w.heap.size 5 i8 (.int .u8 0) 1 Tryz.underlying33 HI.out.1 HI.out.2.1 HI.out.2.2.1 .i64 .i64 _ S rfl rfl rfl (by rw [HI.out.2.2.2]; omega) (by unfold maxLen; omega) (Below.size (HE1.out.trans hE2)) ?_; intro w3 hO3 hG3))
 have hE3 : Ext w w3:=(HE1.out.trans hE2).grown hG3 (Below.size (HE1.out.trans hE2)) fun k hk => by cases hk
 have hO : OwnB w3 w.heap.size (.slice (some ⟨w2.heap.size,0,none⟩) 0 S) []:=⟨(fun _ h => by cases h),hO3⟩
 clear hO3 hG3 hE2
 go_wp2
 go_loopw [4,17] (fun s v wr => ∃ i : Nat,i ≤ n ∧ OwnB wr w.heap.size s (encF (fs.take i)) ∧ v = .int .i64 (i : Int) ∧ Ext w wr)
  (fun _ v _ => n - (intOf v).toNat)
 case atStart => exact ⟨0,by omega,hO,rfl,hE3⟩
 case round =>
  obtain ⟨i,hi,hO,rfl,hE⟩:=hrel
  by_cases hlt : i < n
  ·
   have hd1 : decide ((i : Int) < (n : Int)) = true:=by simp; omega
   have hii : (i : Int) < (n : Int):=by omega
   have hok:=mayFs_ok HR.out.2.1 (by have:=HR.out.1; omega : i < fs.length)
   have hst:=encF_take fs (by have:=HR.out.1; omega : i < fs.length)
   have hle:=zgc HR.out.2.1 i
   obtain ⟨b,o,hAL,hb,hcl⟩:=HX.out.resolve_left (by omega)
   obtain ⟨h1,A,c',h2,h3,h4⟩:=hcl i hlt
   have c0:=(hE.cell hb).trans h1
   have c1:=(hE.cell hb).trans h2
   have hBS:=h4
   have hT1:=hok.1
   have hT2:=hok.2.1
   have hL1:=hok.2.2.1
   have HS:=veil (And.intro hst (And.intro hle hO))
   clear hcl h1 h2 hok hst hle h4 hO
   generalize tgF fs i = T at *
   generalize bsF fs i = D0 at *
   obtain ⟨L,hL⟩ : ∃ L,L = D0.length:=⟨_,rfl⟩
   rw [← hL] at c1 hL1 h3
   have HD:=veil (And.intro hL hBS)
   have HRG:=veil (rng_fd c0 c1)
   clear c0 c1 hL hBS
   have hL2 : (L : Int) ≤ 65535:=by omega
   subst hAL
   go_upto_region 7 with (first
    | ((with_reducible refine zam 20 ?_); refine wpList_load_mid rfl 64 _ rfl b _ rfl _ _ HRG.out Tryz.underlying64 rfl infoF2 ?_)
    | ((with_reducible refine zam 6 ?_); refine zda _ _ rfl rfl rfl rfl rfl rfl hzF (fun _ => rfl) (fun _ => rfl) infoF2 rfl zia ?_; intro g W hg hW hEW))
   have hEE:=hE.trans hEW
   have HW:=veil (And.intro hW (And.intro hEE hEW))
   obtain ⟨d0,d1⟩:=zfw hW
   clear hW hEW hE hEE
   go_upto_region 9 with ((with_reducible refine zam 34 ?_); refine zbt _ rfl _ _ 33 rfl w.heap.size 5 i8 (.int .u8 0) 1 Tryz.underlying33 HI.out.1 HI.out.2.1 HI.out.2.2.1 HI.out.2.2.2 rfl _ _ _ rfl (HS.out.2.2.ext (HW.out.2.2.trans (Ext.alloc W _))).2 (some ⟨W.heap.size,0,none⟩) 3 3 rfl _ (hdr3 (zaj W _) hT1 hT2 hL1 HD.out.1).from (fun _ => rfl) (by unfold maxLen; have:=HS.out.2.1; omega) (by have:=HS.out.2.1; omega) (Nat.le_trans (Below.size HW.out.2.1) (Below.size (Ext.alloc W _))) ?_; intro v6 w6 hO6 hG6 _)
   have hEa:=HW.out.2.1.trans (Ext.alloc W (.cells #[.int .u8 T,.int .u8 ((L : Int) / 256),.int .u8 ((L : Int) % 256)] 5))
   have hE6 : Ext w w6:=hEa.grown hG6 (Below.size hEa) fun k hk => (HS.out.2.2.2.lt hk).1
   have hgl : g < (W.alloc (.cells #[.int .u8 T,.int .u8 ((L : Int) / 256),.int .u8 ((L : Int) % 256)] 5)).heap.size:=Nat.lt_of_lt_of_le (Array.getElem?_eq_some_iff.1 HW.out.1).1 (Below.size (Ext.alloc W _))
   have hg6 : w6.heap[g]? = some (.cells #[.int .i64 T,.slice A L c'] 64 (0,0)):=(hG6.block g hgl fun hk => by have:=(HS.out.2.2.2.lt hk.symm).2; omega).trans ((Ext.alloc W _).block HW.out.1)
   have hO7 : OwnB w6 w.heap.size v6 (encF (fs.take i) ++ hdr (T,D0)):=OwnB.append hO6 HS.out.2.2.1 (hdr_byt _) rfl rfl
   obtain ⟨e0,e1⟩:=zfw hg6
   have hl3 : (encF (fs.take i) ++ hdr (T,D0)).length ≤ 4194435:=by rw [List.length_append]; have:=HS.out.2.1; show _ + 3 ≤ _; omega
   have H7:=veil (And.intro hO7 (And.intro hE6 (And.intro hg6 hl3)))
   have hfr:=(HD.out.2.ext hE6).from
   rw [← HD.out.1] at hfr
   have HFR:=veil hfr
   clear hO6 hG6 hEa hgl hg6 hO7 d0 d1 hl3 hfr hE6
   go_wp2_with ((with_reducible refine zam 38 ?_); refine zbt _ rfl _ _ 33 rfl w.heap.size 5 i8 (.int .u8 0) 1 Tryz.underlying33 HI.out.1 HI.out.2.1 HI.out.2.2.1 HI.out.2.2.2 rfl _ _ _ rfl H7.out.1.2 A L c' rfl _ HFR.out (fun _ => rfl) (by unfold maxLen; have:=H7.out.2.2.2; omega) (by have:=H7.out.2.2.2; omega) (Below.size H7.out.2.1) ?_; intro v8 w8 hO8 hG8 _)
   have hE8 : Ext w w8:=H7.out.2.1.grown hG8 (Below.size H7.out.2.1) fun k hk => (H7.out.1.2.lt hk).1
   have hO9 : OwnB w8 w.heap.size v8 (encF (fs.take i) ++ hdr (T,D0) ++ D0):=OwnB.append hO8 H7.out.1.1 HD.out.2.1 rfl HD.out.1
   rw [List.append_assoc] at hO9
   clear hO8 hG8
   go_roundw
   case rel => exact ⟨i + 1,by omega,by rw [HS.out.1]; exact hO9,by go_num,hE8⟩
   case measure => simp [intOf]; omega
  ·
   obtain rfl : i = n:=by omega
   have e : encF (fs.take i) = encF fs:=by rw [HR.out.1,List.take_length]
   rw [e] at hO
   obtain ⟨A,c2,rfl,hc2,hB2⟩:=hO.bs
   clear hO
   go_wp2
   go_ret2
   exact ⟨A,c2,rfl,hc2,hB2,hE⟩
theorem szB_long {D : List Nat} (h0 : 0 < D.length) (h : D.length < szB D) : parse D = none:=by
 unfold szB at h
 by_cases h3 : D.length < 3
 ·
  exact parse_two h3 h0
 ·
  rw [if_neg h3] at h
  have:=parse_long (bs:=D) (a:=0) (n:=256 * D.getD 1 0 + D.getD 2 0) (by omega) rfl (by omega)
  rwa [List.drop_zero] at this
theorem szB_3 {D : List Nat} (h : szB D ≤ D.length) : 3 ≤ D.length:=by
 unfold szB at h
 by_cases h3 : D.length < 3
 ·
  rw [if_pos h3] at h; omega
 ·
  omega
theorem szB_ge (D : List Nat) : 3 ≤ szB D:=by unfold szB; split <;> omega
theorem szB_step {D : List Nat} {N : Nat} (hN : szB D = 3 + N) (h3 : 3 ≤ D.length) (h : 3 + N ≤ D.length) :
  parse D = (parse (D.drop (3 + N))).map ((((D.getD 0 0 : Nat) : Int),(D.drop 3).take N) :: ·):=by
 unfold szB at hN
 rw [if_neg (by omega)] at hN
 have:=parse_more (bs:=D) (a:=0) (n:=N) (by omega) (by show N = 256 * D.getD 1 0 + D.getD 2 0; omega) (by omega)
 rwa [List.drop_zero,Nat.zero_add] at this
theorem get_of_false {bs D : List Nat} {fs : List Fd} (h : parse bs = (parse D).map (fs ++ ·)) (hl : 64 < fs.length) : getFs bs = none:=by
 rw [zfj,h]
 cases parse D with
 | none => rfl
 | some x =>
  have hm : mayFs (fs ++ x) = false:=decide_eq_false fun hh => by have:=hh.1; rw [List.length_append] at this; omega
  simp [hm]
def lenV : Value → Nat
 | .slice _ n _ => n
 | _ => 0
theorem zcn {P : Program} {o : Oper} {a : Act} {t : TypeId} {x z : Operand} {v v' vz : Value} {W : World} (ho : o.op = .slice t x (some z) none none) (hx : a.eval x = v) (hz : a.eval z = vz)
  (h : (Instr.sliceAt t v (some vz) none none).run P W = .ok v' W) : (execOp a.eval o).run P W = .ok (.value v') W:=by
 unfold execOp
 simp only [ho,hx,hz,Option.map_some,Option.map_none,Sem.run_bind,h,Result.andThen_ok,Sem.run_pure]
theorem cut_from8 (A : Option Addr) (r c m : Nat) (hm : m ≤ r) (w : World) {y : Int} (hy : y = (m : Int)) : (Instr.sliceAt 33 (.slice A r c) (some (.int .i64 y)) none none).run Tryz.prog w = .ok (.slice (cutA A m c) (r - m) (c - m)) w:=by
 subst hy
 exact zjg A r c m hm w
theorem bs_drop {w : World} {A : Option Addr} {D : List Nat} {c : Nat} (h : Bs w A D) (m : Nat) (hm : m ≤ D.length) (hc : D.length ≤ c) : Bs w (cutA A m c) (D.drop m):=by
 have:=h.cut m (n:=D.length - m) (by omega) hc
 rwa [List.take_of_length_le (by rw [List.length_drop]; omega)] at this
theorem zce {P : Program} {Q : Exit → Act → World → Prop} {l : List Oper} {n k i d : Nat} {r : Sched} {a : Act} {w : World} {xs : List Operand} {ts : Array TypeId} {args : List Value} {R : Value → World → Prop} (o : Oper) (ho : l[i]? = some o) (hg : o.guard = none) (hd : o.dst = some d)
  (hop : o.op = .call { callee:=.value (.func k),args:=xs.toArray,argTypes:=ts }) (hx : xs.map a.eval = args)
  (he : ∀ W,(callFunc k args.toArray).run P W = .ok (.enter k args.toArray) W) (hc : ∀ W,Ext w W → Calls P k args.toArray W fun e W' => ∃ v,e = .returned v ∧ Ext W W' ∧ R v W')
  (h : ∀ v W,Ext w W → R v W → wpSched P l Q n r (a.put (some d) v) W) : wpSched P l Q n ((false,[i]) :: r) a w:=by
 refine zhf o ho hg fun W hW => ?_
 have h1 : execOp a.eval o = callFunc k (#[] ++ xs.toArray.map a.eval ++ #[]):=by
  cases o
  subst hop
  rfl
 have h2 : (execOp a.eval o).run P W = .ok (.enter k args.toArray) W:=by
  rw [h1,List.map_toArray,hx]
  simpa using he W
 unfold Oper.wp
 rw [h2,Oper.upon_enter]
 refine (hc W hW).mono ?_
 rintro e W' ⟨v,rfl,hE,hR⟩
 show (i < n → Ext W W') ∧ _
 rw [hd]
 exact ⟨fun _ => hE,h v W' (hW.trans hE) hR⟩
theorem zbw {P : Program} {f : FuncId} {fn : Func} {c : Code} (hf : P.funcs[f]? = some fn) (hname : (fn.name == "runtime.NumGoroutine") = false) (hb : fn.body = some c) (args : Array Value) (w : World) :
  (callFunc f args).run P w = .ok (.enter f args) w:=by
 have hn : ¬ fn.name = "runtime.NumGoroutine":=by simpa using hname
 simp [callFunc,go_sem,hf,hb,hn]
theorem get8_calls (A : Option Addr) (m c : Nat) (bs : List Nat) (hm : m = bs.length) (hmc : m ≤ c) (hle : m ≤ 100000000) (w : World) (hS : Bs w A bs) :
  Calls Tryz.prog 31 #[.slice A m c] w fun e w' => ∃ x ev,e = .returned (.tuple #[x,ev]) ∧ Ext w w' ∧ GetA w' bs x ev:=by
 have HS:=veil (And.intro hm (And.intro hmc (And.intro hS hle)))
 clear hS hm hmc hle
 go_enter Tryz.func31,Tryz.ntmps31
 go_wp2
 go_loopw [0,4] (fun s v wr => ∃ (A : Option Addr) (m c : Nat) (D : List Nat) (fs : List Fd),s = .slice A m c ∧ m = D.length ∧ m ≤ c ∧ m ≤ 100000000 ∧ Bs w A D ∧ OwnFs wr w.heap.size v fs ∧ fs.length ≤ 65 ∧ parse bs = (parse D).map (fs ++ ·) ∧ Ext w wr)
  (fun s _ _ => lenV s)
 case atStart => exact ⟨A,m,c,bs,[],rfl,HS.out.1,HS.out.2.1,HS.out.2.2.2,HS.out.2.2.1,OwnFs.nil _ _,by simp,by simp,Ext.refl _⟩
 case round =>
  obtain ⟨A,m,c,D,fs,rfl,hm,hmc,hle,hB,hO,hfl,hpar,hE⟩:=hrel
  have HO:=veil (And.intro hO (And.intro hfl hpar))
  have HB:=veil (And.intro hm (And.intro hB hmc))
  obtain ⟨AL,cl,hv,hcl,_⟩:=hO.fl.2
  obtain ⟨k,hk⟩ : ∃ k,k = fs.length:=⟨_,rfl⟩
  rw [← hk] at hv hcl hfl
  have HK:=veil hk
  clear hO hpar hm hB hk
  have KM:=veil (zez _ fs wr HO.out.1.fl (by have:=HK.out; omega))
  subst hv
  by_cases hlt : 0 < m
  ·
   have hd1 : decide ((0 : Int) < (m : Int)) = true:=by simp; omega
   have hd1' : decide (0 < m) = true:=by simp; omega
   by_cases hk : (k : Int) ≤ 64
   ·
    have hd2 : decide ((k : Int) ≤ 64) = true:=decide_eq_true hk
    have KZ:=veil (sizeFirst_calls A m c D HB.out.1 wr (HB.out.2.1.ext hE))
    have HZ3:=szB_ge D
    obtain ⟨N,hN⟩ : ∃ N,szB D = 3 + N:=⟨szB D - 3,by omega⟩
    rw [hN] at KZ
    have HN:=veil hN
    clear HZ3 hN
    go_upto_region 4 with (go_at_call 54; refine KZ.out.mono ?_; rintro e w1 ⟨rfl,hE1⟩)
    have HE1:=veil (hE.trans hE1)
    have hO1:=HO.out.1.keep hE1
    have HO1:=veil hO1
    clear hO1 KM hE1 KZ
    by_cases h4 : m < 3 + N
    ·
     have hd3 : decide ((m : Int) < 3 + (N : Int)) = true:=by simp; omega
     have hn : getFs bs = none:=by
      rw [zfj,HO.out.2.2,szB_long (by have:=HB.out.1; omega) (by have:=HB.out.1; rw [HN.out]; omega)]
      rfl
     go_wp2
     go_ret2
     exact ⟨_,_,rfl,HE1.out,.inl ⟨hn,⟨none,0,rfl⟩,rfl⟩⟩
    ·
     have hd3 : decide ((m : Int) < 3 + (N : Int)) = false:=by simp; omega
     have h3m : 3 ≤ m:=by have:=HB.out.1; have:=szB_3 (D:=D) (by rw [HN.out]; omega); omega
     have hst:=szB_step HN.out (by have:=HB.out.1; omega : 3 ≤ D.length) (by have:=HB.out.1; omega)
     have hbt:=HB.out.2.1.ext HE1.out
     obtain ⟨b,o,hA,hbl,c0⟩:=hbt.cell (j:=0) (by have:=HB.out.1; omega)
     rw [Nat.add_zero] at c0
     have l0:=HB.out.2.1.1.getD 0
     obtain ⟨T,hT⟩ : ∃ T,T = D.getD 0 0:=⟨_,rfl⟩
     rw [← hT] at c0 l0 hst
     have k0 : (T : Int) ≤ 255:=by omega
     have i0 : (0 : Int) < (m : Int):=by omega
     have HST:=veil (And.intro hst hbt)
     have hbd:=bs_drop (c:=c) HB.out.2.1 (3 + N) (by have:=HB.out.1; omega) (by have:=HB.out.1; omega)
     have HBD:=veil hbd
     clear hst hbt hT l0 hbd
     subst hA
     go_upto_region 6 with (fail)
     refine zdf 11 [(true,[0,1,2,3,4,5,6,7]),(false,[8]),(true,[9]),(false,[10]),(false,[11]),(false,[12])] (by kernel_rfl) (by kernel_rfl) fun Q' hQ' => ?_
     refine' zbz (A:=_) _ rfl (by kernel_rfl) ?h1 ?h2
     case h1 =>
      intro D' hD hN'
      have d0:=hD.cell c0
      simp only [pickI,consO,List.getElem?_cons_zero,List.getElem?_cons_succ]
      iterate 7 (go_big_quiet_step (fail))
      go_big_quiet_want
      refine zep (.slice (cutA (some ⟨b,o,none⟩) 3 c) N (c - 3)) (fun x => zfg rfl rfl rfl rfl (cut_mid _ _ _ 3 N (by omega) _ rfl (by omega))) ?_
      simp only [aP,lA,lZ,lS]
      go_big_quiet_on
      exact zcz
     have hl : N = ((D.drop 3).take N).length:=by rw [List.length_take,List.length_drop]; have:=HB.out.1; omega
     have hBc:=HST.out.2.cut 3 (n:=N) (c:=c) (by have:=HB.out.1; omega) (by have:=HB.out.1; omega)
     have HC:=veil (And.intro hl hBc)
     clear hl hBc
     refine zce (R:=fun v W => ∃ A' c',v = .slice A' N c' ∧ N ≤ c' ∧ Bs W A' ((D.drop 3).take N) ∧ Fresh w1 A' ((D.drop 3).take N)) _ rfl rfl rfl rfl rfl (zbw Tryz.func55 rfl rfl _) (fun W hW => (clone8_calls _ N (c - 3) ((D.drop 3).take N) HC.out.1 (by omega) W (HC.out.2.ext hW)).mono fun e W' ⟨A',c',he,hE',hc',hB',hF'⟩ => ⟨_,he,hE',A',c',rfl,hc',hB',hF'.imp id fun h b o e => Nat.le_trans (Below.size hW) (h b o e)⟩) ?_
     rintro _ W2 hE2 ⟨A',c',rfl,hc',hB',hF'⟩
     simp only [aP,lA,lZ,lS]
     refine' zbz (A:=_) _ rfl (by kernel_rfl) ?k1 ?k2
     case k1 =>
      intro D' hD hN'
      simp only [pickI,consO,List.getElem?_cons_zero,List.getElem?_cons_succ]
      repeat (go_big_quiet_step (fail))
      exact zcz
     refine zgj (vs:=[(0,.agg #[.int .i64 (T : Int),.slice A' N c'])]) (C:=#[.int .i64 (T : Int),.slice A' N c']) (e:=64) _ rfl rfl rfl rfl rfl (fun W => by simp [Instr.buildSlice,go_sem]) ?_
     intro g2 W3 hg2 hgb2 hE3
     simp only [aP,lA,lZ,lS]
     have hEW3:=hE2.trans hE3
     have hown3:=HO1.out.keep hEW3
     have hoff : Off A' ((D.drop 3).take N) (Value.ownBlock (.slice AL k cl)):=hF'.off fun k hk => (HO1.out.lt hk).2
     have hBn:=hB'.ext hE3
     have hbase:=Nat.le_trans (Below.size HE1.out) (Below.size hEW3)
     have hNl:=HC.out.1
     have hfl9 : fs.length ≤ 1000000000:=by have:=HK.out; omega
     rw [hNl] at hgb2 hc'
     refine sched_append_fd (f:=((T : Int),(D.drop 3).take N)) (al:=(A',c')) _ rfl rfl rfl rfl rfl rfl (by decide) hown3 hgb2 hc' hBn hoff hfl9 hbase ?_
     intro v' W4 W5 hE4 hO5 hG5
     simp only [aP,lA,lZ,lS]
     have hE5 : Ext w W5:=(HE1.out.trans (hEW3.trans hE4)).grown hG5 (Below.size (HE1.out.trans (hEW3.trans hE4))) fun k hk => (HO1.out.lt hk).1
     have HO5:=veil (And.intro hO5 hE5)
     clear hown3 hoff hBn hbase hNl hgb2 hc' hO5 hE5 hG5
     refine sched_assign v' _ rfl rfl rfl rfl rfl ?_
     intro W6 hE6
     simp only [aP,lA,lZ,lS]
     refine zct hQ' fun W7 hE7 => ?_
     have hle3 : 3 + N ≤ m:=by omega
     go_wp2_with ((with_reducible refine zam 35 ?_); refine zbf (.slice (cutA (some ⟨b,o,none⟩) (3 + N) c) (m - (3 + N)) (c - (3 + N))) rfl (zcn rfl rfl rfl (cut_from8 _ _ _ (3 + N) hle3 _ (by omega))) ?_)
     go_roundw
     case rel =>
      refine ⟨_,m - (3 + N),c - (3 + N),D.drop (3 + N),fs ++ [((T : Int),(D.drop 3).take N)],rfl,by rw [List.length_drop,← HB.out.1],by omega,by omega,HBD.out,(HO5.out.1.keep hE6).keep hE7,?_,?_,HO5.out.2.trans (hE6.trans hE7)⟩
      ·
       rw [List.length_append,List.length_singleton]; have:=HK.out; omega
      ·
       rw [HO.out.2.2,HST.out.1]
       cases parse (D.drop (3 + N)) with
       | none => rfl
       | some x => simp
     case measure => simp [lenV]; omega
   ·
    have hd2 : decide ((k : Int) ≤ 64) = false:=decide_eq_false hk
    have hmay : mayFs fs = false:=decide_eq_false fun hh => by have:=hh.1; have:=HK.out; omega
    rw [hmay] at KM
    have HE:=veil hE
    clear hE hmay
    go_wp2_with (go_at_call 51; refine KM.out.mono ?_; rintro e w2 ⟨rfl,hE2⟩)
    go_ret2
    exact ⟨_,_,rfl,HE.out.trans hE2,.inl ⟨get_of_false HO.out.2.2 (by have:=HK.out; omega),⟨none,0,rfl⟩,rfl⟩⟩
  ·
   have hd1 : decide ((0 : Int) < (m : Int)) = false:=by simp; omega
   have hd1' : decide (0 < m) = false:=by simp; omega
   have hp : parse bs = some fs:=by
    rw [HO.out.2.2,List.length_eq_zero_iff.1 (show D.length = 0 by have:=HB.out.1; omega),zhi]
    simp
   have HP:=veil (And.intro hE (And.intro hp HO.out.1.fl))
   cases hmay : mayFs fs with
   | false =>
    rw [hmay] at KM
    have hn : getFs bs = none:=by
     rw [zfj,hp]
     simp [hmay]
    have HN:=veil hn
    clear hE hmay hp hn
    go_wp2_with (go_at_call 51; refine KM.out.mono ?_; rintro e w2 ⟨rfl,hE2⟩)
    go_ret2
    exact ⟨_,_,rfl,HP.out.1.trans hE2,.inl ⟨HN.out,⟨none,0,rfl⟩,rfl⟩⟩
   | true =>
    rw [hmay] at KM
    have hn : getFs bs = some fs:=by
     rw [zfj,hp]
     simp [hmay]
    have HN:=veil hn
    clear hE hmay hp hn
    go_wp2_with (go_at_call 51; refine KM.out.mono ?_; rintro e w2 ⟨rfl,hE2⟩)
    go_ret2
    exact ⟨_,_,rfl,HP.out.1.trans hE2,.inr ⟨fs,HN.out,rfl,HP.out.2.2.ext hE2⟩⟩
theorem cntK_no {k : Ky} {id at_ : Int} (h : ¬ (k.i = id ∧ k.a ≤ at_ ∧ at_ < k.b)) : cntK k id at_ = false:=by
 unfold cntK
 simp only [Bool.and_eq_false_iff,decide_eq_false_iff_not]
 omega
theorem cntK_yes {k : Ky} {id at_ : Int} (h : k.i = id ∧ k.a ≤ at_ ∧ at_ < k.b) : cntK k id at_ = true:=by
 unfold cntK
 simp only [Bool.and_eq_true,decide_eq_true_eq]
 omega
end Go.Proofs.YthlbemnbmbmjhaaGreatDoor
namespace Go.Proofs.YthlbemnbmbmjhaaGreatDoor
theorem mayK_rise {l : List Ky} (h : mayK l = true) : ∀ d i,i + (d + 1) < l.length → (l.getD i ky0).i < (l.getD (i + (d + 1)) ky0).i
 | 0,i,hi => by
  have h1:=(mayK_ok h hi).2.2.2.2.2.2.2 (by omega)
  rwa [show i + (0 + 1) - 1 = i by omega] at h1
 | d + 1,i,hi => by
  have h1:=(mayK_ok h hi).2.2.2.2.2.2.2 (by omega)
  have h2:=mayK_rise h d i (by omega)
  rw [show i + (d + 1 + 1) - 1 = i + (d + 1) by omega] at h1
  omega
theorem findK_cnt {l : List Ky} {id at_ : Int} {k : Ky} (h : findK l id at_ = some k) : cntK k id at_ = true ∧ k ∈ l:=by
 unfold findK at h
 exact ⟨List.find?_some (p:=fun k => cntK k id at_) h,List.mem_of_find?_eq_some h⟩
theorem cntK_id {k : Ky} {id at_ : Int} (h : cntK k id at_ = true) : k.i = id:=by
 unfold cntK at h
 simp only [Bool.and_eq_true,decide_eq_true_eq] at h
 exact h.1.1
theorem getD_mid (a b : List Ky) (m : Ky) : (a ++ m :: b).getD a.length ky0 = m:=by simp [List.getD_eq_getElem?_getD]
theorem getD_behind (a b : List Ky) (m : Ky) {q : Nat} (hq : q < b.length) : (a ++ m :: b).getD (a.length + (q + 1)) ky0 = b[q]:=by
 simp [List.getD_eq_getElem?_getD,hq]
theorem findK_more {a b : List Ky} {m k : Ky} {id at_ : Int} (hm : mayK (a ++ m :: b) = true) (h : findK (a ++ b) id at_ = some k) : findK (a ++ m :: b) id at_ = some k:=by
 unfold findK at h ⊢
 rw [List.find?_append] at h ⊢
 cases ha : a.find? fun k => cntK k id at_ with
 | some x => rw [ha] at h; exact h
 | none =>
  rw [ha] at h
  simp only [Option.none_or] at h ⊢
  obtain ⟨hc,hk⟩:=findK_cnt h
  have hno : cntK m id at_ = false:=by
   cases hx : cntK m id at_ with
   | false => rfl
   | true =>
    obtain ⟨q,hq,e⟩:=List.mem_iff_getElem.1 hk
    have h1:=mayK_rise hm q a.length (by simp; omega)
    rw [getD_mid,getD_behind a b m hq,e,cntK_id hx,cntK_id hc] at h1
    omega
  rw [List.find?_cons,hno]
  exact h
def kcheckB (L : Low) (l : List Ky) (bs : List Nat) (at_ : Int) : Tk × Nat:=match openB bs with
 | none => (⟨0,0,0,0,0⟩,2)
 | some (t,_,_) => match findK l t.k at_ with
  | none => (⟨0,0,0,0,0⟩,4)
  | some k => checkB L k.x k.y k.f bs
theorem zem {L : Low} {l : List Ky} {bs : List Nat} {at_ : Int} (h : openB bs = none) : kcheckB L l bs at_ = (⟨0,0,0,0,0⟩,2):=by
 unfold kcheckB
 rw [h]
theorem zdi {L : Low} {l : List Ky} {bs : List Nat} {at_ : Int} {t : Tk} {r s : Nat} (h : openB bs = some (t,r,s)) : kcheckB L l bs at_ = match findK l t.k at_ with
  | none => (⟨0,0,0,0,0⟩,4)
  | some k => checkB L k.x k.y k.f bs:=by
 unfold kcheckB
 rw [h]
theorem zjb {L : Low} {a b : List Ky} {m : Ky} {bs : List Nat} {at_ : Int} (hm : mayK (a ++ m :: b) = true) (h : (kcheckB L (a ++ b) bs at_).2 = 0) : kcheckB L (a ++ m :: b) bs at_ = kcheckB L (a ++ b) bs at_:=by
 cases ho : openB bs with
 | none => rw [zem ho,zem ho]
 | some v =>
  obtain ⟨t,r,s⟩:=v
  rw [zdi ho] at h ⊢
  rw [zdi ho]
  cases hf : findK (a ++ b) t.k at_ with
  | none => rw [hf] at h; cases h
  | some k => rw [findK_more hm hf]
end Go.Proofs.YthlbemnbmbmjhaaGreatDoor
namespace Go.Proofs.YthlbemnbmbmjhaaGreatDoor
open Go.RowKit
open Go.Value renaming int → vI
open Go.IntKind renaming u64 → vU
open Go.Act renaming put → aP
open List renaming setIfInBounds_toArray → lA, set_cons_zero → lZ, set_cons_succ → lS
theorem zis (o : Option Ky) : PZ.size = (qO o).size:=by cases o <;> rfl
theorem qO_info (o : Option Ky) : (Tryz.prog.info? 29).map (·.size) = some (qO o).size:=by cases o <;> exact iT _ _ _
theorem qO_one (o : Option Ky) : (qO o).all (·.oneCell') = true:=by cases o <;> exact zcr _ _ _
theorem kcheckB_no {L : Low} {l : List Ky} {bs : List Nat} {at_ : Int} {t : Tk} {r s : Nat} (h : openB bs = some (t,r,s)) (hf : findK l t.k at_ = none) : kcheckB L l bs at_ = (⟨0,0,0,0,0⟩,4):=by
 rw [zdi h,hf]
theorem kcheckB_yes {L : Low} {l : List Ky} {bs : List Nat} {at_ : Int} {t : Tk} {r s : Nat} {k : Ky} (h : openB bs = some (t,r,s)) (hf : findK l t.k at_ = some k) : kcheckB L l bs at_ = checkB L k.x k.y k.f bs:=by
 rw [zdi h,hf]
theorem eqCode22 (w : World) : (binOp .eql 35 (.iface 39 (.int .i64 2)) (.iface 39 (.int .i64 2))).run Tryz.prog w = .ok (.bool true) w:=by kernel_rfl
def findC (l : List Ky) (id at_ : Int) : Option Ky:=if mayK l = true then findK l id at_ else none
def checkC (L : Low) (l : List Ky) (bs : List Nat) (at_ : Int) : Tk × Nat:=if mayK l = true then kcheckB L l bs at_ else (⟨0,0,0,0,0⟩,1)
def KBytesA (w' : World) (l : List Ky) (x ev : Value) : Prop :=
 (mayK l = false ∧ (∃ A c,x = .slice A 0 c) ∧ ev = .iface 39 (.int .i64 1)) ∨ (mayK l = true ∧ (∃ A c,x = .slice A (keysB l).length c ∧ (keysB l).length ≤ c ∧ Bs w' A (keysB l)) ∧ ev = .nilIface)
def KParseA (w' : World) (bs : List Nat) (x ev : Value) : Prop :=
 (keysOf bs = none ∧ (∃ A c,x = .slice A 0 c) ∧ ev = .iface 39 (.int .i64 2)) ∨ (∃ l,keysOf bs = some l ∧ Ks w' x l ∧ ev = .nilIface)
structure Code10 (L : Low) (I : World → Prop) : Prop where
 keep : ∀ w w',I w → Ext w w' → I w'
 base : ∀ w,Calls Tryz.prog 20 #[] w fun e w' => e = .returned (.agg (qc Pt.gx Pt.gy false)) ∧ Ext w w'
 may : ∀ v l w,Ks w v l → TopK l → l.length ≤ 1000 → Calls Tryz.prog 10 #[v] w fun e w' => e = .returned (.bool (mayK l)) ∧ Ext w w'
 find : ∀ v l id at_ w,Ks w v l → TopK l → l.length ≤ 1000 → Calls Tryz.prog 9 #[v,.int .i64 id,.int .i64 at_] w fun e w' => e = .returned (.tuple #[.agg (qO (findC l id at_)),.bool (findC l id at_).isSome]) ∧ Ext w w'
 bytes : ∀ v l w,Ks w v l → TopK l → l.length ≤ 1000 → Calls Tryz.prog 12 #[v] w fun e w' => ∃ x ev,e = .returned (.tuple #[x,ev]) ∧ Ext w w' ∧ KBytesA w' l x ev
 parse : ∀ A m c bs w,m = bs.length → m ≤ c → m ≤ 8000 → Bs w A bs → Calls Tryz.prog 14 #[.slice A m c] w fun e w' => ∃ x ev,e = .returned (.tuple #[x,ev]) ∧ Ext w w' ∧ KParseA w' bs x ev
 check : ∀ v l at_ A m c bs w,I w → Ks w v l → TopK l → l.length ≤ 1000 → m = bs.length → m ≤ c → m ≤ 5000 → Bs w A bs → Calls Tryz.prog 17 #[v,.slice A m c,.int .i64 at_] w fun e w' => e = .returned (.tuple #[tkV (checkC L l bs at_).1,errV (checkC L l bs at_).2]) ∧ Ext w w'
 check_nil : ∀ w,Calls Tryz.prog 17 #[.slice none 0 0,.slice none 0 0,.int .i64 0] w fun e w' => e = .returned (.tuple #[.agg (tkC ⟨0,0,0,0,0⟩),.iface 39 (.int .i64 2)]) ∧ Ext w w'
theorem onB_base : onB Pt.gx Pt.gy false = true:=by decide +kernel
theorem gx_top : Pt.gx < top:=(onB_top onB_base).1
theorem gy_top : Pt.gy < top:=(onB_top onB_base).2
def kB : Ky:=⟨1,Pt.gx,Pt.gy,false,5,6⟩
theorem may_kB : mayK [kB] = true:=by
 rw [mayK_len fun j hj => ?_]
 ·
  rfl
 ·
  obtain rfl : j = 0:=by simpa using hj
  exact ⟨by decide,by decide,onB_base,rfl,by decide,by decide,by decide,fun h => absurd h (by decide)⟩
theorem find_kB5 : findC [kB] 1 5 = some kB:=by
 unfold findC
 rw [if_pos may_kB]
 rfl
theorem find_kB6 : findC [kB] 1 6 = none:=by
 unfold findC
 rw [if_pos may_kB]
 rfl
theorem top_kB : TopK [kB]:=fun k hk => by
 rw [List.mem_singleton.1 hk]
 exact ⟨gx_top,gy_top⟩
theorem up10 {L : Low} {I : World → Prop} (C : Code10 L I) (w : World) : Calls Tryz.prog 7 #[] w fun e w' => e = .returned (.bool true) ∧ Ext w w':=by
 have KC:=veil (fun W => C.check_nil W)
 have KB:=veil (fun W => C.base W)
 have KF:=veil (fun (g : Nat) (at_ : Int) W (hg : W.heap[g]? = some (.cells (kyC kB).toArray 55 (0,0))) => C.find (.slice (some ⟨g,0,none⟩) 1 1) [kB] 1 at_ W (ls_one hg) top_kB (by decide : (1 : Nat) ≤ 1000))
 have h22:=eqCode22
 go_enter Tryz.func7,Tryz.ntmps7
 go_upto_region 2 with (first
  | (go_at_call 17; refine (KC.out _).mono ?_; rintro e w1 ⟨rfl,hE1⟩)
  | ((with_reducible refine zan ?_); refine wpList_store_row rfl 47 _ _ rfl w1.heap.size (tkC ⟨0,0,0,0,0⟩) rfl rfl 47 _ (zaj w1 _) (iTk _) rfl (zbp _) ?_; rw [World.setRow_alloc_new]))
 have hE2:=hE1.trans (Ext.alloc w1 (.cells (tkC ⟨0,0,0,0,0⟩) 47))
 generalize w1.alloc (.cells (tkC ⟨0,0,0,0,0⟩) 47) = w2 at *
 generalize w1.heap.size = g1 at *
 have H2:=veil hE2
 clear hE1 hE2 KC
 refine wp_region_list ?_
 refine zeg (R:=fun v W => v = .agg (qc Pt.gx Pt.gy false) ∧ Ext w2 W) rfl rfl rfl (zbw Tryz.func20 rfl rfl _) ((KB.out w2).mono fun e W' ⟨he,hE⟩ => ⟨_,he,rfl,hE⟩) ?_
 rintro _ w3 ⟨rfl,hE3⟩
 simp only [aP,lA,lZ,lS]
 refine zbf (.agg (kyC kB).toArray) rfl (zgk (vs:=[(0,.int .i64 1),(1,.agg (qc Pt.gx Pt.gy false)),(2,.int .i64 5),(3,.int .i64 6)]) rfl rfl (bldKy kB _)) ?_
 simp only [aP,lA,lZ,lS]
 refine zfx (vs:=[(0,.agg (kyC kB).toArray)]) rfl rfl rfl (bslKy kB w3) ?_
 simp only [aP,lA,lZ,lS]
 have K5:=KF.out w3.heap.size 5 _ (zaj w3 _)
 rw [find_kB5] at K5
 refine zeg (R:=fun v W => v = .tuple #[.agg (qO (some kB)),.bool true] ∧ Ext _ W) rfl rfl rfl (zbw Tryz.func9 rfl rfl _) (K5.mono fun e W' ⟨he,hE⟩ => ⟨_,he,rfl,hE⟩) ?_
 rintro _ w4 ⟨rfl,hE4⟩
 simp only [aP,lA,lZ,lS]
 refine zbf (.tuple #[.agg (qO (some kB)),.bool true]) rfl rfl ?_
 simp only [aP,lA,lZ,lS]
 refine zbf (.agg (qO (some kB))) rfl rfl ?_
 simp only [aP,lA,lZ,lS]
 refine zbf (.bool true) rfl rfl ?_
 simp only [aP,lA,lZ,lS]
 refine zda (zs:=PZ) _ _ rfl rfl rfl rfl rfl rfl (fun _ => rfl) (fun _ => rfl) (fun _ => rfl) (qO_info (some kB)) (zis (some kB)) (qO_one (some kB)) ?_
 intro g5 w5 _ h5 hE5
 simp only [aP,lA,lZ,lS]
 refine zbf (.bool true) rfl rfl ?_
 simp only [aP,lA,lZ,lS]
 refine wpList_nil ?_
 have H5:=veil (And.intro (H2.out.trans (hE3.trans ((Ext.alloc w3 _).trans (hE4.trans hE5)))) h5)
 clear K5 hE3 hE4 hE5 h5 H2
 go_upto_region 3 with (fail)
 refine wp_region_list ?_
 refine zeg (R:=fun v W => v = .agg (qc Pt.gx Pt.gy false) ∧ Ext w5 W) rfl rfl rfl (zbw Tryz.func20 rfl rfl _) ((KB.out w5).mono fun e W' ⟨he,hE⟩ => ⟨_,he,rfl,hE⟩) ?_
 rintro _ w6 ⟨rfl,hE6⟩
 simp only [aP,lA,lZ,lS]
 refine zbf (.agg (kyC kB).toArray) rfl (zgk (vs:=[(0,.int .i64 1),(1,.agg (qc Pt.gx Pt.gy false)),(2,.int .i64 5),(3,.int .i64 6)]) rfl rfl (bldKy kB _)) ?_
 simp only [aP,lA,lZ,lS]
 refine zfx (vs:=[(0,.agg (kyC kB).toArray)]) rfl rfl rfl (bslKy kB w6) ?_
 simp only [aP,lA,lZ,lS]
 have K6:=KF.out w6.heap.size 6 _ (zaj w6 _)
 rw [find_kB6] at K6
 refine zeg (R:=fun v W => v = .tuple #[.agg (qO none),.bool false] ∧ Ext _ W) rfl rfl rfl (zbw Tryz.func9 rfl rfl _) (K6.mono fun e W' ⟨he,hE⟩ => ⟨_,he,rfl,hE⟩) ?_
 rintro _ w7 ⟨rfl,hE7⟩
 simp only [aP,lA,lZ,lS]
 refine zbf (.tuple #[.agg (qO none),.bool false]) rfl rfl ?_
 simp only [aP,lA,lZ,lS]
 refine zbf (.agg (qO none)) rfl rfl ?_
 simp only [aP,lA,lZ,lS]
 refine zbf (.bool false) rfl rfl ?_
 simp only [aP,lA,lZ,lS]
 refine zda (zs:=PZ) _ _ rfl rfl rfl rfl rfl rfl (fun _ => rfl) (fun _ => rfl) (fun _ => rfl) (qO_info none) (zis none) (qO_one none) ?_
 intro g8 w8 _ _ hE8
 simp only [aP,lA,lZ,lS]
 refine zbf (.bool false) rfl rfl ?_
 simp only [aP,lA,lZ,lS]
 refine wpList_nil ?_
 have hE9:=hE6.trans ((Ext.alloc w6 _).trans (hE7.trans hE8))
 have H8:=veil (And.intro (H5.out.1.trans hE9) (hE9.block H5.out.2))
 clear K6 hE6 hE7 hE8 hE9 H5
 go_upto_region 4 with (fail)
 refine zdf 16 [(true,List.range 16)] (by kernel_rfl) (by kernel_rfl) fun Q' hQ' => ?_
 refine' zbz (A:=_) _ rfl (by kernel_rfl) ?_ ?_
 rotate_left
 ·
  intro D hD hN
  have KD:=veil (fun x : Gw D => hD.calls (v:=.agg (qc Pt.gx Pt.gy false)) (fun W _ => KB.out W) x)
  have ke : ∀ W,(binOp .eql 29 (.agg (qc Pt.gx Pt.gy false)) (.agg (qc Pt.gx Pt.gy false))).run Tryz.prog W = .ok (.bool true) W:=fun W => eqT gx_top gy_top W
  have kg : ∀ op x y W,(eqGuard op 29 x y (.agg (qc Pt.gx Pt.gy false)) (.agg (qc Pt.gx Pt.gy false))).run Tryz.prog W = .ok () W:=fun op x y W => gT _ _ _ _ _ _ op x y W
  simp only [List.range,List.range.loop,pickI,consO,List.getElem?_cons_zero,List.getElem?_cons_succ]
  iterate 7 (go_big_quiet_step (fail))
  go_big_quiet_want
  refine zep (.agg (qc Pt.gx Pt.gy false)) (fun x => zcp rfl rfl (hD.block H8.out.2 x) Tryz.underlying29 rfl (iT _ _ _)) ?_
  simp only [aP,lA,lZ,lS]
  go_big_quiet_on
  go_big_quiet_step (exact KD.out _)
  repeat (go_big_quiet_step (fail))
  exact zcz
 refine zct hQ' fun w9 hE9 => ?_
 have hE:=H8.out.1.trans hE9
 clear h22
 go_wp2
 go_ret
 exact ⟨rfl,hE⟩
theorem openB_ok {bs : List Nat} {t : Tk} {r s : Nat} (hb : Byt bs) (h : openB bs = some (t,r,s)) : t.ok:=ok_may (signed_open hb h).2.1
theorem checkB_ok {L : Low} {X Y : Nat} {f : Bool} {bs : List Nat} (hb : Byt bs) : (checkB L X Y f bs).1.ok ∧ (checkB L X Y f bs).2 ≤ 9:=by
 unfold checkB
 cases h : openB bs with
 | none => exact ⟨ok_zero,show 2 ≤ 9 by decide⟩
 | some v =>
  obtain ⟨t,r,s⟩:=v
  show (if _ then _ else _ : Tk × Nat).1.ok ∧ (if _ then _ else _ : Tk × Nat).2 ≤ 9
  split
  ·
   exact ⟨openB_ok hb h,show 0 ≤ 9 by decide⟩
  ·
   exact ⟨ok_zero,show 8 ≤ 9 by decide⟩
theorem kcheckB_ok {L : Low} {l : List Ky} {bs : List Nat} {at_ : Int} (hb : Byt bs) : (kcheckB L l bs at_).1.ok ∧ (kcheckB L l bs at_).2 ≤ 9:=by
 cases h : openB bs with
 | none => rw [zem h]; exact ⟨ok_zero,show 2 ≤ 9 by decide⟩
 | some v =>
  obtain ⟨t,r,s⟩:=v
  cases hf : findK l t.k at_ with
  | none => rw [kcheckB_no h hf]; exact ⟨ok_zero,show 4 ≤ 9 by decide⟩
  | some k => rw [kcheckB_yes h hf]; exact checkB_ok hb
theorem eqC11 (w : World) : (binOp .eql 35 (.iface 39 (.int .i64 1)) (.iface 39 (.int .i64 1))).run Tryz.prog w = .ok (.bool true) w:=by kernel_rfl
def cutK (A : Option Addr) (m c : Nat) : Option Addr:=if c = m then A else A.map (·.add (m * 12))
theorem cut_from_ky (A : Option Addr) (r c m : Nat) (hm : m ≤ r) (w : World) {y : Int} (hy : y = (m : Int)) : (Instr.sliceAt 22 (.slice A r c) (some (.int .i64 y)) none none).run Tryz.prog w = .ok (.slice (cutK A m c) (r - m) (c - m)) w:=by
 subst hy
 have e2 : ((sizeOf (Tryz.prog.elem 22)).run Tryz.prog w) = .ok 12 w:=by kernel_rfl
 rw [run_sliceAt_slice w 22 _ _ _ _ (by kernel_rfl),run_slice_l w 22 A r c (by kernel_rfl) .i64 (m : Int) (by omega) (by omega),e2]
 simp [sliced,Result.andThen,cutK]
theorem cut_to_ky (A : Option Addr) (r c m : Nat) (hm : m ≤ c) (w : World) {y : Int} (hy : y = (m : Int)) : (Instr.sliceAt 22 (.slice A r c) none (some (.int .i64 y)) none).run Tryz.prog w = .ok (.slice A m c) w:=by
 subst hy
 have e2 : ((sizeOf (Tryz.prog.elem 22)).run Tryz.prog w) = .ok 12 w:=by kernel_rfl
 rw [run_sliceAt_slice w 22 _ _ _ _ (by kernel_rfl),run_slice_h w 22 A r c (by kernel_rfl) .i64 (m : Int) (by omega) (by omega),e2]
 cases A with
 | none => simp [sliced,Result.andThen]
 | some a => simp [sliced,Result.andThen,Addr.add]
theorem Ks.take {w : World} {A : Option Addr} {n c : Nat} {l : List Ky} (h : Ks w (.slice A n c) l) {m : Nat} (hm : m ≤ n) : Ks w (.slice A m c) (l.take m):=by
 obtain ⟨A',c',he,hc,hx⟩:=h
 injection he with e1 e2 e3
 subst e1 e3
 have hl : (l.take m).length = m:=by rw [List.length_take]; omega
 refine ⟨A,c,by rw [hl],by rw [hl]; omega,?_⟩
 rw [hl]
 by_cases h0 : m = 0
 ·
  exact .inl h0
 ·
  obtain ⟨b,o,e,hb,hr⟩:=hx.resolve_left (by omega)
  refine .inr ⟨b,o,e,hb,fun i x hi => hr i x ?_⟩
  have hlt : i < m:=by
   have:=(List.getElem?_eq_some_iff.1 hi).1
   omega
  rwa [List.getElem?_take_of_lt hlt] at hi
theorem Ks.drop {w : World} {A : Option Addr} {n c : Nat} {l : List Ky} (h : Ks w (.slice A n c) l) {m : Nat} (hm : m ≤ n) : Ks w (.slice (cutK A m c) (n - m) (c - m)) (l.drop m):=by
 obtain ⟨A',c',he,hc,hx⟩:=h
 injection he with e1 e2 e3
 subst e1 e3
 have hl : (l.drop m).length = n - m:=by rw [List.length_drop]; omega
 refine ⟨cutK A m c,c - m,by rw [hl],by rw [hl]; omega,?_⟩
 rw [hl]
 by_cases h0 : n - m = 0
 ·
  exact .inl h0
 ·
  obtain ⟨b,o,rfl,hb,hr⟩:=hx.resolve_left (by omega)
  refine .inr ⟨b,o + m * 12,?_,hb,fun i x hi => ?_⟩
  ·
   unfold cutK
   rw [if_neg (by omega),Option.map_some,Addr.add_mid]
  ·
   rw [List.getElem?_drop] at hi
   have:=hr (m + i) x hi
   rwa [Nat.add_mul,← Nat.add_assoc] at this
theorem ky_empty (w : World) {base : Nat} (hb : base ≤ w.heap.size) : OwnK (w.alloc (.cells #[] 55)) base (.slice (some ⟨w.heap.size,0,none⟩) 0 0) []:=World.ownsRow_lit w #[] 0 hb (by decide) rfl
theorem bslK0 (W : World) : (Instr.buildSlice 22 0 #[]).run Tryz.prog W = .ok (.slice (some ⟨W.heap.size,0,none⟩) 0 0) (W.alloc (.cells #[] 55)):=by
 simp [Instr.buildSlice,go_sem]
end Go.Proofs.YthlbemnbmbmjhaaGreatDoor
