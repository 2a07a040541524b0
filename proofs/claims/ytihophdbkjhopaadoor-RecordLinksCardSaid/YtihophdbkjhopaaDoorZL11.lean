/-
  Of Rdc KQ KG Half IsH NS1 NS2.
-/
import Derived.Laws.IdiomStrings
import Derived.Great.BuildSlice
import Derived.Test.YtihophdbkjhopaaDoorRows
import Derived.WalkKit
import Derived.WalkSpells
import Derived.WalkLawsBesides
import Derived.Deep.LoopGhost
import Derived.Deep.RegionWith
import Derived.Deep.QuietTactic
import Derived.BigQuiet
import Derived.Deep.RegionHeld3
import Derived.Deep.Matrix
import Derived.Laws.CopyOwn
import Derived.Deep.CutBlock
import Derived.Test.YtihophdbkjhopaaDoorZL10
import Derived.Test.YtihophdbkjhopaaDoorZL6
import Derived.Test.YtihophdbkjhopaaDoorZL8
import Derived.Test.YtihophdbkjhopaaDoorZL5
import Derived.Test.YtihophdbkjhopaaDoorZL2
import Derived.Test.YtihophdbkjhopaaDoorZL1
import Derived.Test.YtihophdbkjhopaaDoorZL7
set_option maxRecDepth 1000000
set_option maxHeartbeats 20000000
namespace Go.Proofs.YtihophdbkjhopaaDoor
open Go.RowKit
open Go.Value renaming int → vI
open Go.IntKind renaming u64 → vU
open Go.Act renaming put → aP
open List renaming setIfInBounds_toArray → lA, set_cons_zero → lZ, set_cons_succ → lS
theorem nums_len (r : Rc) : r.nums.length = 8:=rfl
theorem put17 {w' : World} {r : Rc} {x ev : Value} (hM : mayC r = true) (h32 : r.pv.length = 32) (h : PutA w' (flC r) x ev) : BodyA17 w' r x ev:=by
 have h5:=(mayC_each hM).2
 have hm:=flC_may (r:=r) h32 (by omega)
 rcases h with ⟨h,_⟩ | ⟨_,he,A,c,hx,hc,hB⟩
 ·
  rw [hm] at h; cases h
 ·
  exact .inr ⟨hM,⟨A,c,hx,hc,hB⟩,he⟩
section
variable {Q : Exit → Act → World → Prop} {ops : List Oper} {n k d : Nat} {R : Act → World → Prop} {a : Act} {w : World}
theorem step_app_z {base : Nat} {s x : Operand} {v : Value} {l ys : List Tz} {A : Option Addr} {m c : Nat} (op : Oper) (ho : ops[k]? = some op) (hgd : op.guard = none)
  (hop : op.op = .call { callee:=.builtin .append,args:=#[s,x],argTypes:=#[22,22] }) (hd : op.dst = some d) (hs : a.eval s = v) (hx : a.eval x = .slice A m c) (hkn : ¬ k < n)
  (o : OwnL 1 tzC w base 29 v l) (hm : m = ys.length) (hy : Ls 1 tzC w (.slice A m c) ys) (hl : l.length + m ≤ 1048576) (hbase : base ≤ w.heap.size)
  (h : ∀ v' W W',Ext w W → OwnL 1 tzC W' base 29 v' (l ++ ys) → W.grownBy W' v.ownBlock → R (a.put (some d) v') W') : stepT Tryd.prog ops Q n k R a w:=by
 obtain ⟨i,z,hi,hz,h1,h24,hzs⟩:=infoB16
 refine zfw op ho hgd fun W hW => ?_
 obtain ⟨v',w',hr,h2,h3,_⟩:=zfb (P:=Tryd.prog) (sz:=1) (cs:=tzC) Tryd.underlying22 hi hz h1 h24 hzs (by decide) (fun _ => rfl) tzC_one op.type (o.keep hW) hm (hy.ext hW) (by unfold maxLen; omega) (by omega) (Nat.le_trans hbase (Below.size hW))
 unfold Oper.wp execOp
 simp only [hop,resolve,invoke,builtin,Sem.run_bind,Sem.run_pure,Result.andThen_ok,List.map_toArray,List.map_cons,List.map_nil,hs,hx,hr]
 show (k < n → Ext W w') ∧ _
 rw [hd]
 exact ⟨fun h => absurd h hkn,h v' W w' hW h2 h3⟩
theorem zch {P : Program} {v : Value} (o : Oper) (ho : ops[k]? = some o) (hg : o.guard = none) (hd : o.dst = some d) (hv : ∀ W,(execOp a.eval o).run P W = .ok (.value v) W)
  (h : ∀ W,Ext w W → R (a.put (some d) v) W) : stepT P ops Q n k R a w:=by
 refine zfw o ho hg fun W hW => ?_
 unfold Oper.wp
 rw [hv W]
 show (k < n → Ext W W) ∧ _
 rw [hd]
 exact ⟨fun _ => Ext.refl W,h W hW⟩
end
theorem BodyA17.ext {w w' : World} {r : Rc} {x ev : Value} (h : BodyA17 w r x ev) (k : Ext w w') : BodyA17 w' r x ev :=
 h.imp id fun ⟨hm,⟨A,c,e,hc,hB⟩,he⟩ => ⟨hm,⟨A,c,e,hc,hB.ext k⟩,he⟩
theorem body17_calls (X : Array Value) (r : Rc) (w : World) (hF : Rv17 w X r) (hL : r.bs.length ≤ 1000000000) :
  Calls Tryd.prog 7 #[.agg X] w fun e w' => ∃ x ev,e = .returned (.tuple #[x,ev]) ∧ Ext w w' ∧ BodyA17 w' r x ev:=by
 have hE0:=Ext.alloc w (.cells X 35)
 have KM:=veil (fun W (h : Ext (w.alloc (.cells X 35)) W) => may17_calls X r W ((hF.ext hE0).ext h) hL)
 have HF:=veil (And.intro hE0 (And.intro (RcAt.new w X) (And.intro hF.info (hF.ext hE0))))
 clear hE0 hF
 go_enter Tryd.func7,Tryd.ntmps7
 go_upto_region 1 with (fail)
 have HS:=veil (Nat.le_refl w.heap.size)
 obtain ⟨g,hg⟩ : ∃ g,g = w.heap.size:=⟨_,rfl⟩
 generalize w.alloc (.cells X 35) = w0 at *
 rw [← hg] at HF ⊢
 clear hg
 cases hm : mayC r with
 | false =>
  rw [hm] at KM
  have HM:=veil hm
  clear hm
  go_wp2_with (first
   | ((with_reducible refine zac 7 ?_); refine wpList_load_row rfl 35 _ rfl g rfl 35 X (0,0) _ HF.out.2.1 Tryd.underlying35 rfl HF.out.2.2.1 ?_)
   | (go_at_call 13; refine (KM.out _ (Ext.refl _)).mono ?_; rintro e w1 ⟨rfl,hE1⟩))
  go_ret2
  exact ⟨_,_,rfl,HF.out.1.trans hE1,.inl ⟨HM.out,⟨none,0,rfl⟩,rfl⟩⟩
 | true =>
  rw [hm] at KM
  have HM:=veil hm
  clear hm
  obtain ⟨i8,z8,hi8,hz0,hz1,hz2,hz3⟩:=infoB16
  have HI:=veil (And.intro hi8 (And.intro hz0 (And.intro hz1 hz2)))
  clear hi8 hz0 hz1 hz2 hz3
  go_upto_region 3 with (first
   | ((with_reducible refine zac 7 ?_); refine wpList_load_row rfl 35 _ rfl g rfl 35 X (0,0) _ HF.out.2.1 Tryd.underlying35 rfl HF.out.2.2.1 ?_)
   | (go_at_call 13; refine (KM.out _ (Ext.refl _)).mono ?_; rintro e w1 ⟨rfl,hE1⟩))
  have H1:=veil (And.intro (HF.out.1.trans hE1) (And.intro (HF.out.2.1.ext hE1) (HF.out.2.2.2.ext hE1)))
  clear hE1 KM HF
  go_upto_region 4 with ((with_reducible refine zac 11 ?_); refine wpList_make_own _ rfl _ _ 22 rfl w1.heap.size 29 i8 z8 1 Tryd.underlying22 HI.out.1 HI.out.2.1 HI.out.2.2.1 .i64 .i64 10 10 rfl rfl rfl (by rw [HI.out.2.2.2]; decide) (by unfold maxLen; omega) (Nat.le_refl _) ?_; intro w2 hO2 hG2)
  have hE12 : Ext w1 w2:=(Ext.refl w1).grown hG2 (Nat.le_refl _) fun k hk => by cases hk
  have hO : OwnL 1 tzC w2 w1.heap.size 29 (.slice (some ⟨w1.heap.size,0,none⟩) 0 10) []:=hO2
  have H2:=veil (And.intro hO hE12)
  obtain ⟨hW,A,c,hX,hc,hB⟩:=H1.out.2.2
  have hA1:=H1.out.2.1
  rw [hX] at hA1
  have hA:=hA1.ext hE12
  have hg1:=(Array.getElem?_eq_some_iff.1 hA1).1
  clear hE12 hO hO2 hG2 HI
  have c9:=hA1.cells.2.2.2.2.2.2.2.2
  obtain ⟨c0,c1,c2,c3,c4,c5,c6,c7,c8⟩:=hA.cells
  have hP:=hA1.prev hW
  obtain ⟨ns,hns⟩ : ∃ l,l = r.nums:=⟨_,rfl⟩
  have hin : ∀ i,i < 8 → (#[.int .i64 r.dv,.int .i64 r.sq,.int .i64 r.mi,.int .i64 r.kd,.int .i64 r.st,.int .i64 r.zn,.int .i64 r.sr,.int .i64 r.vd] : Array Value)[i]? = some (.int .i64 (ns.getD i 0)):=fun i hi => by
   rw [hns]
   match i,hi with
   | 0,_ | 1,_ | 2,_ | 3,_ | 4,_ | 5,_ | 6,_ | 7,_ => rfl
  have h8 : ns.length = 8:=by rw [hns]; rfl
  have hge : ∀ n ∈ ns,0 ≤ n ∧ n ≤ 2147483647:=by rw [hns]; exact (mayC_each HM.out).1
  have HN:=veil (And.intro hns (And.intro h8 hge))
  have HB:=veil (And.intro hc (And.intro hB (And.intro hP (And.intro hW hg1))))
  have HC:=veil c9
  clear hA hA1 hX hc hB hP hns h8 hge hW c8 c9 hg1
  go_upto_region 5 with (fail)
  obtain ⟨NA,hNA⟩ : ∃ N : Array Value,N = #[.int .i64 r.dv,.int .i64 r.sq,.int .i64 r.mi,.int .i64 r.kd,.int .i64 r.st,.int .i64 r.zn,.int .i64 r.sr,.int .i64 r.vd]:=⟨_,rfl⟩
  rw [← hNA] at hin ⊢
  have HIN:=veil hin
  clear hin hNA c0 c1 c2 c3 c4 c5 c6 c7
  go_loopw [4,6,29] (fun v _ u wr => ∃ (i : Nat) (l : List Tz),i ≤ 8 ∧ u = .int .i64 (i : Int) ∧ OwnL 1 tzC wr w1.heap.size 29 v l ∧ (∀ x ∈ l,TzN wr v x) ∧ l.map (·.bs) = (ns.take i).map numB ∧ Ext w1 wr)
   (fun _ _ u _ => 8 - (intOf u).toNat)
  case atStart => exact ⟨0,[],by omega,rfl,H2.out.1,(fun x hx => by cases hx),rfl,H2.out.2⟩
  case round =>
   obtain ⟨i,l,hi,rfl,hO,hT,hl,hE⟩:=hrel
   have hll : l.length = i:=by
    have:=congrArg List.length hl
    rw [List.length_map,List.length_map,List.length_take,HN.out.2.1] at this
    omega
   by_cases hlt : i < 8
   ·
    have hd1 : decide ((i : Int) < 8) = true:=decide_eq_true (by omega)
    have kx:=fun W => zbn (P:=Tryd.prog) (t:=54) (cs:=NA) (v:=.int .i64 (ns.getD i 0)) Tryd.underlying54 (by kernel_rfl) (fun W => run_part_plain (P:=Tryd.prog) W (e:=3) (by kernel_rfl) (xs:=NA) (off:=i) (HIN.out i hlt)) hlt .i64 W
    obtain ⟨N,hN⟩ : ∃ N,N = ns.getD i 0:=⟨_,rfl⟩
    have hi2 : i < ns.length:=by rw [HN.out.2.1]; exact hlt
    have hNe : N = ns[i]:=by rw [hN,List.getD_eq_getElem?_getD,List.getElem?_eq_getElem hi2]; rfl
    have hmem : N ∈ ns:=by rw [hNe]; exact List.getElem_mem _
    have htk : (ns.take (i + 1)).map numB = (ns.take i).map numB ++ [numB N]:=by
     rw [hNe,List.take_add_one,List.getElem?_eq_getElem hi2,List.map_append]
     rfl
    have hNb:=HN.out.2.2 N hmem
    have KN:=veil (fun W => num8n_calls N W (by omega) (by omega))
    rw [← hN] at kx
    have HL:=veil (And.intro hO (And.intro hT (And.intro hl (And.intro hE (And.intro htk hll)))))
    clear hO hT hl hE htk hll hN hmem hNb hi2 hNe
    go_wp2_with (first
     | (go_at_call 14; refine (KN.out _).mono ?_; rintro _ w3 ⟨g3,c3,rfl,hg3,hc3,hB3,hE3⟩; have hnew:=zae w3 (.cells #[tzV ⟨some ⟨g3,0,none⟩,c3,numB N⟩] 29); have hAl:=Ext.alloc w3 (.cells #[tzV ⟨some ⟨g3,0,none⟩,c3,numB N⟩] 29); unfold tzV at hnew hAl; simp only [zbg] at hnew hAl)
     | ((with_reducible refine zac 36 ?_); refine wpl_app_z (y:=⟨some ⟨g3,0,none⟩,c3,numB N⟩) rfl rfl rfl rfl ((HL.out.1.keep hE3).keep hAl) (by unfold tzV; simp only [zbg]; exact hnew) (by have:=HL.out.2.2.2.2.2; omega) (Below.size (HL.out.2.2.2.1.trans (hE3.trans hAl))) ?_; intro v4 w4 hO4 hG4 hb4))
    go_roundw
    case rel =>
     have hA:=hE3.trans hAl
     have hO:=HL.out.1.keep hA
     refine ⟨i + 1,l ++ [⟨some ⟨g3,0,none⟩,c3,numB N⟩],by omega,by go_num,hO4,fun z hz => ?_,?_,?_⟩
     ·
      rcases List.mem_append.1 hz with hz | hz
      ·
       exact ((HL.out.2.1 z hz).ext hA).step hG4 hb4
      ·
       obtain rfl:=List.mem_singleton.1 hz
       refine TzN.step ⟨by show (numB N).length ≤ c3; rw [zbg]; exact hc3,hB3.ext hAl,?_⟩ hG4 hb4
       refine .inr fun b o e e2 => ?_
       have h1:=(HL.out.1.lt e2).2
       injection e with e
       injection e with e _ _
       omega
     ·
      rw [List.map_append,List.map_singleton,HL.out.2.2.1,HL.out.2.2.2.2.1]
     ·
      exact (HL.out.2.2.2.1.trans hA).grown hG4 (Below.size (HL.out.2.2.2.1.trans hA)) fun k hk => (hO.lt hk).1
    case measure => simp [intOf]; omega
   ·
    obtain rfl : i = 8:=by omega
    have hd1 : decide (((8 : Nat) : Int) < 8) = false:=by decide
    have hl8:=hl
    rw [List.take_of_length_le (by rw [HN.out.2.1]; decide)] at hl8
    have hO:=veil (And.intro hO (And.intro hT (And.intro hl8 hll)))
    have c8:=(hE.cell (b:=g) (o:=40) (World.block_lt_of_cell? w1 ⟨g,40,none⟩ HC.out)).trans HC.out
    have HE:=veil (And.intro hE (And.intro (HB.out.2.1.ext hE) (HB.out.2.2.1.ext hE)))
    clear hT hl hl8 hll hE
    go_upto_region 9 with (fail)
    refine wp_treeT 6 (.row [0,1,2,3,4] (.one 5 (.one 6 (.one 7 (.two 8 (.one 9 (.one 10 (.one 11 .fin))) 9 (.one 8 (.one 10 (.one 11 .fin)))))))) (by kernel_rfl) (by kernel_rfl) fun Q' hQ' => ?_
    refine' tree_row (A:=_) _ rfl (by kernel_rfl) ?_ ?_
    rotate_left
    ·
     intro D hD hN'
     have e0:=hD.cell c8
     simp only [pickI,consO,List.getElem?_cons_zero,List.getElem?_cons_succ]
     repeat (go_big_quiet_step (fail))
     exact zeq
    refine step_build (vs:=[(0,.slice (some ⟨g,8,none⟩) 32 32),(1,.slice A r.bs.length c)]) (C:=#[.slice (some ⟨g,8,none⟩) 32 32,.slice A r.bs.length c]) (e:=29) _ rfl rfl rfl rfl rfl (fun W => by simp [Instr.buildSlice,go_sem]) ?_
    intro gb W hgb hgbb hEb
    simp only [aP,lA,lZ,lS]
    have hpv : r.pv.length = 32:=HB.out.2.2.2.1.1
    have hys : W.heap[gb]? = some (.cells (([⟨some ⟨g,8,none⟩,32,r.pv⟩,⟨A,c,r.bs⟩] : List Tz).map tzV).toArray 29 (0,0)):=by
     show W.heap[gb]? = some (.cells #[.slice (some ⟨g,8,none⟩) r.pv.length 32,.slice A r.bs.length c] 29 (0,0))
     rw [hpv]
     exact hgbb
    refine step_app_z (ys:=([⟨some ⟨g,8,none⟩,32,r.pv⟩,⟨A,c,r.bs⟩] : List Tz)) (base:=w1.heap.size) _ rfl rfl rfl rfl rfl rfl (by decide) (hO.out.1.keep hEb) rfl (ls_tz hys (Nat.le_refl _)) (by have:=hO.out.2.2.2; omega) (Below.size (HE.out.1.trans hEb)) ?_
    intro v4 W3 W4 hE3 hO4 hG4
    simp only [aP,lA,lZ,lS]
    have hEW:=hEb.trans hE3
    have hlo : ∀ k,Value.ownBlock u4 = some k → w1.heap.size ≤ k:=fun k hk => (hO.out.1.lt hk).1
    have hgrow : Ext w1 W4:=(HE.out.1.trans hEW).grown hG4 (Below.size (HE.out.1.trans hEW)) hlo
    have hV : Vs W4 v4 (r.nums.map numB ++ [r.pv,r.bs]):=by
     have h:=vs_of_tz (OwnL.ls tzC_len hO4) fun x hx => by
      rcases List.mem_append.1 hx with hx | hx
      ·
       have h:=(hO.out.2.1 x hx).ext hEW
       exact ⟨h.1,h.2.1.but hG4 h.2.2⟩
      ·
       rcases List.mem_cons.1 hx with rfl | hx
       ·
        exact ⟨by show r.pv.length ≤ 32; omega,HB.out.2.2.1.ext hgrow⟩
       ·
        obtain rfl:=List.mem_singleton.1 hx
        exact ⟨HB.out.1,HB.out.2.1.ext hgrow⟩
     rw [List.map_append,hO.out.2.2.1,HN.out.1] at h
     exact h
    have HV:=veil (And.intro hV hgrow)
    clear hV hgrow hlo hEW hO4 hG4 hE3 hys hgbb hgb hEb
    refine step_fun (V:=fun v W => ∃ x ev,v = .tuple #[x,ev] ∧ PutA W (flC r) x ev) _ rfl rfl rfl rfl rfl (enter_in Tryd.func15 rfl rfl _) (fun W hW => (cput_calls _ _ (by simp [nums_len]) W (HV.out.1.ext hW)).mono fun e W' ⟨x,ev,he,hE',hA⟩ => ⟨_,he,hE',x,ev,rfl,hA⟩) ?_
    rintro _ W8 hE8 ⟨x,ev,rfl,hA⟩
    simp only [aP,lA,lZ,lS]
    refine ⟨?_,?_⟩
    ·
     refine zch (v:=x) _ rfl rfl rfl (fun _ => rfl) fun W9 hE9 => ?_
     simp only [aP,lA,lZ,lS]
     refine zch (v:=ev) _ rfl rfl rfl (fun _ => rfl) fun W10 hE10 => ?_
     simp only [aP,lA,lZ,lS]
     refine zch (v:=x) _ rfl rfl rfl (fun _ => rfl) fun W11 hE11 => ?_
     simp only [aP,lA,lZ,lS]
     refine zch (v:=ev) _ rfl rfl rfl (fun _ => rfl) fun W12 hE12 => ?_
     simp only [aP,lA,lZ,lS]
     refine tree_end hQ' fun W13 hE13 => ?_
     have hX:=hE9.trans (hE10.trans (hE11.trans (hE12.trans hE13)))
     have hEnd:=H1.out.1.trans (HV.out.2.trans (hE8.trans hX))
     have hA9:=(put17 HM.out hpv hA).ext hX
     clear hA hE8 hE9 hE10 hE11 hE12 hE13 hX
     go_wp2
     go_ret2
     exact ⟨_,_,rfl,hEnd,hA9⟩
    ·
     refine zch (v:=ev) _ rfl rfl rfl (fun _ => rfl) fun W9 hE9 => ?_
     simp only [aP,lA,lZ,lS]
     refine zch (v:=x) _ rfl rfl rfl (fun _ => rfl) fun W10 hE10 => ?_
     simp only [aP,lA,lZ,lS]
     refine zch (v:=x) _ rfl rfl rfl (fun _ => rfl) fun W11 hE11 => ?_
     simp only [aP,lA,lZ,lS]
     refine zch (v:=ev) _ rfl rfl rfl (fun _ => rfl) fun W12 hE12 => ?_
     simp only [aP,lA,lZ,lS]
     refine tree_end hQ' fun W13 hE13 => ?_
     have hX:=hE9.trans (hE10.trans (hE11.trans (hE12.trans hE13)))
     have hEnd:=H1.out.1.trans (HV.out.2.trans (hE8.trans hX))
     have hA9:=(put17 HM.out hpv hA).ext hX
     clear hA hE8 hE9 hE10 hE11 hE12 hE13 hX
     go_wp2
     go_ret2
     exact ⟨_,_,rfl,hEnd,hA9⟩
theorem of_yes {A : Option Addr} {m c : Nat} {bs : List Nat} (hm : m = bs.length) (hmc : m ≤ c) {w : World} (hS : Bs w A bs) (h : 0 ≤ ofB bs) : Calls Tryd.prog 25 #[.slice A m c] w fun e w' => e = .returned (.tuple #[.int .i64 (ofB bs),.nilIface]) ∧ Ext w w' :=
 (of8_calls A m c bs hm hmc w hS).mono fun _ _ ⟨x,ev,he,hE,hA⟩ => by
  rcases hA with ⟨h1,_⟩ | ⟨_,rfl,rfl⟩
  ·
   omega
  ·
   exact ⟨he,hE⟩
theorem of_no {A : Option Addr} {m c : Nat} {bs : List Nat} (hm : m = bs.length) (hmc : m ≤ c) {w : World} (hS : Bs w A bs) (h : ofB bs < 0) : Calls Tryd.prog 25 #[.slice A m c] w fun e w' => e = .returned (.tuple #[.int .i64 0,.iface 44 (.int .i64 2)]) ∧ Ext w w' :=
 (of8_calls A m c bs hm hmc w hS).mono fun _ _ ⟨x,ev,he,hE,hA⟩ => by
  rcases hA with ⟨_,rfl,rfl⟩ | ⟨h1,_⟩
  ·
   exact ⟨he,hE⟩
  ·
   omega
section
variable {P : Program} {ops : Array Oper} {Q : Exit → Act → World → Prop} {md : Region.Mode}
abbrev One (P : Program) (ops : Array Oper) (Q : Exit → Act → World → Prop) (n k : Nat) (K : Act → World → Prop) (a : Act) (w : World) : Prop :=
 ∀ W,Ext w W → wpOp P ops Q k (fun a' W' => (k < n → Ext W W') ∧ K a' W') a W
/-! ### its parts -/
variable {n k d : Nat} {K : Act → World → Prop} {a : Act} {w : World}
end
theorem half_div (X P : Nat) : X / 2 / P = X / P / 2:=by rw [Nat.div_div_eq_div_mul,Nat.div_div_eq_div_mul,Nat.mul_comm]
theorem dg_next (B X i : Nat) : dg B X (i + 1) = X / B ^ i / B % B:=by rw [dg,Nat.pow_succ,Nat.div_div_eq_div_mul]
theorem half_word (X m : Nat) : bits .or .u64 (wd X m / 2) (IntKind.u64.wrap (wd X (m + 1) * 9223372036854775808)) = wd (X / 2) m:=by
 unfold wd
 rw [dg_next,IntKind.wrap_u64]
 show _ = ((X / 2 / w64 ^ m % w64 : Nat) : Int)
 rw [half_div]
 unfold dg
 generalize X / w64 ^ m = q
 unfold w64
 rw [show ((q % 18446744073709551616 : Nat) : Int) / 2 = ((q % 18446744073709551616 / 2 : Nat) : Int) by omega,
  show ((q / 18446744073709551616 % 18446744073709551616 : Nat) : Int) * 9223372036854775808 % 18446744073709551616 = ((q / 18446744073709551616 % 2 * 9223372036854775808 : Nat) : Int) by omega]
 rw [u64_or_nat _ _ (by omega) (by omega),Nat.or_comm,nat_join 63 _ _ (by omega) (by omega)]
 omega
theorem wd_top {X : Nat} (hX : X < top) : wd X 4 = 0:=by
 unfold wd dg
 unfold top at hX
 rw [Nat.div_eq_of_lt hX]; rfl
theorem row_down {X m : Nat} : ∀ i,i < 4 → (if i = m then Value.int .u64 (wd X m) else Value.int .u64 (if m + 1 ≤ i then wd X i else 0)) = Value.int .u64 (if m ≤ i then wd X i else 0):=by
 intro i _
 by_cases h : i = m
 ·
  subst h; simp
 ·
  rw [if_neg h]; by_cases h2 : m ≤ i
  ·
   rw [if_pos h2,if_pos (by omega)]
  ·
   rw [if_neg h2,if_neg (by omega)]
theorem half_calls (X : Nat) (hX : X < top) (w : World) :
  Calls Tryd.prog 40 #[.agg #[vI vU (wd X 0),vI vU (wd X 1),vI vU (wd X 2),vI vU (wd X 3)]] w fun e w' => e = .returned (.agg #[vI vU (wd (X / 2) 0),vI vU (wd (X / 2) 1),vI vU (wd (X / 2) 2),vI vU (wd (X / 2) 3)]) ∧ Below w.heap.size w w':=by
 go_enter Tryd.func40,Tryd.ntmps40
 go_wp2
 go_loopw [4,5] (fun c i wr => ∃ k : Nat,k ≤ 4 ∧ i = .int .i64 ((k : Int) - 1) ∧ c = .int .u64 (wd X k) ∧ wr.rowIs w.heap.size 25 4 (fun j => .int .u64 (wd X j))
   ∧ wr.rowIs (w.heap.size + 1) 25 4 (fun _ => .int .u64 0) ∧ wr.rowIs (w.heap.size + 1 + 1) 25 4 (fun j => .int .u64 (if k ≤ j then wd (X / 2) j else 0)) ∧ Below w.heap.size w wr)
  (fun _ i _ => (intOf i + 1).toNat)
 case atStart => exact ⟨4,by omega,rfl,by rw [wd_top hX],((zad (n:=4) (by simp) rfl (arr4 fun j => .int .u64 (wd X j))).alloc _).alloc _,(zad (n:=4) (by simp) rfl (arr4 fun _ => .int .u64 0)).alloc _,(zad (n:=4) (f:=fun _ => .int .u64 0) (by simp) rfl (arr4 fun _ => .int .u64 0)).congr (fun i hi => by rw [if_neg (by omega)]),(((Below.refl _ _).alloc (by simp) _).alloc (by simp) _).alloc (by simp; omega) _⟩
 case round =>
  obtain ⟨k,hk,hi,rfl,hRX,hRZ,hS,hbel⟩:=hrel
  cases k with
  | zero =>
   subst hi
   obtain ⟨c0,c1,c2,c3⟩:=zaf hS
   obtain ⟨d0,d1,d2,d3⟩:=zaf hRZ
   obtain ⟨f0,f1,f2,f3⟩:=zaw hRZ
   simp only [Nat.zero_le,if_true] at c0 c1 c2 c3
   clear hS hRX
   go_wp2
   refine bodyPost_ret (results_cell_row rfl _ _ (w.heap.size + 1) 25 #[vI vU (wd (X / 2) 0),vI vU (wd (X / 2) 1),vI vU (wd (X / 2) 2),vI vU (wd (X / 2) 3)] (0,0) _ rfl (blk4 (put4 hRZ fun j => .int .u64 (wd (X / 2) j))) Tryd.underlying25 rfl (by kernel_rfl)) rfl ⟨rfl,zap hbel (by omega) _ _ _ _⟩
  | succ m =>
   obtain rfl : _ = Value.int .i64 (m : Int):=hi.trans (by congr 1; omega)
   have hm : m < 4:=by omega
   clear hi
   have c1:=hRX.cell hm
   have c2:=hS.cell hm
   have f2:=hS.frozen m
   have l1:=wd_lo X m
   have u1:=wd_le X m
   have l2:=wd_lo X (m + 1)
   have u2:=wd_le X (m + 1)
   go_wp2
   go_roundw
   case rel =>
    rw [half_word]
    exact ⟨m,by omega,rfl,rfl,zan hRX (by omega) _,zan hRZ (by omega) _,(hS.set m _).congr row_down,zab hbel (by omega) _⟩
   case measure => simp [intOf]
theorem khalf (X Z : Nat) (h : X / 2 = Z) (hX : X < top) (w : World) :
  Calls Tryd.prog 40 #[.agg #[vI vU (wd X 0),vI vU (wd X 1),vI vU (wd X 2),vI vU (wd X 3)]] w fun e w' => e = .returned (.agg #[vI vU (wd Z 0),vI vU (wd Z 1),vI vU (wd Z 2),vI vU (wd Z 3)]) ∧ Below w.heap.size w w':=by
 subst h; exact half_calls X hX w
theorem klen (X : Nat) (m : Int) (h : (bitLen X : Int) = m) (hX : X < top) (w : World) :
  Calls Tryd.prog 68 #[.agg #[vI vU (wd X 0),vI vU (wd X 1),vI vU (wd X 2),vI vU (wd X 3)]] w fun e w' => e = .returned (.int .i64 m) ∧ Below w.heap.size w w':=by
 subst h; exact len_calls X hX w
def sb (s : KV) (j : Nat) : Value:=.int .u8 ((if j < 32 then s.k j else s.v (j - 32) : Nat) : Int)
section
variable {w w' : World} {g : Nat} {s : KV}
end
def pY (v : Nat → Nat) (b : Nat) (Y : Nat → Nat → Nat) (r : Nat) : Nat → Nat:=if r = 0 then v else if r = 1 then cat (fun _ => b) 1 none0 else Y (r - 2)
end Go.Proofs.YtihophdbkjhopaaDoor
