/-
  Of Rdc KQ KO KG Half IsH M4 M5 NS1 NS2 Yif E2.
-/
import Derived.Test.YtihophdbkjhopaaGreatDoorRows
import Derived.WalkKit
import Derived.WalkSpells
import Derived.WalkLawsBesides
import Derived.Deep.LoopGhost
import Derived.Deep.RegionWith
import Derived.Deep.QuietTactic
import Derived.BigQuiet
import Derived.Laws.CopyOwn
import Derived.Deep.RegionHeld3
import Derived.Deep.CutBlock
import Derived.Deep.MidRow
import Derived.Lib.AppendZeros
import Derived.Test.YtihophdbkjhopaaGreatDoorZA14
import Derived.Test.YtihophdbkjhopaaGreatDoorZA7
import Derived.Test.YtihophdbkjhopaaGreatDoorZA12
import Derived.Test.YtihophdbkjhopaaGreatDoorZA6
import Derived.Test.YtihophdbkjhopaaGreatDoorZA3
import Derived.Test.YtihophdbkjhopaaGreatDoorZA1
import Derived.Test.YtihophdbkjhopaaGreatDoorZA11
import Derived.Test.YtihophdbkjhopaaGreatDoorZA9
import Derived.Test.YtihophdbkjhopaaGreatDoorZA10
import Derived.Test.YtihophdbkjhopaaGreatDoorZA2
set_option maxRecDepth 1000000
set_option maxHeartbeats 20000000
namespace Go.Proofs.YtihophdbkjhopaaGreatDoor
open Go.RowKit
open Go.Value renaming int → vI
open Go.IntKind renaming u64 → vU
open Go.Act renaming put → aP
open List renaming setIfInBounds_toArray → lA, set_cons_zero → lZ, set_cons_succ → lS
theorem nums_len (r : Rc) : r.nums.length = 8:=rfl
theorem put17 {w' : World} {r : Rc} {x ev : Value} (hM : mayC r = true) (h32 : r.pv.length = 32) (h : PutA w' (flC r) x ev) : BodyA17 w' r x ev:=by
 have h5:=(zen hM).2
 have hm:=flC_may (r:=r) h32 (by omega)
 rcases h with ⟨h,_⟩ | ⟨_,he,A,c,hx,hc,hB⟩
 ·
  rw [hm] at h; cases h
 ·
  exact .inr ⟨hM,⟨A,c,hx,hc,hB⟩,he⟩
section
variable {Q : Exit → Act → World → Prop} {ops : List Oper} {n k d : Nat} {R : Act → World → Prop} {a : Act} {w : World}
theorem step_app_z {base : Nat} {s x : Operand} {v : Value} {l ys : List Tz} {A : Option Addr} {m c : Nat} (op : Oper) (ho : ops[k]? = some op) (hgd : op.guard = none)
  (hop : op.op = .call { callee:=.builtin .append,args:=#[s,x],argTypes:=#[56,56] }) (hd : op.dst = some d) (hs : a.eval s = v) (hx : a.eval x = .slice A m c) (hkn : ¬ k < n)
  (o : OwnL 1 tzC w base 24 v l) (hm : m = ys.length) (hy : Ls 1 tzC w (.slice A m c) ys) (hl : l.length + m ≤ 1048576) (hbase : base ≤ w.heap.size)
  (h : ∀ v' W W',Ext w W → OwnL 1 tzC W' base 24 v' (l ++ ys) → W.grownBy W' v.ownBlock → R (a.put (some d) v') W') : stepT Tryz.prog ops Q n k R a w:=by
 obtain ⟨i,z,hi,hz,h1,h24,hzs⟩:=infoB16
 refine zkf op ho hgd fun W hW => ?_
 obtain ⟨v',w',hr,h2,h3,_⟩:=zja (P:=Tryz.prog) (sz:=1) (cs:=tzC) Tryz.underlying56 hi hz h1 h24 hzs (by decide) (fun _ => rfl) tzC_one op.type (o.keep hW) hm (hy.ext hW) (by unfold maxLen; omega) (by omega) (Nat.le_trans hbase (Below.size hW))
 unfold Oper.wp execOp
 simp only [hop,resolve,invoke,builtin,Sem.run_bind,Sem.run_pure,Result.andThen_ok,List.map_toArray,List.map_cons,List.map_nil,hs,hx,hr]
 show (k < n → Ext W w') ∧ _
 rw [hd]
 exact ⟨fun h => absurd h hkn,h v' W w' hW h2 h3⟩
theorem zdz {P : Program} {v : Value} (o : Oper) (ho : ops[k]? = some o) (hg : o.guard = none) (hd : o.dst = some d) (hv : ∀ W,(execOp a.eval o).run P W = .ok (.value v) W)
  (h : ∀ W,Ext w W → R (a.put (some d) v) W) : stepT P ops Q n k R a w:=by
 refine zkf o ho hg fun W hW => ?_
 unfold Oper.wp
 rw [hv W]
 show (k < n → Ext W W) ∧ _
 rw [hd]
 exact ⟨fun _ => Ext.refl W,h W hW⟩
end
theorem BodyA17.ext {w w' : World} {r : Rc} {x ev : Value} (h : BodyA17 w r x ev) (k : Ext w w') : BodyA17 w' r x ev :=
 h.imp id fun ⟨hm,⟨A,c,e,hc,hB⟩,he⟩ => ⟨hm,⟨A,c,e,hc,hB.ext k⟩,he⟩
theorem zmk (X : Array Value) (r : Rc) (w : World) (hF : Rv17 w X r) (hL : r.bs.length ≤ 1000000000) :
  Calls Tryz.prog 9 #[.agg X] w fun e w' => ∃ x ev,e = .returned (.tuple #[x,ev]) ∧ Ext w w' ∧ BodyA17 w' r x ev:=by
 have hE0:=Ext.alloc w (.cells X 26)
 have KM:=veil (fun W (h : Ext (w.alloc (.cells X 26)) W) => zhr X r W ((hF.ext hE0).ext h) hL)
 have HF:=veil (And.intro hE0 (And.intro (RcAt.new w X) (And.intro hF.info (hF.ext hE0))))
 clear hE0 hF
 go_enter Tryz.func9,Tryz.ntmps9
 go_upto_region 1 with (fail)
 have HS:=veil (Nat.le_refl w.heap.size)
 obtain ⟨g,hg⟩ : ∃ g,g = w.heap.size:=⟨_,rfl⟩
 generalize w.alloc (.cells X 26) = w0 at *
 rw [← hg] at HF ⊢
 clear hg
 cases hm : mayC r with
 | false =>
  rw [hm] at KM
  have HM:=veil hm
  clear hm
  go_wp2_with (first
   | ((with_reducible refine zac 7 ?_); refine wpList_load_row rfl 26 _ rfl g rfl 26 X (0,0) _ HF.out.2.1 Tryz.underlying26 rfl HF.out.2.2.1 ?_)
   | (go_at_call 11; refine (KM.out _ (Ext.refl _)).mono ?_; rintro e w1 ⟨rfl,hE1⟩))
  go_ret2
  exact ⟨_,_,rfl,HF.out.1.trans hE1,.inl ⟨HM.out,⟨none,0,rfl⟩,rfl⟩⟩
 | true =>
  rw [hm] at KM
  have HM:=veil hm
  clear hm
  obtain ⟨i8,z8,hi8,hz0,hz1,hz2,hz3⟩:=infoB16
  have HI:=veil (And.intro hi8 (And.intro hz0 (And.intro hz1 hz2)))
  clear hi8 hz0 hz1 hz2 hz3
  go_upto_region 3 with (first
   | ((with_reducible refine zac 7 ?_); refine wpList_load_row rfl 26 _ rfl g rfl 26 X (0,0) _ HF.out.2.1 Tryz.underlying26 rfl HF.out.2.2.1 ?_)
   | (go_at_call 11; refine (KM.out _ (Ext.refl _)).mono ?_; rintro e w1 ⟨rfl,hE1⟩))
  have H1:=veil (And.intro (HF.out.1.trans hE1) (And.intro (HF.out.2.1.ext hE1) (HF.out.2.2.2.ext hE1)))
  clear hE1 KM HF
  go_upto_region 4 with ((with_reducible refine zac 11 ?_); refine wpList_make_own _ rfl _ _ 56 rfl w1.heap.size 24 i8 z8 1 Tryz.underlying56 HI.out.1 HI.out.2.1 HI.out.2.2.1 .i64 .i64 10 10 rfl rfl rfl (by rw [HI.out.2.2.2]; decide) (by unfold maxLen; omega) (Nat.le_refl _) ?_; intro w2 hO2 hG2)
  have hE12 : Ext w1 w2:=(Ext.refl w1).grown hG2 (Nat.le_refl _) fun k hk => by cases hk
  have hO : OwnL 1 tzC w2 w1.heap.size 24 (.slice (some ⟨w1.heap.size,0,none⟩) 0 10) []:=hO2
  have H2:=veil (And.intro hO hE12)
  obtain ⟨hW,A,c,hX,hc,hB⟩:=H1.out.2.2
  have hA1:=H1.out.2.1
  rw [hX] at hA1
  have hA:=hA1.ext hE12
  have hg1:=(Array.getElem?_eq_some_iff.1 hA1).1
  clear hE12 hO hO2 hG2 HI
  have c9:=hA1.cells.2.2.2.2.2.2.2.2
  obtain ⟨c0,c1,c2,c3,c4,c5,c6,c7,c8⟩:=hA.cells
  have hP:=hA1.prev hW
  obtain ⟨ns,hns⟩ : ∃ l,l = r.nums:=⟨_,rfl⟩
  have hin : ∀ i,i < 8 → (#[.int .i64 r.dv,.int .i64 r.sq,.int .i64 r.mi,.int .i64 r.kd,.int .i64 r.st,.int .i64 r.zn,.int .i64 r.sr,.int .i64 r.vd] : Array Value)[i]? = some (.int .i64 (ns.getD i 0)):=fun i hi => by
   rw [hns]
   match i,hi with
   | 0,_ | 1,_ | 2,_ | 3,_ | 4,_ | 5,_ | 6,_ | 7,_ => rfl
  have h8 : ns.length = 8:=by rw [hns]; rfl
  have hge : ∀ n ∈ ns,0 ≤ n ∧ n ≤ 2147483647:=by rw [hns]; exact (zen HM.out).1
  have HN:=veil (And.intro hns (And.intro h8 hge))
  have HB:=veil (And.intro hc (And.intro hB (And.intro hP (And.intro hW hg1))))
  have HC:=veil c9
  clear hA hA1 hX hc hB hP hns h8 hge hW c8 c9 hg1
  go_upto_region 5 with (fail)
  obtain ⟨NA,hNA⟩ : ∃ N : Array Value,N = #[.int .i64 r.dv,.int .i64 r.sq,.int .i64 r.mi,.int .i64 r.kd,.int .i64 r.st,.int .i64 r.zn,.int .i64 r.sr,.int .i64 r.vd]:=⟨_,rfl⟩
  rw [← hNA] at hin ⊢
  have HIN:=veil hin
  clear hin hNA c0 c1 c2 c3 c4 c5 c6 c7
  go_loopw [4,6,29] (fun v _ u wr => ∃ (i : Nat) (l : List Tz),i ≤ 8 ∧ u = .int .i64 (i : Int) ∧ OwnL 1 tzC wr w1.heap.size 24 v l ∧ (∀ x ∈ l,TzN wr v x) ∧ l.map (·.bs) = (ns.take i).map numB ∧ Ext w1 wr)
   (fun _ _ u _ => 8 - (intOf u).toNat)
  case atStart => exact ⟨0,[],by omega,rfl,H2.out.1,(fun x hx => by cases hx),rfl,H2.out.2⟩
  case round =>
   obtain ⟨i,l,hi,rfl,hO,hT,hl,hE⟩:=hrel
   have hll : l.length = i:=by
    have:=congrArg List.length hl
    rw [List.length_map,List.length_map,List.length_take,HN.out.2.1] at this
    omega
   by_cases hlt : i < 8
   ·
    have hd1 : decide ((i : Int) < 8) = true:=decide_eq_true (by omega)
    have kx:=fun W => zcx (P:=Tryz.prog) (t:=63) (cs:=NA) (v:=.int .i64 (ns.getD i 0)) Tryz.underlying63 (by kernel_rfl) (fun W => run_part_plain (P:=Tryz.prog) W (e:=3) (by kernel_rfl) (xs:=NA) (off:=i) (HIN.out i hlt)) hlt .i64 W
    obtain ⟨N,hN⟩ : ∃ N,N = ns.getD i 0:=⟨_,rfl⟩
    have hi2 : i < ns.length:=by rw [HN.out.2.1]; exact hlt
    have hNe : N = ns[i]:=by rw [hN,List.getD_eq_getElem?_getD,List.getElem?_eq_getElem hi2]; rfl
    have hmem : N ∈ ns:=by rw [hNe]; exact List.getElem_mem _
    have htk : (ns.take (i + 1)).map numB = (ns.take i).map numB ++ [numB N]:=by
     rw [hNe,List.take_add_one,List.getElem?_eq_getElem hi2,List.map_append]
     rfl
    have hNb:=HN.out.2.2 N hmem
    have KN:=veil (fun W => num8n_calls N W (by omega) (by omega))
    rw [← hN] at kx
    have HL:=veil (And.intro hO (And.intro hT (And.intro hl (And.intro hE (And.intro htk hll)))))
    clear hO hT hl hE htk hll hN hmem hNb hi2 hNe
    go_wp2_with (first
     | (go_at_call 24; refine (KN.out _).mono ?_; rintro _ w3 ⟨g3,c3,rfl,hg3,hc3,hB3,hE3⟩; have hnew:=zah w3 (.cells #[tzV ⟨some ⟨g3,0,none⟩,c3,numB N⟩] 24); have hAl:=Ext.alloc w3 (.cells #[tzV ⟨some ⟨g3,0,none⟩,c3,numB N⟩] 24); unfold tzV at hnew hAl; simp only [zbz] at hnew hAl)
     | ((with_reducible refine zac 36 ?_); refine wpl_app_z (y:=⟨some ⟨g3,0,none⟩,c3,numB N⟩) rfl rfl rfl rfl ((HL.out.1.keep hE3).keep hAl) (by unfold tzV; simp only [zbz]; exact hnew) (by have:=HL.out.2.2.2.2.2; omega) (Below.size (HL.out.2.2.2.1.trans (hE3.trans hAl))) ?_; intro v4 w4 hO4 hG4 hb4))
    go_roundw
    case rel =>
     have hA:=hE3.trans hAl
     have hO:=HL.out.1.keep hA
     refine ⟨i + 1,l ++ [⟨some ⟨g3,0,none⟩,c3,numB N⟩],by omega,by go_num,hO4,fun z hz => ?_,?_,?_⟩
     ·
      rcases List.mem_append.1 hz with hz | hz
      ·
       exact ((HL.out.2.1 z hz).ext hA).step hG4 hb4
      ·
       obtain rfl:=List.mem_singleton.1 hz
       refine TzN.step ⟨by show (numB N).length ≤ c3; rw [zbz]; exact hc3,hB3.ext hAl,?_⟩ hG4 hb4
       refine .inr fun b o e e2 => ?_
       have h1:=(HL.out.1.lt e2).2
       injection e with e
       injection e with e _ _
       omega
     ·
      rw [List.map_append,List.map_singleton,HL.out.2.2.1,HL.out.2.2.2.2.1]
     ·
      exact (HL.out.2.2.2.1.trans hA).grown hG4 (Below.size (HL.out.2.2.2.1.trans hA)) fun k hk => (hO.lt hk).1
    case measure => simp [intOf]; omega
   ·
    obtain rfl : i = 8:=by omega
    have hd1 : decide (((8 : Nat) : Int) < 8) = false:=by decide
    have hl8:=hl
    rw [List.take_of_length_le (by rw [HN.out.2.1]; decide)] at hl8
    have hO:=veil (And.intro hO (And.intro hT (And.intro hl8 hll)))
    have c8:=(hE.cell (b:=g) (o:=40) (World.block_lt_of_cell? w1 ⟨g,40,none⟩ HC.out)).trans HC.out
    have HE:=veil (And.intro hE (And.intro (HB.out.2.1.ext hE) (HB.out.2.2.1.ext hE)))
    clear hT hl hl8 hll hE
    go_upto_region 9 with (fail)
    refine wp_treeT 6 (.row [0,1,2,3,4] (.one 5 (.one 6 (.one 7 (.two 8 (.one 9 (.one 10 (.one 11 .fin))) 9 (.one 8 (.one 10 (.one 11 .fin)))))))) (by kernel_rfl) (by kernel_rfl) fun Q' hQ' => ?_
    refine' tree_row (A:=_) _ rfl (by kernel_rfl) ?_ ?_
    rotate_left
    ·
     intro D hD hN'
     have e0:=hD.cell c8
     simp only [pickI,consO,List.getElem?_cons_zero,List.getElem?_cons_succ]
     repeat (go_big_quiet_step (fail))
     exact zff
    refine step_build (vs:=[(0,.slice (some ⟨g,8,none⟩) 32 32),(1,.slice A r.bs.length c)]) (C:=#[.slice (some ⟨g,8,none⟩) 32 32,.slice A r.bs.length c]) (e:=24) _ rfl rfl rfl rfl rfl (fun W => by simp [Instr.buildSlice,go_sem]) ?_
    intro gb W hgb hgbb hEb
    simp only [aP,lA,lZ,lS]
    have hpv : r.pv.length = 32:=HB.out.2.2.2.1.1
    have hys : W.heap[gb]? = some (.cells (([⟨some ⟨g,8,none⟩,32,r.pv⟩,⟨A,c,r.bs⟩] : List Tz).map tzV).toArray 24 (0,0)):=by
     show W.heap[gb]? = some (.cells #[.slice (some ⟨g,8,none⟩) r.pv.length 32,.slice A r.bs.length c] 24 (0,0))
     rw [hpv]
     exact hgbb
    refine step_app_z (ys:=([⟨some ⟨g,8,none⟩,32,r.pv⟩,⟨A,c,r.bs⟩] : List Tz)) (base:=w1.heap.size) _ rfl rfl rfl rfl rfl rfl (by decide) (hO.out.1.keep hEb) rfl (ls_tz hys (Nat.le_refl _)) (by have:=hO.out.2.2.2; omega) (Below.size (HE.out.1.trans hEb)) ?_
    intro v4 W3 W4 hE3 hO4 hG4
    simp only [aP,lA,lZ,lS]
    have hEW:=hEb.trans hE3
    have hlo : ∀ k,Value.ownBlock u4 = some k → w1.heap.size ≤ k:=fun k hk => (hO.out.1.lt hk).1
    have hgrow : Ext w1 W4:=(HE.out.1.trans hEW).grown hG4 (Below.size (HE.out.1.trans hEW)) hlo
    have hV : Vs W4 v4 (r.nums.map numB ++ [r.pv,r.bs]):=by
     have h:=vs_of_tz (OwnL.ls tzC_len hO4) fun x hx => by
      rcases List.mem_append.1 hx with hx | hx
      ·
       have h:=(hO.out.2.1 x hx).ext hEW
       exact ⟨h.1,h.2.1.but hG4 h.2.2⟩
      ·
       rcases List.mem_cons.1 hx with rfl | hx
       ·
        exact ⟨by show r.pv.length ≤ 32; omega,HB.out.2.2.1.ext hgrow⟩
       ·
        obtain rfl:=List.mem_singleton.1 hx
        exact ⟨HB.out.1,HB.out.2.1.ext hgrow⟩
     rw [List.map_append,hO.out.2.2.1,HN.out.1] at h
     exact h
    have HV:=veil (And.intro hV hgrow)
    clear hV hgrow hlo hEW hO4 hG4 hE3 hys hgbb hgb hEb
    refine step_fun (V:=fun v W => ∃ x ev,v = .tuple #[x,ev] ∧ PutA W (flC r) x ev) _ rfl rfl rfl rfl rfl (enter_in Tryz.func25 rfl rfl _) (fun W hW => (cput_calls _ _ (by simp [nums_len]) W (HV.out.1.ext hW)).mono fun e W' ⟨x,ev,he,hE',hA⟩ => ⟨_,he,hE',x,ev,rfl,hA⟩) ?_
    rintro _ W8 hE8 ⟨x,ev,rfl,hA⟩
    simp only [aP,lA,lZ,lS]
    refine ⟨?_,?_⟩
    ·
     refine zdz (v:=x) _ rfl rfl rfl (fun _ => rfl) fun W9 hE9 => ?_
     simp only [aP,lA,lZ,lS]
     refine zdz (v:=ev) _ rfl rfl rfl (fun _ => rfl) fun W10 hE10 => ?_
     simp only [aP,lA,lZ,lS]
     refine zdz (v:=x) _ rfl rfl rfl (fun _ => rfl) fun W11 hE11 => ?_
     simp only [aP,lA,lZ,lS]
     refine zdz (v:=ev) _ rfl rfl rfl (fun _ => rfl) fun W12 hE12 => ?_
     simp only [aP,lA,lZ,lS]
     refine tree_end hQ' fun W13 hE13 => ?_
     have hX:=hE9.trans (hE10.trans (hE11.trans (hE12.trans hE13)))
     have hEnd:=H1.out.1.trans (HV.out.2.trans (hE8.trans hX))
     have hA9:=(put17 HM.out hpv hA).ext hX
     clear hA hE8 hE9 hE10 hE11 hE12 hE13 hX
     go_wp2
     go_ret2
     exact ⟨_,_,rfl,hEnd,hA9⟩
    ·
     refine zdz (v:=ev) _ rfl rfl rfl (fun _ => rfl) fun W9 hE9 => ?_
     simp only [aP,lA,lZ,lS]
     refine zdz (v:=x) _ rfl rfl rfl (fun _ => rfl) fun W10 hE10 => ?_
     simp only [aP,lA,lZ,lS]
     refine zdz (v:=x) _ rfl rfl rfl (fun _ => rfl) fun W11 hE11 => ?_
     simp only [aP,lA,lZ,lS]
     refine zdz (v:=ev) _ rfl rfl rfl (fun _ => rfl) fun W12 hE12 => ?_
     simp only [aP,lA,lZ,lS]
     refine tree_end hQ' fun W13 hE13 => ?_
     have hX:=hE9.trans (hE10.trans (hE11.trans (hE12.trans hE13)))
     have hEnd:=H1.out.1.trans (HV.out.2.trans (hE8.trans hX))
     have hA9:=(put17 HM.out hpv hA).ext hX
     clear hA hE8 hE9 hE10 hE11 hE12 hE13 hX
     go_wp2
     go_ret2
     exact ⟨_,_,rfl,hEnd,hA9⟩
theorem of_yes {A : Option Addr} {m c : Nat} {bs : List Nat} (hm : m = bs.length) (hmc : m ≤ c) {w : World} (hS : Bs w A bs) (h : 0 ≤ ofB bs) : Calls Tryz.prog 73 #[.slice A m c] w fun e w' => e = .returned (.tuple #[.int .i64 (ofB bs),.nilIface]) ∧ Ext w w' :=
 (of8_calls A m c bs hm hmc w hS).mono fun _ _ ⟨x,ev,he,hE,hA⟩ => by
  rcases hA with ⟨h1,_⟩ | ⟨_,rfl,rfl⟩
  ·
   omega
  ·
   exact ⟨he,hE⟩
theorem of_no {A : Option Addr} {m c : Nat} {bs : List Nat} (hm : m = bs.length) (hmc : m ≤ c) {w : World} (hS : Bs w A bs) (h : ofB bs < 0) : Calls Tryz.prog 73 #[.slice A m c] w fun e w' => e = .returned (.tuple #[.int .i64 0,.iface 37 (.int .i64 2)]) ∧ Ext w w' :=
 (of8_calls A m c bs hm hmc w hS).mono fun _ _ ⟨x,ev,he,hE,hA⟩ => by
  rcases hA with ⟨_,rfl,rfl⟩ | ⟨h1,_⟩
  ·
   exact ⟨he,hE⟩
  ·
   omega
theorem vs_row {w : World} {g t : Nat} {C : Array Value} {fr : Nat × Nat} {l : List (List Nat)} {c : Nat} (hg : w.heap[g]? = some (.cells C t fr)) (hc : l.length ≤ c)
  (h : ∀ i,i < l.length → ∃ A c',C[i]? = some (.slice A (l.getD i []).length c') ∧ (l.getD i []).length ≤ c' ∧ Bs w A (l.getD i [])) : Vs w (.slice (some ⟨g,0,none⟩) l.length c) l:=by
 refine ⟨fun x hx => ?_,_,c,rfl,hc,.inr ⟨g,0,rfl,(Array.getElem?_eq_some_iff.1 hg).1,fun i hi => ?_⟩⟩
 ·
  obtain ⟨i,hi,e⟩:=List.mem_iff_getElem.1 hx
  obtain ⟨A,c',_,_,hB⟩:=h i hi
  have : l.getD i [] = x:=by simp [List.getD_eq_getElem?_getD,hi,e]
  rw [← this]
  exact hB.1
 ·
  obtain ⟨A,c',h1,h2,h3⟩:=h i hi
  exact ⟨A,c',by rw [Nat.zero_add,cell_of_row w g i C t fr hg]; exact h1,h2,h3⟩
section
variable {P : Program} {ops : Array Oper} {Q : Exit → Act → World → Prop} {md : Region.Mode}
abbrev One (P : Program) (ops : Array Oper) (Q : Exit → Act → World → Prop) (n k : Nat) (K : Act → World → Prop) (a : Act) (w : World) : Prop :=
 ∀ W,Ext w W → wpOp P ops Q k (fun a' W' => (k < n → Ext W W') ∧ K a' W') a W
/-! ### its parts -/
variable {n k d : Nat} {K : Act → World → Prop} {a : Act} {w : World}
end
theorem half_div (X P : Nat) : X / 2 / P = X / P / 2:=by rw [Nat.div_div_eq_div_mul,Nat.div_div_eq_div_mul,Nat.mul_comm]
theorem dg_next (B X i : Nat) : dg B X (i + 1) = X / B ^ i / B % B:=by rw [dg,Nat.pow_succ,Nat.div_div_eq_div_mul]
theorem half_word (X m : Nat) : bits .or .u64 (wd X m / 2) (IntKind.u64.wrap (wd X (m + 1) * 9223372036854775808)) = wd (X / 2) m:=by
 unfold wd
 rw [dg_next,IntKind.wrap_u64]
 show _ = ((X / 2 / w64 ^ m % w64 : Nat) : Int)
 rw [half_div]
 unfold dg
 generalize X / w64 ^ m = q
 unfold w64
 rw [show ((q % 18446744073709551616 : Nat) : Int) / 2 = ((q % 18446744073709551616 / 2 : Nat) : Int) by omega,
  show ((q / 18446744073709551616 % 18446744073709551616 : Nat) : Int) * 9223372036854775808 % 18446744073709551616 = ((q / 18446744073709551616 % 2 * 9223372036854775808 : Nat) : Int) by omega]
 rw [u64_or_nat _ _ (by omega) (by omega),Nat.or_comm,nat_join 63 _ _ (by omega) (by omega)]
 omega
theorem wd_top {X : Nat} (hX : X < top) : wd X 4 = 0:=by
 unfold wd dg
 unfold top at hX
 rw [Nat.div_eq_of_lt hX]; rfl
theorem row_down {X m : Nat} : ∀ i,i < 4 → (if i = m then Value.int .u64 (wd X m) else Value.int .u64 (if m + 1 ≤ i then wd X i else 0)) = Value.int .u64 (if m ≤ i then wd X i else 0):=by
 intro i _
 by_cases h : i = m
 ·
  subst h; simp
 ·
  rw [if_neg h]; by_cases h2 : m ≤ i
  ·
   rw [if_pos h2,if_pos (by omega)]
  ·
   rw [if_neg h2,if_neg (by omega)]
theorem half_calls (X : Nat) (hX : X < top) (w : World) :
  Calls Tryz.prog 126 #[.agg #[vI vU (wd X 0),vI vU (wd X 1),vI vU (wd X 2),vI vU (wd X 3)]] w fun e w' => e = .returned (.agg #[vI vU (wd (X / 2) 0),vI vU (wd (X / 2) 1),vI vU (wd (X / 2) 2),vI vU (wd (X / 2) 3)]) ∧ Below w.heap.size w w':=by
 go_enter Tryz.func126,Tryz.ntmps126
 go_wp2
 go_loopw [4,5] (fun c i wr => ∃ k : Nat,k ≤ 4 ∧ i = .int .i64 ((k : Int) - 1) ∧ c = .int .u64 (wd X k) ∧ wr.rowIs w.heap.size 29 4 (fun j => .int .u64 (wd X j))
   ∧ wr.rowIs (w.heap.size + 1) 29 4 (fun _ => .int .u64 0) ∧ wr.rowIs (w.heap.size + 1 + 1) 29 4 (fun j => .int .u64 (if k ≤ j then wd (X / 2) j else 0)) ∧ Below w.heap.size w wr)
  (fun _ i _ => (intOf i + 1).toNat)
 case atStart => exact ⟨4,by omega,rfl,by rw [wd_top hX],((zaj (n:=4) (by simp) rfl (arr4 fun j => .int .u64 (wd X j))).alloc _).alloc _,(zaj (n:=4) (by simp) rfl (arr4 fun _ => .int .u64 0)).alloc _,(zaj (n:=4) (f:=fun _ => .int .u64 0) (by simp) rfl (arr4 fun _ => .int .u64 0)).congr (fun i hi => by rw [if_neg (by omega)]),(((Below.refl _ _).alloc (by simp) _).alloc (by simp) _).alloc (by simp; omega) _⟩
 case round =>
  obtain ⟨k,hk,hi,rfl,hRX,hRZ,hS,hbel⟩:=hrel
  cases k with
  | zero =>
   subst hi
   obtain ⟨c0,c1,c2,c3⟩:=zap hS
   obtain ⟨d0,d1,d2,d3⟩:=zap hRZ
   obtain ⟨f0,f1,f2,f3⟩:=zbq hRZ
   simp only [Nat.zero_le,if_true] at c0 c1 c2 c3
   clear hS hRX
   go_wp2
   refine bodyPost_ret (results_cell_row rfl _ _ (w.heap.size + 1) 29 #[vI vU (wd (X / 2) 0),vI vU (wd (X / 2) 1),vI vU (wd (X / 2) 2),vI vU (wd (X / 2) 3)] (0,0) _ rfl (blk4 (put4 hRZ fun j => .int .u64 (wd (X / 2) j))) Tryz.underlying29 rfl (by kernel_rfl)) rfl ⟨rfl,zbb hbel (by omega) _ _ _ _⟩
  | succ m =>
   obtain rfl : _ = Value.int .i64 (m : Int):=hi.trans (by congr 1; omega)
   have hm : m < 4:=by omega
   clear hi
   have c1:=hRX.cell hm
   have c2:=hS.cell hm
   have f2:=hS.frozen m
   have l1:=wd_lo X m
   have u1:=wd_le X m
   have l2:=wd_lo X (m + 1)
   have u2:=wd_le X (m + 1)
   go_wp2
   go_roundw
   case rel =>
    rw [half_word]
    exact ⟨m,by omega,rfl,rfl,zat hRX (by omega) _,zat hRZ (by omega) _,(hS.set m _).congr row_down,zai hbel (by omega) _⟩
   case measure => simp [intOf]
theorem khalf (X Z : Nat) (h : X / 2 = Z) (hX : X < top) (w : World) :
  Calls Tryz.prog 126 #[.agg #[vI vU (wd X 0),vI vU (wd X 1),vI vU (wd X 2),vI vU (wd X 3)]] w fun e w' => e = .returned (.agg #[vI vU (wd Z 0),vI vU (wd Z 1),vI vU (wd Z 2),vI vU (wd Z 3)]) ∧ Below w.heap.size w w':=by
 subst h; exact half_calls X hX w
theorem klen (X : Nat) (m : Int) (h : (bitLen X : Int) = m) (hX : X < top) (w : World) :
  Calls Tryz.prog 103 #[.agg #[vI vU (wd X 0),vI vU (wd X 1),vI vU (wd X 2),vI vU (wd X 3)]] w fun e w' => e = .returned (.int .i64 m) ∧ Below w.heap.size w w':=by
 subst h; exact len_calls X hX w
theorem zfu {P : Program} {w : World} {ops : Array Oper} {rest : List Oper} {o : Oper} {a : Act} {Q : Exit → Act → World → Prop} (hgd : o.guard = none) (d s : Operand) (dT sT : TypeId)
  (ho : o.op = .call { callee:=.builtin .copy,args:=#[d,s],argTypes:=#[dT,sT] }) (elem : TypeId) (hu : P.underlying dT = some (.slice elem)) (hsz : (P.info? elem).map (·.size) = some 1)
  (g dLen dCap : Nat) (A : Option Addr) (m c : Nat) (hd : a.eval d = .slice (some ⟨g,0,none⟩) dLen dCap) (hs : a.eval s = .slice A m c)
  (t n : Nat) (f : Nat → Value) (hrow : w.rowIs g t n f) (hm : m ≤ dLen) (hfit : m ≤ n) (v : Nat → Value) (hsrc : From w A m v)
  (h1 : ∀ j,j < m → (v j).oneCell' = true)
  (h : ∀ w',But g w w' → w'.rowIs g t n (fun j => if j < m then v j else f j) → wpList P ops Q rest (a.put o.dst (goInt (m : Nat))) w') : wpList P ops Q (o :: rest) a w:=by
 rcases hsrc with h0 | ⟨ad,rfl,hc⟩
 ·
  subst h0
  exact wpList_copy_nothing hgd d s dT sT ho elem hu hsz _ A dLen dCap 0 c hd hs (by simp) (h w (But.refl _ _) (hrow.congr fun j _ => by rw [if_neg (by omega)]))
 ·
  refine zcz hgd d s dT sT ho elem hu hsz g 0 dLen dCap ad m c hd hs t n f hrow m (Nat.min_eq_left hm).symm v hc (by omega) h1 fun w' hb hr => h w' hb (hr.congr fun j _ => ?_)
  by_cases e : j < m
  ·
   rw [if_pos ⟨by omega,by omega⟩,if_pos e]; rfl
  ·
   rw [if_neg (by omega),if_neg e]
theorem info64 : (Tryz.prog.info? 158).map (·.size) = some 64:=by kernel_rfl
theorem zB64 : (#[.int .u8 0,.int .u8 0,.int .u8 0,.int .u8 0,.int .u8 0,.int .u8 0,.int .u8 0,.int .u8 0,.int .u8 0,.int .u8 0,.int .u8 0,.int .u8 0,.int .u8 0,.int .u8 0,.int .u8 0,.int .u8 0,.int .u8 0,.int .u8 0,.int .u8 0,.int .u8 0,.int .u8 0,.int .u8 0,.int .u8 0,.int .u8 0,.int .u8 0,.int .u8 0,.int .u8 0,.int .u8 0,.int .u8 0,.int .u8 0,.int .u8 0,.int .u8 0,.int .u8 0,.int .u8 0,.int .u8 0,.int .u8 0,.int .u8 0,.int .u8 0,.int .u8 0,.int .u8 0,.int .u8 0,.int .u8 0,.int .u8 0,.int .u8 0,.int .u8 0,.int .u8 0,.int .u8 0,.int .u8 0,.int .u8 0,.int .u8 0,.int .u8 0,.int .u8 0,.int .u8 0,.int .u8 0,.int .u8 0,.int .u8 0,.int .u8 0,.int .u8 0,.int .u8 0,.int .u8 0,.int .u8 0,.int .u8 0,.int .u8 0,.int .u8 0] : Array Value) = arrOf 64 (fun _ => .int .u8 0):=rfl
theorem blockOf_calls (A : Option Addr) (n c : Nat) (y : Nat → Nat) (hy : ∀ j,y j < 256) (hnc : n ≤ c) (hn : n ≤ 1048576) (w : World) (hK : KT w) (hS : Src w A n y w.heap.size) :
  Calls Tryz.prog 169 #[.slice A n c] w fun e w' => e = .returned (.agg (arrOf 64 fun j => .int .u8 (kb y n j : Nat))) ∧ Below w.heap.size w w':=by
 have HK:=veil hK
 have HS:=veil hS
 have HY:=veil hy
 have hg0:=hK.lt
 clear hK hS hy
 go_enter Tryz.func169,Tryz.ntmps169
 go_upto_region 2 with (fail)
 rw [zB64]
 have hN0:=zav w 64 158 (fun _ => Value.int .u8 0) rfl
 have hb0 : Below w.heap.size w (w.alloc (.cells (arrOf 64 (fun _ => .int .u8 0)) 158)):=(Below.refl _ _).alloc (Nat.le_refl _) _
 have hz0 : (w.alloc (.cells (arrOf 64 (fun _ => .int .u8 0)) 158)).heap.size = w.heap.size + 1:=by simp
 generalize w.alloc (.cells (arrOf 64 (fun _ => .int .u8 0)) 158) = w0 at *
 have hR1:=zav w0 64 158 (fun _ => Value.int .u8 0) rfl
 rw [hz0] at hR1
 have hN1:=hN0.alloc (.cells (arrOf 64 (fun _ => .int .u8 0)) 158)
 have hb1:=hb0.alloc hb0.size (.cells (arrOf 64 (fun _ => .int .u8 0)) 158)
 have hz1 : (w0.alloc (.cells (arrOf 64 (fun _ => .int .u8 0)) 158)).heap.size = w.heap.size + 1 + 1:=by simp [hz0]
 generalize w0.alloc (.cells (arrOf 64 (fun _ => .int .u8 0)) 158) = w1 at *
 clear hN0 hb0 hz0
 have hzle : w.heap.size + 1 < w1.heap.size:=by omega
 by_cases hlong : n > 64
 ·
  have hil : (64 : Int) < (n : Int):=by omega
  go_wp2_with fail
  refine (sum_calls A n c y HY.out hnc hn w1 (zfb HK.out hb1) (zik HS.out hb1 (by omega))).mono ?_
  rintro e w3 ⟨rfl,hb3⟩
  have HZ:=veil (And.intro (zaw y n) (And.intro (show (dgst y n).all (·.oneCell') = true from zau fun _ _ => rfl) (show (Tryz.prog.info? 23).map (·.size) = some (dgst y n).size by rw [zaw]; exact infoD)))
  have hR3:=zad hR1 hb3 (by omega)
  have hN3:=zad hN1 hb3 (by omega)
  have hB3:=hb1.trans (hb3.mono (by omega))
  have hz3:=hb3.size
  obtain ⟨D,hD⟩ : ∃ D,D = dgst y n:=⟨_,rfl⟩
  rw [← hD] at HZ ⊢
  have HD:=veil hD
  clear hD hR1 hN1 hb1 hb3
  go_upto_region 4 with ((with_reducible refine zak ?_); refine wpList_store_row rfl 23 _ _ rfl w3.heap.size D rfl rfl 23 _ (heap_alloc_last w3 _) HZ.out.2.2 (by rw [HZ.out.1]; rfl) HZ.out.2.1 ?_; rw [World.setRow_alloc_new])
  have hD4 : (w3.alloc (.cells D 23)).rowIs w3.heap.size 23 32 (fun j => .int .u8 (dByte (shaSt y n) j : Nat)):=by rw [HD.out]; exact zav w3 32 23 _ rfl
  have hR4:=hR3.alloc (.cells D 23)
  have hN4:=hN3.alloc (.cells D 23)
  have hB4:=hB3.alloc hB3.size (.cells D 23)
  generalize w3.alloc (.cells D 23) = w4 at *
  generalize w3.heap.size = g4 at *
  obtain ⟨t,ht⟩ : ∃ t,t = fun j => dByte (shaSt y n) j:=⟨_,rfl⟩
  have HSR:=veil (show From w4 (some ⟨g4,0,none⟩) 32 (fun j => .int .u8 (t j : Nat)) from .inr ⟨_,rfl,fun j hj => by rw [Addr.add_mid,Nat.zero_add,ht]; exact hD4.cell hj⟩)
  have HT:=veil (show ∀ j,j < 64 → (if j < 32 then Value.int .u8 (t j : Nat) else .int .u8 0) = .int .u8 (kb y n j : Nat) from fun j _ => by
   unfold kb upTo
   rw [if_pos hlong,ht]
   split <;> rfl)
  have HR:=veil hR4
  have HN:=veil hN4
  have HB:=veil hB4
  clear hR4 hN4 hB4 hD4 ht hR3 hN3 hB3 hil
  obtain ⟨E,hE⟩ : ∃ E,E = arrOf 64 (fun j => Value.int .u8 (kb y n j : Nat)):=⟨_,rfl⟩
  have hEs : E.size = 64:=by rw [hE,zan]
  have hE1 : E.all (·.oneCell') = true:=by rw [hE]; exact zau fun _ _ => rfl
  have HEI:=veil (And.intro hEs (And.intro hE1 (show (Tryz.prog.info? 158).map (·.size) = some E.size by rw [hEs]; exact info64)))
  have HE:=veil hE
  clear hE hEs hE1
  go_wp2_with (first
   | ((with_reducible refine zac 13 ?_); refine zfu rfl _ _ 24 24 rfl 5 Tryz.underlying24 infoB (w.heap.size + 1) 64 64 (some ⟨g4,0,none⟩) 32 32 rfl rfl 158 64 _ HR.out (by omega) (by omega) (fun j => .int .u8 (t j : Nat)) HSR.out (fun _ _ => rfl) ?_; intro w6 hb6 hr6; have hr6 : w6.rowIs (w.heap.size + 1) 158 64 (fun j => Value.int .u8 (kb y n j : Nat)):=hr6.congr HT.out; have hR6:=blkOf hr6; rw [← HE.out] at hR6; have hR6:=veil hR6; have hN6:=veil (blkOf (zef HN.out hb6 (by omega))); have hB6:=veil (HB.out.trans (But.new hb6 (B:=w.heap.size) (by omega) HB.out.size)); clear hb6 hr6)
   | ((with_reducible refine zac 14 ?_); refine wpList_load_row rfl 158 _ rfl (w.heap.size + 1) rfl 158 E (0,0) _ hR6.out Tryz.underlying158 rfl HEI.out.2.2 ?_)
   | ((with_reducible refine zak ?_); refine wpList_store_row rfl 158 _ _ rfl w.heap.size E rfl rfl 158 _ hN6.out HEI.out.2.2 (by rw [HEI.out.1,zan]) HEI.out.2.1 ?_))
  exact bodyPost_ret (results_cell_row rfl _ _ w.heap.size 158 E (0,0) _ rfl (setRow_heap w6 w.heap.size _ E 158 (0,0) hN6.out) Tryz.underlying158 rfl HEI.out.2.2) rfl ⟨by rw [HE.out],zcc hB6.out (Nat.le_refl _) _⟩
 ·
  have hil : ¬ ((64 : Int) < (n : Int)):=by omega
  have HSR:=veil (zmc HS.out hb1)
  have HT:=veil (show ∀ j,j < 64 → (if j < n then Value.int .u8 (y j : Nat) else .int .u8 0) = .int .u8 (kb y n j : Nat) from fun j _ => by
   unfold kb upTo
   rw [if_neg hlong]
   split <;> rfl)
  have HR:=veil hR1
  have HN:=veil hN1
  have HB:=veil hb1
  clear hR1 hN1 hb1
  obtain ⟨E,hE⟩ : ∃ E,E = arrOf 64 (fun j => Value.int .u8 (kb y n j : Nat)):=⟨_,rfl⟩
  have hEs : E.size = 64:=by rw [hE,zan]
  have hE1 : E.all (·.oneCell') = true:=by rw [hE]; exact zau fun _ _ => rfl
  have HEI:=veil (And.intro hEs (And.intro hE1 (show (Tryz.prog.info? 158).map (·.size) = some E.size by rw [hEs]; exact info64)))
  have HE:=veil hE
  clear hE hEs hE1
  go_wp2_with (first
   | ((with_reducible refine zac 13 ?_); refine zfu rfl _ _ 24 24 rfl 5 Tryz.underlying24 infoB (w.heap.size + 1) 64 64 A n c rfl rfl 158 64 _ HR.out (by omega) (by omega) (fun j => .int .u8 (y j : Nat)) HSR.out (fun _ _ => rfl) ?_; intro w6 hb6 hr6; have hr6 : w6.rowIs (w.heap.size + 1) 158 64 (fun j => Value.int .u8 (kb y n j : Nat)):=hr6.congr HT.out; have hR6:=blkOf hr6; rw [← HE.out] at hR6; have hR6:=veil hR6; have hN6:=veil (blkOf (zef HN.out hb6 (by omega))); have hB6:=veil (HB.out.trans (But.new hb6 (B:=w.heap.size) (by omega) HB.out.size)); clear hb6 hr6)
   | ((with_reducible refine zac 14 ?_); refine wpList_load_row rfl 158 _ rfl (w.heap.size + 1) rfl 158 E (0,0) _ hR6.out Tryz.underlying158 rfl HEI.out.2.2 ?_)
   | ((with_reducible refine zak ?_); refine wpList_store_row rfl 158 _ _ rfl w.heap.size E rfl rfl 158 _ hN6.out HEI.out.2.2 (by rw [HEI.out.1,zan]) HEI.out.2.1 ?_))
  exact bodyPost_ret (results_cell_row rfl _ _ w.heap.size 158 E (0,0) _ rfl (setRow_heap w6 w.heap.size _ E 158 (0,0) hN6.out) Tryz.underlying158 rfl HEI.out.2.2) rfl ⟨by rw [HE.out],zcc hB6.out (Nat.le_refl _) _⟩
theorem text_one (t : Nat → Nat) : textN (fun _ => 32) (fun _ => t) 1 = t:=zid _ t
theorem parts_one {W : World} {b g : Nat} {t : Nat → Nat} (ht : ∀ j,t j < 256) (hb : W.cell? ⟨b,0,none⟩ = some (.slice (some ⟨g,0,none⟩) 32 32)) (hg : g < W.heap.size) (hc : ∀ j,j < 32 → W.cell? ⟨g,j,none⟩ = some (.int .u8 (t j : Nat))) :
  Parts3 W (some ⟨b,0,none⟩) 1 (fun _ => some ⟨g,0,none⟩) (fun _ => 32) (fun _ => 32) (fun _ => t) where
 row:=.inr ⟨b,0,rfl,World.block_lt_of_cell? W _ hb,fun r hr => by
                                     obtain rfl : r = 0:=by omega
                                     exact hb⟩
 src:=fun r hr => .inr ⟨g,0,rfl,hg,by omega,fun j hj => by rw [Nat.zero_add]; exact hc j hj⟩
 cap:=fun _ _ => Nat.le_refl _
 lt:=fun _ => ht
theorem ofmac_calls (K : Option Addr) (n c : Nat) (y : Nat → Nat) (hy : ∀ j,y j < 256) (hnc : n ≤ c) (hn : n ≤ 1048576) (AL : Option Addr) (nl cl : Nat) (A : Nat → Option Addr) (L C : Nat → Nat) (Y : Nat → Nat → Nat) (hnl : nl ≤ 100000) (hT : lenN L nl ≤ 100000)
  (w : World) (hK : KT w) (hS : Src w K n y w.heap.size) (hP : Parts3 w AL nl A L C Y) :
  Calls Tryz.prog 161 #[.slice K n c,.slice AL nl cl] w fun e w' => e = .returned (.agg (macD y n (textN L Y nl) (lenN L nl))) ∧ Below w.heap.size w w':=by
 have HK:=veil hK
 have HS:=veil hS
 have HY:=veil hy
 have HP:=veil hP
 have HT:=veil (And.intro hT hnl)
 have hg0:=hK.lt
 clear hK hS hy hP hT hnl
 go_enter Tryz.func161,Tryz.ntmps161
 go_upto_region 1 with (fail)
 rw [zeros32]
 have hR1:=zav w 32 23 (fun _ => Value.int .u8 0) rfl
 have hb1 : Below w.heap.size w (w.alloc (.cells (arrOf 32 (fun _ => .int .u8 0)) 23)):=(Below.refl _ _).alloc (Nat.le_refl _) _
 generalize w.alloc (.cells (arrOf 32 (fun _ => .int .u8 0)) 23) = w1 at *
 go_wp2_with fail
 refine (blockOf_calls K n c y HY.out hnc hn w1 (zfb HK.out hb1) (zik HS.out hb1 hb1.size)).mono ?_
 rintro e w2 ⟨rfl,hb2⟩
 have hR2:=zad hR1 hb2 hR1.lt
 have hB2:=hb1.trans (hb2.mono hb1.size)
 have hlt2:=hR2.lt
 obtain ⟨E,hE⟩ : ∃ E,E = arrOf 64 (fun j => Value.int .u8 (kb y n j : Nat)):=⟨_,rfl⟩
 have hEs : E.size = 64:=by rw [hE,zan]
 have hE1 : E.all (·.oneCell') = true:=by rw [hE]; exact zau fun _ _ => rfl
 have HEI:=veil (And.intro hEs (And.intro hE1 (show (Tryz.prog.info? 158).map (·.size) = some E.size by rw [hEs]; exact info64)))
 rw [← hE]
 have HE:=veil hE
 clear hE hEs hE1 hR1 hb1 hb2
 have HM1:=veil (fun W (hk : KT W) (hp : Parts3 W AL nl A L C Y) => zku (kb y n) (kb_lt HY.out n) 54 (by decide) AL nl cl A L C Y HT.out.2 HT.out.1 W hk hp)
 have HM2:=veil (fun W g d (t : Nat → Nat) (ht : ∀ j,t j < 256) (hk : KT W) (hp : Parts3 W (some ⟨g,0,none⟩) 1 (fun _ => some ⟨d,0,none⟩) (fun _ => 32) (fun _ => 32) (fun _ => t)) =>
  zku (kb y n) (kb_lt HY.out n) 92 (by decide) (some ⟨g,0,none⟩) 1 1 (fun _ => some ⟨d,0,none⟩) (fun _ => 32) (fun _ => 32) (fun _ => t) (by decide) (by decide) W hk hp)
 rw [← HE.out] at HM1 HM2
 go_upto_region 2 with ((with_reducible refine zak ?_); refine wpList_store_row rfl 158 _ _ rfl w2.heap.size E rfl rfl 158 _ (heap_alloc_last w2 _) HEI.out.2.2 (by rw [HEI.out.1]; rfl) HEI.out.2.1 ?_; rw [World.setRow_alloc_new])
 have hE3 : (w2.alloc (.cells E 158)).heap[w2.heap.size]? = some (.cells E 158 (0,0)):=heap_alloc_last w2 _
 have hR3:=hR2.alloc (.cells E 158)
 have hB3:=hB2.alloc hB2.size (.cells E 158)
 have hlt3 : w2.heap.size < (w2.alloc (.cells E 158)).heap.size:=by simp
 generalize w2.alloc (.cells E 158) = w3 at *
 generalize hg5 : w2.heap.size = g5 at *
 clear hR2 hB2 hg5
 obtain ⟨D,hD⟩ : ∃ D,D = dgst (macIn y n (textN L Y nl)) (64 + lenN L nl):=⟨_,rfl⟩
 have HZ:=veil (And.intro (zaw (macIn y n (textN L Y nl)) (64 + lenN L nl)) (And.intro (show (dgst (macIn y n (textN L Y nl)) (64 + lenN L nl)).all (·.oneCell') = true from zau fun _ _ => rfl) (show (Tryz.prog.info? 23).map (·.size) = some (dgst (macIn y n (textN L Y nl)) (64 + lenN L nl)).size by rw [zaw]; exact infoD)))
 have HM1':=veil (show ∀ W,KT W → Parts3 W AL nl A L C Y → Calls Tryz.prog 170 #[.agg E,.int .u8 54,.slice AL nl cl] W fun e W' => e = .returned (.agg D) ∧ Below W.heap.size W W' from by rw [hD]; exact HM1.out)
 rw [← hD] at HZ
 have HD:=veil hD
 have HE3:=veil hE3
 have H3:=veil (And.intro hR3 hB3)
 clear hD HM1 hE3 hR3 hB3
 go_upto_region 3 with (first
  | ((with_reducible refine zac 9 ?_); refine wpList_load_row rfl 158 _ rfl g5 rfl 158 E (0,0) _ HE3.out Tryz.underlying158 rfl HEI.out.2.2 ?_)
  | (go_at_call 170; refine (HM1'.out w3 (zfb HK.out H3.out.2) (HP.out.call H3.out.2)).mono ?_; rintro e w4 ⟨rfl,hb4⟩)
  | ((with_reducible refine zak ?_); refine wpList_store_row rfl 23 _ _ rfl w4.heap.size D rfl rfl 23 _ (heap_alloc_last w4 _) HZ.out.2.2 (by rw [HZ.out.1]; rfl) HZ.out.2.1 ?_; rw [World.setRow_alloc_new]))
 have hE5 : (w4.alloc (.cells D 23)).heap[g5]? = some (.cells E 158 (0,0)):=((Below.heap_alloc _ _ _ (by have:=hb4.size; omega)).trans (hb4.block g5 hlt3)).trans HE3.out
 have hR5:=(zad H3.out.1 hb4 (by omega)).alloc (.cells D 23)
 have hB5:=(H3.out.2.trans (hb4.mono H3.out.2.size)).alloc (H3.out.2.trans (hb4.mono H3.out.2.size)).size (.cells D 23)
 have hD5 : (w4.alloc (.cells D 23)).rowIs w4.heap.size 23 32 (fun j => .int .u8 (dByte (shaSt (macIn y n (textN L Y nl)) (64 + lenN L nl)) j : Nat)):=by rw [HD.out]; exact zav w4 32 23 _ rfl
 have hlt4 : g5 < w4.heap.size:=by have:=hb4.size; omega
 have hlt5 : w4.heap.size < (w4.alloc (.cells D 23)).heap.size:=by simp
 generalize w4.alloc (.cells D 23) = w5 at *
 generalize hg6 : w4.heap.size = g6 at *
 clear hb4 H3 HE3 HM1' hg6
 obtain ⟨t,ht⟩ : ∃ t,t = fun j => dByte (shaSt (macIn y n (textN L Y nl)) (64 + lenN L nl)) j:=⟨_,rfl⟩
 have hD5 : w5.rowIs g6 23 32 (fun j => .int .u8 (t j : Nat)):=by rw [ht]; exact hD5
 obtain ⟨F,hF⟩ : ∃ F,F = macD y n (textN L Y nl) (lenN L nl):=⟨_,rfl⟩
 have HF:=veil (show F.size = 32 ∧ F.all (·.oneCell') = true ∧ (Tryz.prog.info? 23).map (·.size) = some F.size from by
  rw [hF]; exact ⟨zaw _ _,zau fun _ _ => rfl,by show _ = some (dgst _ _).size; rw [zaw]; exact infoD⟩)
 have HM3:=veil (show ∀ W g,KT W → But w.heap.size w5 W → W.cell? ⟨g,0,none⟩ = some (.slice (some ⟨g6,0,none⟩) 32 32) → Calls Tryz.prog 170 #[.agg E,.int .u8 92,.slice (some ⟨g,0,none⟩) 1 1] W fun e W' => e = .returned (.agg F) ∧ Below W.heap.size W W' from fun W g hk hbt hc => by
  have h:=HM2.out W g g6 t (fun j => by rw [ht]; exact zib _ j) hk (parts_one (fun j => by rw [ht]; exact zib _ j) hc (by have:=hbt.size; omega) (fun j hj => (World.cell?_of_block (a:=⟨g6,j,none⟩) (hbt.block g6 hlt5 (by simp; omega))).trans (hD5.cell hj)))
  rw [text_one,ht] at h
  rw [hF]
  exact h)
 have HFF:=veil hF
 have hrg : w5.rangeAt g5 0 E.toList:=fun j v hv => by
  rw [Nat.zero_add,cell_of_row w5 g5 j E 158 (0,0) hE5]
  simpa using hv
 have HN:=veil hR5
 have hoF : ∀ v ∈ F.toList,v.oneCell' = true:=fun v hv => (Array.all_eq_true_iff_forall_mem.1 HF.out.2.1) v (by simpa using hv)
 have hiF : (Tryz.prog.info? 23).map (·.size) = some F.toList.length:=by rw [Array.length_toList]; exact HF.out.2.2
 have HK5:=veil (And.intro (zfb HK.out hB5) hB5)
 have hu:=Tryz.underlying158
 have hii : (Tryz.prog.info? 158).map (·.size) = some E.toList.length:=by rw [Array.length_toList]; exact HEI.out.2.2
 have hl64 : E.toList.length = 64:=by rw [Array.length_toList]; exact HEI.out.1
 have hone : ∀ v ∈ E.toList,v.oneCell' = true:=fun v hv => (Array.all_eq_true_iff_forall_mem.1 HEI.out.2.1) v (by simpa using hv)
 have hT : E.toList.toArray = E:=by simp
 obtain ⟨Z,hZ⟩ : ∃ Z,Z = E.toList:=⟨_,rfl⟩
 rw [← hZ] at hii hl64 hone hT hrg
 have hg5 : g5 < w5.heap.size:=by omega
 clear hZ hF ht hD5 HM2 hE5 hR5 hB5 HE HD HZ HEI
 have hS0 : w5.rangeAt g5 0 Z ∧ But w.heap.size w5 w5:=⟨hrg,But.refl _ _⟩
 go_region_held3 (fun w' => w'.rangeAt g5 0 Z ∧ But w.heap.size w5 w')
  (first
   | with_reducible assumption
   | exact hS0
   | exact keepD hS0
   | exact keepD (keepA hg5 hS0)
   | exact keepC hb' hgW (by assumption)
   | exact keepS (Nat.ne_of_gt hlt2) (by assumption))
  (first
   | (go_at_call 170; have hgW:=(show g5 < (w5.alloc (.cells #[.slice (some ⟨g6,0,none⟩) 32 32] 24)).drew.heap.size from by simp [World.drew]; omega); refine (HM3.out _ w5.heap.size ((HK5.out.1.alloc _).drew) (But.alloc (But.refl _ w5) _).drew (by rw [World.cell?_drew,World.cell?_alloc_mark]; rfl)).mono ?_; rintro e w' ⟨rfl,hb'⟩; have hN':=veil (zad (zbs (HN.out.alloc (.cells #[.slice (some ⟨g6,0,none⟩) 32 32] 24)) 1) hb' (by omega)); have hth:=there_row hN'.out (show F.toList.length = 32 by rw [Array.length_toList]; exact HF.out.1)))
 rename (_ ∧ But _ _ _) => hHeld
 clear hu hrg hT hone hl64 hii hS0 hoF hiF hth
 go_wp2
 exact bodyPost_ret (results_cell_row rfl _ _ w.heap.size 23 F (0,0) _ rfl (zmm hN'.out HF.out.1) Tryz.underlying23 rfl HF.out.2.2) rfl ⟨by rw [HFF.out],HK5.out.2.trans (But.new hHeld.2 (B:=w.heap.size) (Nat.le_refl _) HK5.out.2.size)⟩
def sb (s : KV) (j : Nat) : Value:=.int .u8 ((if j < 32 then s.k j else s.v (j - 32) : Nat) : Int)
def SRow (w : World) (g : Nat) (s : KV) : Prop:=w.rowIs g 176 64 (sb s)
section
variable {w w' : World} {g : Nat} {s : KV}
theorem SRow.lt (h : SRow w g s) : g < w.heap.size:=World.rowIs.lt h
theorem SRow.key (h : SRow w g s) : Src w (some ⟨g,0,none⟩) 32 s.k w.heap.size:=.inr ⟨g,0,rfl,h.lt,Nat.ne_of_lt h.lt,fun j hj => by
 have h1:=World.rowIs.cell h (show j < 64 by omega)
 unfold sb at h1
 rw [if_pos hj] at h1
 rw [Nat.zero_add]; exact h1⟩
theorem SRow.cellV (h : SRow w g s) (j : Nat) (hj : j < 32) : w.cell? ⟨g,32 + j,none⟩ = some (.int .u8 (s.v j : Nat)):=by
 have h1:=World.rowIs.cell h (show 32 + j < 64 by omega)
 unfold sb at h1
 rw [if_neg (by omega),show 32 + j - 32 = j by omega] at h1
 exact h1
theorem SRow.val (h : SRow w g s) : Src w (some ⟨g,32,none⟩) 32 s.v w.heap.size:=.inr ⟨g,32,rfl,h.lt,Nat.ne_of_lt h.lt,h.cellV⟩
theorem SRow.call (h : SRow w g s) (hb : Below w.heap.size w w') : SRow w' g s:=zad h hb h.lt
theorem SRow.but {r : Nat} (h : SRow w g s) (k : But r w w') (hne : g ≠ r) : SRow w' g s:=zef h k hne
theorem SRow.alloc (h : SRow w g s) (o : Obj) : SRow (w.alloc o) g s:=World.rowIs.alloc h o
theorem SRow.putV {y : Nat → Nat} {F : Array Value} (h : SRow w g s) (hF : F = arrOf 32 (fun i => .int .u8 (y i : Nat))) : SRow (w.setCells g 32 F.toList) g ⟨s.k,y⟩ :=
 (zcs F.toList 32 w (sb s) h).congr fun j hj => by
  have hl : F.toList.length = 32:=by rw [Array.length_toList,hF,zan]
  unfold sb
  by_cases h1 : j < 32
  ·
   rw [if_neg (by omega),if_pos h1,if_pos h1]
  ·
   rw [if_pos (by omega),if_neg h1,List.getD_eq_getElem?_getD,Array.getElem?_toList,hF,zbt _ (by omega)]
   rfl
theorem SRow.putK {y : Nat → Nat} {F : Array Value} (h : SRow w g s) (hF : F = arrOf 32 (fun i => .int .u8 (y i : Nat))) : SRow (w.setCells g 0 F.toList) g ⟨y,s.v⟩ :=
 (zcs F.toList 0 w (sb s) h).congr fun j hj => by
  have hl : F.toList.length = 32:=by rw [Array.length_toList,hF,zan]
  unfold sb
  by_cases h1 : j < 32
  ·
   rw [if_pos (by omega),if_pos h1,List.getD_eq_getElem?_getD,Array.getElem?_toList,hF,Nat.sub_zero,zbt _ (by omega)]
   rfl
  ·
   rw [if_neg (by omega),if_neg h1,if_neg h1]
theorem there_mid {b t n o m : Nat} {f : Nat → Value} (h : w.rowIs b t n f) (hm : o + m ≤ n) : w.there b o m:=fun j hj => by
 rw [h.cell (by omega)]
 exact ⟨rfl,h.frozen _⟩
end
theorem parts_at {W : World} {b g o : Nat} {t : Nat → Nat} (ht : ∀ j,t j < 256) (hb : W.cell? ⟨b,0,none⟩ = some (.slice (some ⟨g,o,none⟩) 32 32)) (hg : g < W.heap.size) (hc : ∀ j,j < 32 → W.cell? ⟨g,o + j,none⟩ = some (.int .u8 (t j : Nat))) :
  Parts3 W (some ⟨b,0,none⟩) 1 (fun _ => some ⟨g,o,none⟩) (fun _ => 32) (fun _ => 32) (fun _ => t) where
 row:=.inr ⟨b,0,rfl,World.block_lt_of_cell? W _ hb,fun r hr => by
                                     obtain rfl : r = 0:=by omega
                                     exact hb⟩
 src:=fun r hr => .inr ⟨g,o,rfl,hg,by omega,fun j hj => hc j hj⟩
 cap:=fun _ _ => Nat.le_refl _
 lt:=fun _ => ht
theorem step_calls (g : Nat) (s : KV) (hs : s.Ok) (w : World) (hK : KT w) (hS : SRow w g s) :
  Calls Tryz.prog 144 #[.pointer (some ⟨g,0,none⟩)] w fun e w' => e = .returned (.tuple #[]) ∧ SRow w' g s.step ∧ But g w w':=by
 obtain ⟨F,hF⟩ : ∃ F,F = macD s.k 32 s.v 32:=⟨_,rfl⟩
 have HF:=veil (show F.size = 32 ∧ F.all (·.oneCell') = true ∧ (Tryz.prog.info? 23).map (·.size) = some F.size from by
  rw [hF]; exact ⟨zaw _ _,zau fun _ _ => rfl,by show _ = some (dgst _ _).size; rw [zaw]; exact infoD⟩)
 have HM:=veil (show ∀ W b,Below w.heap.size w W → W.cell? ⟨b,0,none⟩ = some (.slice (some ⟨g,32,none⟩) 32 32) → Calls Tryz.prog 161 #[.slice (some ⟨g,0,none⟩) 32 32,.slice (some ⟨b,0,none⟩) 1 1] W fun e W' => e = .returned (.agg F) ∧ Below W.heap.size W W' from fun W b hb hc => by
  have hS':=hS.call hb
  have h:=ofmac_calls (some ⟨g,0,none⟩) 32 32 s.k hs.k (by decide) (by decide) (some ⟨b,0,none⟩) 1 1 (fun _ => some ⟨g,32,none⟩) (fun _ => 32) (fun _ => 32) (fun _ => s.v) (by decide) (by decide) W (hK.call hb) hS'.key (parts_at hs.v hc hS'.lt hS'.cellV)
  rw [text_one] at h
  rw [hF]
  exact h)
 have HFF:=veil (hF.trans (macD_nb _ _ _ _))
 have HS:=veil hS
 have hoF : ∀ v ∈ F.toList,v.oneCell' = true:=fun v hv => (Array.all_eq_true_iff_forall_mem.1 HF.out.2.1) v (by simpa using hv)
 have hiF : (Tryz.prog.info? 23).map (·.size) = some F.toList.length:=by rw [Array.length_toList]; exact HF.out.2.2
 have hS0 : Bt g 176 64 w w:=.of hS (But.refl _ _)
 have hlt:=hS.lt
 clear hF hs hK hS
 go_enter Tryz.func144,Tryz.ntmps144
 go_region_held3 (fun w' => Bt g 176 64 w w')
  (first
   | with_reducible assumption
   | exact hS0
   | exact hS0.drew
   | exact hS0.alloc _
   | exact (hS0.alloc _).drew
   | exact Bt.drew (by with_reducible assumption)
   | exact Bt.setCells (by with_reducible assumption) _ _
   | exact Bt.call (by with_reducible assumption) (by assumption))
  (first
   | (go_at_call 161; refine (HM.out _ w.heap.size ((Below.refl _ _).alloc (Nat.le_refl _) _).drew (by rw [World.cell?_drew,World.cell?_alloc_mark]; rfl)).mono ?_; rintro e w' ⟨rfl,hb'⟩; have hN':=veil (HS.out.call (((Below.refl _ _).alloc (Nat.le_refl _) _).drew.trans (hb'.mono (by simp [World.drew])))); have hth:=there_mid (o:=32) (m:=F.toList.length) hN'.out (by rw [Array.length_toList,HF.out.1]; decide)))
 rename (Bt _ _ _ _ _) => hHeld
 clear hoF hiF hS0 hth
 go_wp2
 go_end0
 exact ⟨rfl,hN'.out.putV HFF.out,hHeld.1⟩
def pL (L : Nat → Nat) (r : Nat) : Nat:=if r = 0 then 32 else if r = 1 then 1 else L (r - 2)
def pY (v : Nat → Nat) (b : Nat) (Y : Nat → Nat → Nat) (r : Nat) : Nat → Nat:=if r = 0 then v else if r = 1 then cat (fun _ => b) 1 none0 else Y (r - 2)
theorem textN_two (v : Nat → Nat) (b : Nat) (L : Nat → Nat) (Y : Nat → Nat → Nat) (n : Nat) :
  textN (pL L) (pY v b Y) (2 + n) = tx v b (textN L Y n) ∧ lenN (pL L) (2 + n) = 33 + lenN L n:=by
 induction n with
 | zero =>
  refine ⟨?_,rfl⟩
  show cat (cat (fun _ => 0) 0 v) 32 (cat (fun _ => b) 1 none0) = cat v 32 (cat (fun _ => b) 1 none0)
  rw [zid]
 | succ n ih =>
  obtain ⟨h1,h2⟩:=ih
  have e : 2 + (n + 1) = (2 + n) + 1:=by omega
  have e2 : pY v b Y (2 + n) = Y n:=by
   unfold pY
   rw [if_neg (by omega),if_neg (by omega),show 2 + n - 2 = n by omega]
  have e3 : pL L (2 + n) = L n:=by
   unfold pL
   rw [if_neg (by omega),if_neg (by omega),show 2 + n - 2 = n by omega]
  rw [e]
  refine ⟨?_,?_⟩
  ·
   show cat (textN _ _ (2 + n)) (lenN _ (2 + n)) (pY v b Y (2 + n)) = tx v b (cat (textN L Y n) (lenN L n) (Y n))
   rw [h1,h2,e2]
   unfold tx
   rw [show 33 + lenN L n = 32 + (1 + lenN L n) by omega,cat_assoc,cat_assoc]
  ·
   show lenN _ (2 + n) + pL L (2 + n) = 33 + (lenN L n + L n)
   rw [h2,e3]
   omega
theorem infoS3 : (Tryz.prog.info? 24).map (fun i => (i.zero,i.size,i.bytes)) = some (some (.slice none 0 0),1,24):=by kernel_rfl
theorem parts_two {W : World} {g g1 g3 b : Nat} {s : KV} (hs : s.Ok) (hb : b < 256) {np : Nat} {AL : Option Addr} {A : Nat → Option Addr} {L C : Nat → Nat} {Y : Nat → Nat → Nat} (hS : SRow W g s) (hP : Parts3 W AL np A L C Y)
  (h1 : W.cell? ⟨g1,0,none⟩ = some (.int .u8 (b : Int)))
  (h3 : Pre W g3 24 (2 + np) (fun j => if j < 2 then (if j = 0 then .slice (some ⟨g,32,none⟩) 32 32 else .slice (some ⟨g1,0,none⟩) 1 1) else .slice (A (j - 2)) (L (j - 2)) (C (j - 2)))) :
  Parts3 W (some ⟨g3,0,none⟩) (2 + np) (fun r => if r = 0 then some ⟨g,32,none⟩ else if r = 1 then some ⟨g1,0,none⟩ else A (r - 2)) (pL L) (pL C) (pY s.v b Y) where
 row:=.inr ⟨g3,0,rfl,h3.lt,fun r hr => by
  rw [Nat.zero_add,h3.cell hr]
  unfold pL
  by_cases e0 : r = 0
  ·
   subst e0; rfl
  ·
   by_cases e1 : r = 1
   ·
    subst e1; rfl
   ·
    simp only [e0,e1,if_false,show ¬ r < 2 by omega]⟩
 src:=fun r hr => by
  unfold pL pY
  by_cases e0 : r = 0
  ·
   subst e0; exact hS.val
  ·
   by_cases e1 : r = 1
   ·
    subst e1
    exact .inr ⟨g1,0,rfl,World.block_lt_of_cell? W _ h1,Nat.ne_of_lt (World.block_lt_of_cell? W _ h1),fun j hj => by
     have hj' : j < 1:=hj
     obtain rfl : j = 0:=by omega
     exact h1⟩
   ·
    simp only [e0,e1,if_false]
    exact hP.src (r - 2) (by omega)
 cap:=fun r hr => by
  unfold pL
  by_cases e0 : r = 0
  ·
   subst e0; exact Nat.le_refl _
  ·
   by_cases e1 : r = 1
   ·
    subst e1; exact Nat.le_refl _
   ·
    simp only [e0,e1,if_false]
    exact hP.cap (r - 2) (by omega)
 lt:=fun r j => by
  unfold pY
  split
  ·
   exact hs.v j
  ·
   split
   ·
    exact cat_lt (fun _ => hb) (fun _ => by show (0 : Nat) < 256; decide) j
   ·
    exact hP.lt _ j
theorem nmix_calls (g : Nat) (hg : g ≠ 0) (s : KV) (hs : s.Ok) (b : Nat) (hb : b < 256) (AL : Option Addr) (np cl : Nat) (A : Nat → Option Addr) (L C : Nat → Nat) (Y : Nat → Nat → Nat) (hnp : np ≤ 2) (hT : lenN L np ≤ 1000)
  (w : World) (hK : KT w) (hS : SRow w g s) (hP : Parts3 w AL np A L C Y) :
  Calls Tryz.prog 143 #[.pointer (some ⟨g,0,none⟩),.int .u8 (b : Int),.slice AL np cl] w fun e w' => e = .returned (.tuple #[]) ∧ SRow w' g (s.mix b (textN L Y np) (lenN L np)) ∧ But g w w':=by
 obtain ⟨i8,hi8,hz0,hz1,hz2⟩:=info_parts infoS3
 have HI:=veil (And.intro hi8 (And.intro hz0 (And.intro hz1 hz2)))
 clear hi8 hz0 hz1 hz2
 have HK:=veil hK
 have HS:=veil hS
 have HP:=veil hP
 have HT:=veil (And.intro hnp hT)
 have HB:=veil (And.intro hs hb)
 have HG:=veil hg
 clear hK hS hP hnp hT hs hb hg
 have hz1 : (w.alloc (.cells #[.int .u8 (b : Int)] 5)).heap.size = w.heap.size + 1:=by simp
 have hO:=Own.made (base:=w.heap.size) (e:=24) (f:=fun j => if j = 0 then .slice (some ⟨g,32,none⟩) 32 32 else .slice (some ⟨w.heap.size,0,none⟩) 1 1) (w.alloc (.cells #[.int .u8 (b : Int)] 5))
  (cs:=#[.slice (some ⟨g,32,none⟩) 32 32,.slice (some ⟨w.heap.size,0,none⟩) 1 1]) (by rw [hz1]; omega) (by show 2 ≤ maxLen; decide) (fun i hi => by
   have : i < 2:=hi
   obtain rfl | rfl : i = 0 ∨ i = 1:=by omega
   ·
    rfl
   ·
    rfl)
 rw [hz1] at hO
 have hb2 : Below w.heap.size w ((w.alloc (.cells #[.int .u8 (b : Int)] 5)).alloc (.cells #[.slice (some ⟨g,32,none⟩) 32 32,.slice (some ⟨w.heap.size,0,none⟩) 1 1] 24)):=((Below.refl _ _).alloc (Nat.le_refl _) _).alloc (by rw [hz1]; omega) _
 have hF : From ((w.alloc (.cells #[.int .u8 (b : Int)] 5)).alloc (.cells #[.slice (some ⟨g,32,none⟩) 32 32,.slice (some ⟨w.heap.size,0,none⟩) 1 1] 24)) AL np (fun j => .slice (A j) (L j) (C j)):=by
  rcases HP.out.row with h | ⟨bb,o,h,hlt,hc⟩
  ·
   exact .inl h
  ·
   exact .inr ⟨_,h,fun j hj => by rw [Addr.add_mid]; exact (hb2.cell (p:=⟨bb,o + j,none⟩) hlt).trans (hc j hj)⟩
 have hm : ((w.alloc (.cells #[.int .u8 (b : Int)] 5)).alloc (.cells #[.slice (some ⟨g,32,none⟩) 32 32,.slice (some ⟨w.heap.size,0,none⟩) 1 1] 24)).heap[w.heap.size]? = some (.cells #[.int .u8 (b : Int)] 5 (0,0)):=(Below.heap_alloc _ _ _ (by rw [hz1]; omega)).trans (heap_alloc_last w _)
 have HO:=veil (And.intro hO (And.intro hF (And.intro hb2 hm)))
 clear hO hF hb2 hm hz1
 go_enter Tryz.func143,Tryz.ntmps143
 go_upto_region 1 with (at_builtin; refine zae _ rfl _ _ _ rfl w.heap.size 24 i8 (.slice none 0 0) 24 Tryz.underlying56 HI.out.1 HI.out.2.1 HI.out.2.2.1 HI.out.2.2.2 rfl _ 2 _ rfl HO.out.1 AL np cl rfl (fun j => .slice (A j) (L j) (C j)) HO.out.2.1 (fun _ => rfl) (by have:=HT.out.1; unfold maxLen; omega) (by have:=HT.out.1; omega) (by simp; omega) ?_; intro v3 w3 hO3 hg3 ha3)
 replace hg3 : World.grownBy _ w3 (some (w.heap.size + 1)):=hg3
 have hb3 : Below w.heap.size w w3:=zbr HO.out.2.2.1 hg3 (by simp; omega) (fun k e => by injection e; omega)
 have hm3 : w3.cell? ⟨w.heap.size,0,none⟩ = some (.int .u8 (b : Int)):=by
  rw [cell_of_row w3 _ 0 #[.int .u8 (b : Int)] 5 (0,0) ((hg3.block w.heap.size (by simp; omega) (by intro e; injection e; omega)).trans HO.out.2.2.2)]; rfl
 obtain ⟨g3,cap,rfl,hc3,hbg3,hp3⟩:=hO3.pre (by omega)
 have hP3:=parts_two HB.out.1 HB.out.2 (HS.out.call hb3) (HP.out.call hb3) hm3 hp3
 obtain ⟨F,hF⟩ : ∃ F,F = macD s.k 32 (tx s.v b (textN L Y np)) (33 + lenN L np):=⟨_,rfl⟩
 have HF:=veil (show F.size = 32 ∧ F.all (·.oneCell') = true ∧ (Tryz.prog.info? 23).map (·.size) = some F.size from by
  rw [hF]; exact ⟨zaw _ _,zau fun _ _ => rfl,by show _ = some (dgst _ _).size; rw [zaw]; exact infoD⟩)
 have hM:=ofmac_calls (some ⟨g,0,none⟩) 32 32 s.k HB.out.1.k (by decide) (by decide) (some ⟨g3,0,none⟩) (2 + np) cap _ _ _ _ (by have:=HT.out.1; omega) (by rw [(textN_two s.v b L Y np).2]; have:=HT.out.2; omega) w3 (HK.out.call hb3) (HS.out.call hb3).key hP3
 rw [(textN_two s.v b L Y np).1,(textN_two s.v b L Y np).2,← hF] at hM
 have HM:=veil hM
 have HFF:=veil (hF.trans (macD_nb _ _ _ _))
 have H3:=veil (And.intro (HS.out.call hb3) hb3)
 clear hF hM hP3 hp3 hm3 hb3 hO3 hg3 ha3 hc3 hbg3 HO HI HP HT
 go_upto_region 2 with (first
  | (go_at_call 161; refine HM.out.mono ?_; rintro e w4 ⟨rfl,hb4⟩)
  | ((with_reducible refine zak ?_); refine wpList_store_mid rfl 23 _ _ rfl g 0 F rfl rfl (there_mid (o:=0) (H3.out.1.call hb4) (by rw [HF.out.1]; decide)) HF.out.2.2 HF.out.2.1 ?_))
 have hS5:=(H3.out.1.call hb4).putK HFF.out
 have hB5 : But g w (w4.setCells g 0 F.toList):=But.setCells _ _ _ (But.of_below (H3.out.2.trans (hb4.mono H3.out.2.size)))
 generalize w4.setCells g 0 F.toList = w5 at *
 have HQ:=veil (step_calls g (⟨nb s.k 32 (tx s.v b (textN L Y np)) (33 + lenN L np),s.v⟩ : KV) ⟨fun j => nb_lt _ _ _ _ j,HB.out.1.v⟩ w5 (HK.out.grown hB5 (Ne.symm HG.out)) hS5)
 have H5:=veil hB5
 clear hS5 hB5 hb4 H3 HM HF HFF
 go_wp2_with fail
 refine HQ.out.mono ?_
 rintro e w6 ⟨rfl,hS6,hB6⟩
 have H6:=veil (And.intro hS6 (H5.out.trans hB6))
 clear hS6 hB6 H5 HQ
 go_wp2
 go_end0
 exact ⟨rfl,H6.out.1,H6.out.2⟩
section
variable {P : Program} {ops : Array Oper} {o : Oper} {a : Act} {w : World}
theorem yif_load {ty : TypeId} {x : Operand} {g t : Nat} {C : Array Value} {fr : Nat × Nat} {d : TypeDesc} (hw : Region.wanted o (yielded ops a.tmps) = true) (ho : o.op = .load ty x) (hx : a.eval x = ptrTo g) (hb : w.heap[g]? = some (.cells C t fr))
  (hu : P.underlying ty = some d) (hd : d.isRow = true) (hi : (P.info? ty).map (·.size) = some C.size) : YieldsIf P ops (fun W => Ext w W) o (.agg C) a :=
 yieldsIf_load_mid hw ty x ho g 0 hx C.toList d (fun W hW j v hv => by rw [cell_of_row W g (0 + j) C t fr (hW.block hb),Nat.zero_add]; simpa using hv) hu hd (by simpa using hi)
end
theorem grow_calls (n : Nat) (h0 : 0 < n) (h1 : n ≤ 1048576) (w : World) :
  Calls Tryz.prog 119 #[.slice none 0 0,.int .i64 (n : Int)] w fun e w' => (∃ v,e = .returned v ∧ ∀ f,Own w' w.heap.size 5 v 0 f) ∧ Ext w w':=by
 obtain ⟨i8,hi8,hz0,hz1,hz2⟩:=info_parts infoByte
 have hr:=fun W => Lib.run_append_nil_zeros (P:=Tryz.prog) W 24 3 24 5 i8 (.int .u8 0) .i64 .i64 Tryz.underlying24 Tryz.underlying3 hi8 hz0 n h0 (by rw [hz1]; decide) (by omega) (by rw [hz2]; omega)
 have HR:=veil hr
 have hg:=grownCap_ge w n 0 5
 have hm:=grownCap_le_maxLen w n 0 5 (by unfold maxLen; omega)
 have HG:=veil (And.intro hg hm)
 have hi0 : (0 : Int) ≤ (n : Int):=by omega
 have hi1 : (0 : Int) < (n : Int):=by omega
 have hc0 : (0 : Int) ≤ (grownCap w n 0 5 : Int):=by omega
 clear hr hg hi8 hz0 hz1 hz2
 go_enter Tryz.func119,Tryz.ntmps119
 go_wp2_with (at_builtin; refine Lib.wpList_append_run _ rfl _ _ _ _ rfl _ _ rfl rfl _ _ (HR.out w) ?_)
 go_ret
 refine ⟨⟨_,rfl,fun f => ⟨by simp,.inr ⟨w.heap.size,_,_,rfl,Nat.le_refl _,zah w.drew _,Nat.zero_le _,HG.out.2,?_,by simp⟩⟩⟩,(Ext.drew w).trans (Ext.alloc _ _)⟩
 have:=HG.out.1
 simp [size_zeroCells]
 omega
def catF (f1 f2 : Nat → Value) : Nat → Value:=fun j => if j < 32 then f1 j else f2 (j - 32)
theorem concat_calls (h g1 g2 c1 c2 : Nat) (f1 f2 : Nat → Value) (o1 : ∀ j,(f1 j).oneCell' = true) (o2 : ∀ j,(f2 j).oneCell' = true) (w : World)
  (hb : w.heap[h]? = some (.cells #[.slice (some ⟨g1,0,none⟩) 32 c1,.slice (some ⟨g2,0,none⟩) 32 c2] 24 (0,0))) (hg1 : w.rowIs g1 5 32 f1) (hg2 : w.rowIs g2 5 32 f2) :
  Calls Tryz.prog 63 #[.slice (some ⟨h,0,none⟩) 2 2] w fun e w' => (∃ v,e = .returned v ∧ Own w' w.heap.size 5 v 64 (catF f1 f2)) ∧ Ext w w':=by
 obtain ⟨i8,hi8,hz0,hz1,hz2⟩:=info_parts infoByte
 have HI:=veil (And.intro hi8 (And.intro hz0 (And.intro hz1 hz2)))
 clear hi8 hz0 hz1 hz2
 have c0 : w.cell? ⟨h,0,none⟩ = some (.slice (some ⟨g1,0,none⟩) 32 c1):=cell_of_row w h 0 _ _ _ hb
 have c1' : w.cell? ⟨h,1,none⟩ = some (.slice (some ⟨g2,0,none⟩) 32 c2):=cell_of_row w h 1 _ _ _ hb
 have HB:=veil hb
 have HG1:=veil hg1
 have HG2:=veil hg2
 clear hb hg1 hg2
 go_enter Tryz.func63,Tryz.ntmps63
 go_wp2
 go_loop [3,11] (fun v3 v11 => ∃ k : Nat,k ≤ 2 ∧ v11 = .int .i64 (k : Int) ∧ v3 = .int .i64 ((32 * k : Nat) : Int)) (fun _ v11 => (2 - intOf v11).toNat)
 case atStart => exact ⟨0,by omega,rfl,rfl⟩
 case round =>
  obtain ⟨k,hk,rfl,rfl⟩:=hrel
  have hk3 : k = 0 ∨ k = 1 ∨ k = 2:=by omega
  rcases hk3 with rfl | rfl | rfl
  ·
   go_wp2
   go_round
   case rel => exact ⟨1,by omega,by go_num,by go_num⟩
   case measure => simp [intOf]
  ·
   go_wp2
   go_round
   case rel => exact ⟨2,by omega,by go_num,by go_num⟩
   case measure => simp [intOf]
  ·
   have hgr:=fun W => grow_calls 64 (by decide) (by decide) W
   have HGR:=veil hgr
   clear hgr
   go_wp2_with fail
   refine (HGR.out _).mono ?_
   rintro e w1 ⟨⟨v,rfl,hown⟩,hE⟩
   have hown:=hown (catF f1 f2)
   have hx : Ext w w1:=hE
   clear hE
   clear c0 c1'
   go_wp2
   go_loopw [6,27] (fun v6 v27 wr => ∃ k : Nat,k ≤ 2 ∧ v27 = .int .i64 (k : Int) ∧ Own wr w.heap.size 5 v6 (32 * k) (catF f1 f2) ∧ Ext w wr) (fun _ v27 _ => (2 - intOf v27).toNat)
   case atStart => exact ⟨0,by omega,rfl,hown,hx⟩
   case round =>
    clear hown hx
    obtain ⟨k,hk,rfl,hown,hx⟩:=hrel
    have b0:=hx.block HB.out
    have r1:=Ext.row HG1.out hx
    have r2:=Ext.row HG2.out hx
    have hk3 : k = 0 ∨ k = 1 ∨ k = 2:=by omega
    rcases hk3 with rfl | rfl | rfl
    ·
     have c0 : wr.cell? ⟨h,0,none⟩ = some (.slice (some ⟨g1,0,none⟩) 32 c1):=cell_of_row wr h 0 _ _ _ b0
     have hfr : From wr (some ⟨g1,0,none⟩) 32 f1:=.inr ⟨_,rfl,fun j hj => by rw [Addr.add_mid,Nat.zero_add]; exact r1.cell hj⟩
     have HF:=veil hfr
     have HO:=veil hown
     clear hfr hown b0
     go_wp2_with (at_builtin; refine zae _ rfl _ _ _ rfl w.heap.size 5 i8 (.int .u8 0) 1 Tryz.underlying24 HI.out.1 HI.out.2.1 HI.out.2.2.1 HI.out.2.2.2 rfl _ _ _ rfl HO.out (some ⟨g1,0,none⟩) 32 c1 rfl f1 HF.out o1 (by unfold maxLen; omega) (by omega) (Below.size hx) ?_)
     intro v' w' hown' hgr hkey
     go_wp2
     go_roundw
     case rel => exact ⟨1,by omega,by go_num,hown'.congr (fun j hj => by
                                         have h3 : j < 32:=by omega
                                         simp [catF,h3]),zbr hx hgr (Below.size hx) (fun k hk => (HO.out.lt hk).1)⟩
     case measure => simp [intOf]
    ·
     have c0 : wr.cell? ⟨h,1,none⟩ = some (.slice (some ⟨g2,0,none⟩) 32 c2):=cell_of_row wr h 1 _ _ _ b0
     have hfr : From wr (some ⟨g2,0,none⟩) 32 f2:=.inr ⟨_,rfl,fun j hj => by rw [Addr.add_mid,Nat.zero_add]; exact r2.cell hj⟩
     have HF:=veil hfr
     have HO:=veil hown
     clear hfr hown b0
     go_wp2_with (at_builtin; refine zae _ rfl _ _ _ rfl w.heap.size 5 i8 (.int .u8 0) 1 Tryz.underlying24 HI.out.1 HI.out.2.1 HI.out.2.2.1 HI.out.2.2.2 rfl _ _ _ rfl HO.out (some ⟨g2,0,none⟩) 32 c2 rfl f2 HF.out o2 (by unfold maxLen; omega) (by omega) (Below.size hx) ?_)
     intro v' w' hown' hgr hkey
     go_wp2
     go_roundw
     case rel => exact ⟨2,by omega,by go_num,hown'.congr (fun j hj => by
                                         simp only [catF]; by_cases h3 : j < 32
                                         ·
                                          simp [h3]
                                         ·
                                          simp [h3]),zbr hx hgr (Below.size hx) (fun k hk => (HO.out.lt hk).1)⟩
     case measure => simp [intOf]
    ·
     go_wp2
     go_ret
     exact ⟨⟨_,rfl,hown⟩,hx⟩
end Go.Proofs.YtihophdbkjhopaaGreatDoor
