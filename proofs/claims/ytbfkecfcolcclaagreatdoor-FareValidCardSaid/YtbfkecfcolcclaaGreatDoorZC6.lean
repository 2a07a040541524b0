/-
  Of TH TI Rb Sve Pf Ph Pi KA L3 ArgB FrameN QArg ArgK Rc ArgR SMath SSpec SBits HBase SWords HRot.
-/
import Derived.ChangeSlices
import Derived.Carry
import Derived.BigFrame
import Derived.ProofKit
import Derived.Lib.SmallJoins
import Derived.Test.YtbfkecfcolcclaaGreatDoorRows
import Derived.WalkKit
import Derived.Laws.IdiomArrays
import Derived.Deep.Strs
import Derived.Deep.MidRow
import Derived.Deep.WholeRow
import Derived.ChangeKeysEq
import Derived.WalkSpells
import Derived.WalkLawsBesides
import Derived.Deep.LoopGhost
import Derived.BigQuiet
import Derived.Deep.QuietTactic
import Derived.Test.YtbfkecfcolcclaaGreatDoorZC5
import Derived.Test.YtbfkecfcolcclaaGreatDoorZC3
import Derived.Test.YtbfkecfcolcclaaGreatDoorZC4
import Derived.Test.YtbfkecfcolcclaaGreatDoorZC1
set_option maxRecDepth 1000000
set_option maxHeartbeats 20000000
namespace Go.Proofs.YtbfkecfcolcclaaGreatDoor
open Go.RowKit
open Go.Value renaming int → vI
open Go.IntKind renaming u64 → vU
open Go.Act renaming put → aP
open List renaming setIfInBounds_toArray → lA, set_cons_zero → lZ, set_cons_succ → lS
theorem szB_long {D : List Nat} (h0 : 0 < D.length) (h : D.length < szB D) : parse D = none:=by
 unfold szB at h
 by_cases h3 : D.length < 3
 ·
  exact parse_two h3 h0
 ·
  rw [if_neg h3] at h
  have:=parse_long (bs:=D) (a:=0) (n:=256 * D.getD 1 0 + D.getD 2 0) (by omega) rfl (by omega)
  rwa [List.drop_zero] at this
theorem szB_3 {D : List Nat} (h : szB D ≤ D.length) : 3 ≤ D.length:=by
 unfold szB at h
 by_cases h3 : D.length < 3
 ·
  rw [if_pos h3] at h; omega
 ·
  omega
theorem szB_ge (D : List Nat) : 3 ≤ szB D:=by unfold szB; split <;> omega
theorem szB_step {D : List Nat} {N : Nat} (hN : szB D = 3 + N) (h3 : 3 ≤ D.length) (h : 3 + N ≤ D.length) :
  parse D = (parse (D.drop (3 + N))).map ((((D.getD 0 0 : Nat) : Int),(D.drop 3).take N) :: ·):=by
 unfold szB at hN
 rw [if_neg (by omega)] at hN
 have:=parse_more (bs:=D) (a:=0) (n:=N) (by omega) (by show N = 256 * D.getD 1 0 + D.getD 2 0; omega) (by omega)
 rwa [List.drop_zero,Nat.zero_add] at this
theorem get_of_false {bs D : List Nat} {fs : List Fd} (h : parse bs = (parse D).map (fs ++ ·)) (hl : 64 < fs.length) : getFs bs = none:=by
 rw [zdu,h]
 cases parse D with
 | none => rfl
 | some x =>
  have hm : mayFs (fs ++ x) = false:=decide_eq_false fun hh => by have:=hh.1; rw [List.length_append] at this; omega
  simp [hm]
def lenV : Value → Nat
 | .slice _ n _ => n
 | _ => 0
theorem run_slice_lowv {P : Program} {o : Oper} {a : Act} {t : TypeId} {x z : Operand} {v v' vz : Value} {W : World} (ho : o.op = .slice t x (some z) none none) (hx : a.eval x = v) (hz : a.eval z = vz)
  (h : (Instr.sliceAt t v (some vz) none none).run P W = .ok v' W) : (execOp a.eval o).run P W = .ok (.value v') W:=by
 unfold execOp
 simp only [ho,hx,hz,Option.map_some,Option.map_none,Sem.run_bind,h,Result.andThen_ok,Sem.run_pure]
theorem cut_from8 (A : Option Addr) (r c m : Nat) (hm : m ≤ r) (w : World) {y : Int} (hy : y = (m : Int)) : (Instr.sliceAt 30 (.slice A r c) (some (.int .i64 y)) none none).run Tryz.prog w = .ok (.slice (cutA A m c) (r - m) (c - m)) w:=by
 subst hy
 exact cut_from A r c m hm w
theorem bs_drop {w : World} {A : Option Addr} {D : List Nat} {c : Nat} (h : Bs w A D) (m : Nat) (hm : m ≤ D.length) (hc : D.length ≤ c) : Bs w (cutA A m c) (D.drop m):=by
 have:=h.cut m (n:=D.length - m) (by omega) hc
 rwa [List.take_of_length_le (by rw [List.length_drop]; omega)] at this
theorem zcb {P : Program} {Q : Exit → Act → World → Prop} {l : List Oper} {n k i d : Nat} {r : Sched} {a : Act} {w : World} {xs : List Operand} {ts : Array TypeId} {args : List Value} {R : Value → World → Prop} (o : Oper) (ho : l[i]? = some o) (hg : o.guard = none) (hd : o.dst = some d)
  (hop : o.op = .call { callee:=.value (.func k),args:=xs.toArray,argTypes:=ts }) (hx : xs.map a.eval = args)
  (he : ∀ W,(callFunc k args.toArray).run P W = .ok (.enter k args.toArray) W) (hc : ∀ W,Ext w W → Calls P k args.toArray W fun e W' => ∃ v,e = .returned v ∧ Ext W W' ∧ R v W')
  (h : ∀ v W,Ext w W → R v W → wpSched P l Q n r (a.put (some d) v) W) : wpSched P l Q n ((false,[i]) :: r) a w:=by
 refine zfp o ho hg fun W hW => ?_
 have h1 : execOp a.eval o = callFunc k (#[] ++ xs.toArray.map a.eval ++ #[]):=by
  cases o
  subst hop
  rfl
 have h2 : (execOp a.eval o).run P W = .ok (.enter k args.toArray) W:=by
  rw [h1,List.map_toArray,hx]
  simpa using he W
 unfold Oper.wp
 rw [h2,Oper.upon_enter]
 refine (hc W hW).mono ?_
 rintro e W' ⟨v,rfl,hE,hR⟩
 show (i < n → Ext W W') ∧ _
 rw [hd]
 exact ⟨fun _ => hE,h v W' (hW.trans hE) hR⟩
theorem zdn {P : Program} {f : FuncId} {fn : Func} {c : Code} (hf : P.funcs[f]? = some fn) (hname : (fn.name == "runtime.NumGoroutine") = false) (hb : fn.body = some c) (args : Array Value) (w : World) :
  (callFunc f args).run P w = .ok (.enter f args) w:=by
 have hn : ¬ fn.name = "runtime.NumGoroutine":=by simpa using hname
 simp [callFunc,go_sem,hf,hb,hn]
theorem get8_calls (A : Option Addr) (m c : Nat) (bs : List Nat) (hm : m = bs.length) (hmc : m ≤ c) (hle : m ≤ 100000000) (w : World) (hS : Bs w A bs) :
  Calls Tryz.prog 90 #[.slice A m c] w fun e w' => ∃ x ev,e = .returned (.tuple #[x,ev]) ∧ Ext w w' ∧ GetA w' bs x ev:=by
 have HS:=veil (And.intro hm (And.intro hmc (And.intro hS hle)))
 clear hS hm hmc hle
 go_enter Tryz.func90,Tryz.ntmps90
 go_wp2
 go_loopw [0,4] (fun s v wr => ∃ (A : Option Addr) (m c : Nat) (D : List Nat) (fs : List Fd),s = .slice A m c ∧ m = D.length ∧ m ≤ c ∧ m ≤ 100000000 ∧ Bs w A D ∧ OwnFs wr w.heap.size v fs ∧ fs.length ≤ 65 ∧ parse bs = (parse D).map (fs ++ ·) ∧ Ext w wr)
  (fun s _ _ => lenV s)
 case atStart => exact ⟨A,m,c,bs,[],rfl,HS.out.1,HS.out.2.1,HS.out.2.2.2,HS.out.2.2.1,OwnFs.nil _ _,by simp,by simp,Ext.refl _⟩
 case round =>
  obtain ⟨A,m,c,D,fs,rfl,hm,hmc,hle,hB,hO,hfl,hpar,hE⟩:=hrel
  have HO:=veil (And.intro hO (And.intro hfl hpar))
  have HB:=veil (And.intro hm (And.intro hB hmc))
  obtain ⟨AL,cl,hv,hcl,_⟩:=hO.fl.2
  obtain ⟨k,hk⟩ : ∃ k,k = fs.length:=⟨_,rfl⟩
  rw [← hk] at hv hcl hfl
  have HK:=veil hk
  clear hO hpar hm hB hk
  have KM:=veil (zdm _ fs wr HO.out.1.fl (by have:=HK.out; omega))
  subst hv
  by_cases hlt : 0 < m
  ·
   have hd1 : decide ((0 : Int) < (m : Int)) = true:=by simp; omega
   have hd1' : decide (0 < m) = true:=by simp; omega
   by_cases hk : (k : Int) ≤ 64
   ·
    have hd2 : decide ((k : Int) ≤ 64) = true:=decide_eq_true hk
    have KZ:=veil (sizeFirst_calls A m c D HB.out.1 wr (HB.out.2.1.ext hE))
    have HZ3:=szB_ge D
    obtain ⟨N,hN⟩ : ∃ N,szB D = 3 + N:=⟨szB D - 3,by omega⟩
    rw [hN] at KZ
    have HN:=veil hN
    clear HZ3 hN
    go_upto_region 4 with (go_at_call 138; refine KZ.out.mono ?_; rintro e w1 ⟨rfl,hE1⟩)
    have HE1:=veil (hE.trans hE1)
    have hO1:=HO.out.1.keep hE1
    have HO1:=veil hO1
    clear hO1 KM hE1 KZ
    by_cases h4 : m < 3 + N
    ·
     have hd3 : decide ((m : Int) < 3 + (N : Int)) = true:=by simp; omega
     have hn : getFs bs = none:=by
      rw [zdu,HO.out.2.2,szB_long (by have:=HB.out.1; omega) (by have:=HB.out.1; rw [HN.out]; omega)]
      rfl
     go_wp2
     go_ret2
     exact ⟨_,_,rfl,HE1.out,.inl ⟨hn,⟨none,0,rfl⟩,rfl⟩⟩
    ·
     have hd3 : decide ((m : Int) < 3 + (N : Int)) = false:=by simp; omega
     have h3m : 3 ≤ m:=by have:=HB.out.1; have:=szB_3 (D:=D) (by rw [HN.out]; omega); omega
     have hst:=szB_step HN.out (by have:=HB.out.1; omega : 3 ≤ D.length) (by have:=HB.out.1; omega)
     have hbt:=HB.out.2.1.ext HE1.out
     obtain ⟨b,o,hA,hbl,c0⟩:=hbt.cell (j:=0) (by have:=HB.out.1; omega)
     rw [Nat.add_zero] at c0
     have l0:=HB.out.2.1.1.getD 0
     obtain ⟨T,hT⟩ : ∃ T,T = D.getD 0 0:=⟨_,rfl⟩
     rw [← hT] at c0 l0 hst
     have k0 : (T : Int) ≤ 255:=by omega
     have i0 : (0 : Int) < (m : Int):=by omega
     have HST:=veil (And.intro hst hbt)
     have hbd:=bs_drop (c:=c) HB.out.2.1 (3 + N) (by have:=HB.out.1; omega) (by have:=HB.out.1; omega)
     have HBD:=veil hbd
     clear hst hbt hT l0 hbd
     subst hA
     go_upto_region 6 with (fail)
     refine zdc 11 [(true,[0,1,2,3,4,5,6,7]),(false,[8]),(true,[9]),(false,[10]),(false,[11]),(false,[12])] (by kernel_rfl) (by kernel_rfl) fun Q' hQ' => ?_
     refine' zbj (A:=_) _ rfl (by kernel_rfl) ?h1 ?h2
     case h1 =>
      intro D' hD hN'
      have d0:=hD.cell c0
      simp only [pickI,consO,List.getElem?_cons_zero,List.getElem?_cons_succ]
      iterate 7 (go_big_quiet_step (fail))
      go_big_quiet_want
      refine zba (.slice (cutA (some ⟨b,o,none⟩) 3 c) N (c - 3)) (fun x => run_slice_v rfl rfl rfl rfl (cut_mid _ _ _ 3 N (by omega) _ rfl (by omega))) ?_
      simp only [aP,lA,lZ,lS]
      go_big_quiet_on
      exact zct
     have hl : N = ((D.drop 3).take N).length:=by rw [List.length_take,List.length_drop]; have:=HB.out.1; omega
     have hBc:=HST.out.2.cut 3 (n:=N) (c:=c) (by have:=HB.out.1; omega) (by have:=HB.out.1; omega)
     have HC:=veil (And.intro hl hBc)
     clear hl hBc
     refine zcb (R:=fun v W => ∃ A' c',v = .slice A' N c' ∧ N ≤ c' ∧ Bs W A' ((D.drop 3).take N) ∧ Fresh w1 A' ((D.drop 3).take N)) _ rfl rfl rfl rfl rfl (zdn Tryz.func139 rfl rfl _) (fun W hW => (clone8_calls _ N (c - 3) ((D.drop 3).take N) HC.out.1 (by omega) W (HC.out.2.ext hW)).mono fun e W' ⟨A',c',he,hE',hc',hB',hF'⟩ => ⟨_,he,hE',A',c',rfl,hc',hB',hF'.imp id fun h b o e => Nat.le_trans (Below.size hW) (h b o e)⟩) ?_
     rintro _ W2 hE2 ⟨A',c',rfl,hc',hB',hF'⟩
     simp only [aP,lA,lZ,lS]
     refine' zbj (A:=_) _ rfl (by kernel_rfl) ?k1 ?k2
     case k1 =>
      intro D' hD hN'
      simp only [pickI,consO,List.getElem?_cons_zero,List.getElem?_cons_succ]
      repeat (go_big_quiet_step (fail))
      exact zct
     refine sched_build (vs:=[(0,.agg #[.int .i64 (T : Int),.slice A' N c'])]) (C:=#[.int .i64 (T : Int),.slice A' N c']) (e:=135) _ rfl rfl rfl rfl rfl (fun W => by simp [Instr.buildSlice,go_sem]) ?_
     intro g2 W3 hg2 hgb2 hE3
     simp only [aP,lA,lZ,lS]
     have hEW3:=hE2.trans hE3
     have hown3:=HO1.out.keep hEW3
     have hoff : Off A' ((D.drop 3).take N) (Value.ownBlock (.slice AL k cl)):=hF'.off fun k hk => (HO1.out.lt hk).2
     have hBn:=hB'.ext hE3
     have hbase:=Nat.le_trans (Below.size HE1.out) (Below.size hEW3)
     have hNl:=HC.out.1
     have hfl9 : fs.length ≤ 1000000000:=by have:=HK.out; omega
     rw [hNl] at hgb2 hc'
     refine sched_append_fd (f:=((T : Int),(D.drop 3).take N)) (al:=(A',c')) _ rfl rfl rfl rfl rfl rfl (by decide) hown3 hgb2 hc' hBn hoff hfl9 hbase ?_
     intro v' W4 W5 hE4 hO5 hG5
     simp only [aP,lA,lZ,lS]
     have hE5 : Ext w W5:=(HE1.out.trans (hEW3.trans hE4)).grown hG5 (Below.size (HE1.out.trans (hEW3.trans hE4))) fun k hk => (HO1.out.lt hk).1
     have HO5:=veil (And.intro hO5 hE5)
     clear hown3 hoff hBn hbase hNl hgb2 hc' hO5 hE5 hG5
     refine sched_assign v' _ rfl rfl rfl rfl rfl ?_
     intro W6 hE6
     simp only [aP,lA,lZ,lS]
     refine zcc hQ' fun W7 hE7 => ?_
     have hle3 : 3 + N ≤ m:=by omega
     go_wp2_with ((with_reducible refine zaa 35 ?_); refine wpl_val (.slice (cutA (some ⟨b,o,none⟩) (3 + N) c) (m - (3 + N)) (c - (3 + N))) rfl (run_slice_lowv rfl rfl rfl (cut_from8 _ _ _ (3 + N) hle3 _ (by omega))) ?_)
     go_roundw
     case rel =>
      refine ⟨_,m - (3 + N),c - (3 + N),D.drop (3 + N),fs ++ [((T : Int),(D.drop 3).take N)],rfl,by rw [List.length_drop,← HB.out.1],by omega,by omega,HBD.out,(HO5.out.1.keep hE6).keep hE7,?_,?_,HO5.out.2.trans (hE6.trans hE7)⟩
      ·
       rw [List.length_append,List.length_singleton]; have:=HK.out; omega
      ·
       rw [HO.out.2.2,HST.out.1]
       cases parse (D.drop (3 + N)) with
       | none => rfl
       | some x => simp
     case measure => simp [lenV]; omega
   ·
    have hd2 : decide ((k : Int) ≤ 64) = false:=decide_eq_false hk
    have hmay : mayFs fs = false:=decide_eq_false fun hh => by have:=hh.1; have:=HK.out; omega
    rw [hmay] at KM
    have HE:=veil hE
    clear hE hmay
    go_wp2_with (go_at_call 140; refine KM.out.mono ?_; rintro e w2 ⟨rfl,hE2⟩)
    go_ret2
    exact ⟨_,_,rfl,HE.out.trans hE2,.inl ⟨get_of_false HO.out.2.2 (by have:=HK.out; omega),⟨none,0,rfl⟩,rfl⟩⟩
  ·
   have hd1 : decide ((0 : Int) < (m : Int)) = false:=by simp; omega
   have hd1' : decide (0 < m) = false:=by simp; omega
   have hp : parse bs = some fs:=by
    rw [HO.out.2.2,List.length_eq_zero_iff.1 (show D.length = 0 by have:=HB.out.1; omega),parse_nil]
    simp
   have HP:=veil (And.intro hE (And.intro hp HO.out.1.fl))
   cases hmay : mayFs fs with
   | false =>
    rw [hmay] at KM
    have hn : getFs bs = none:=by
     rw [zdu,hp]
     simp [hmay]
    have HN:=veil hn
    clear hE hmay hp hn
    go_wp2_with (go_at_call 140; refine KM.out.mono ?_; rintro e w2 ⟨rfl,hE2⟩)
    go_ret2
    exact ⟨_,_,rfl,HP.out.1.trans hE2,.inl ⟨HN.out,⟨none,0,rfl⟩,rfl⟩⟩
   | true =>
    rw [hmay] at KM
    have hn : getFs bs = some fs:=by
     rw [zdu,hp]
     simp [hmay]
    have HN:=veil hn
    clear hE hmay hp hn
    go_wp2_with (go_at_call 140; refine KM.out.mono ?_; rintro e w2 ⟨rfl,hE2⟩)
    go_ret2
    exact ⟨_,_,rfl,HP.out.1.trans hE2,.inr ⟨fs,HN.out,rfl,HP.out.2.2.ext hE2⟩⟩
theorem or_u64 {V Y : Nat} (hV : V < 72057594037927936) (hY : Y < 256) : bits .or .u64 (IntKind.u64.wrap ((V : Int) * 256)) (Y : Int) = ((256 * V + Y : Nat) : Int):=by
 rw [IntKind.wrap_u64,show (V : Int) * 256 % 18446744073709551616 = ((V * 256 : Nat) : Int) by omega,u64_or_nat _ _ (by omega) (by omega),nat_join 8 _ _ (by omega) (by omega),Nat.mul_comm]
theorem valB_lt8 {bs : List Nat} (h : Byt bs) : ∀ i,i ≤ bs.length → valB (bs.take i) < 256 ^ i
 | 0,_ => by simp [valB]
 | i + 1,hi => by
  have h1:=valB_lt8 h i (by omega)
  have h2:=h.getD i
  rw [zaz (by omega),Nat.pow_succ]
  omega
theorem valB_ge {bs : List Nat} : ∀ i,i < bs.length → bs.getD 0 0 * 256 ^ i ≤ valB (bs.take (i + 1))
 | 0,hi => by
  rw [zaz hi]
  omega
 | i + 1,hi => by
  have h1:=valB_ge (bs:=bs) i (by omega)
  rw [zaz hi,Nat.pow_succ,← Nat.mul_assoc]
  omega
theorem ofB_big {bs : List Nat} (h : Byt bs) (hl : 8 = bs.length) (hv : (9223372036854775807 : Int) < (valB bs : Nat)) : ofB bs = -1:=by
 unfold ofB
 rw [if_neg]
 rintro ⟨_,h0⟩
 have h1:=valB_lt h h0 7 (by omega)
 rw [List.take_of_length_le (by omega)] at h1
 have : (128 : Nat) * 256 ^ 7 = 9223372036854775808:=by decide
 omega
theorem ofB_small {bs : List Nat} (hl : 8 = bs.length) (hv : ¬ (9223372036854775807 : Int) < (valB bs : Nat)) : ofB bs = (valB bs : Nat):=by
 unfold ofB
 rw [if_pos]
 refine ⟨hl.symm,?_⟩
 have h1:=valB_ge (bs:=bs) 7 (by omega)
 rw [List.take_of_length_le (by omega)] at h1
 have : (256 : Nat) ^ 7 = 72057594037927936:=by decide
 omega
def nbv (U j : Nat) : Value:=.int .u8 ((U / 256 ^ (7 - j) % 256 : Nat) : Int)
theorem num_step {U k j : Nat} (hk : k < 8) (hj : j = 7 - k) : ∀ i,i < 8 → (if i = j then nbv U j else if 8 ≤ i + k then nbv U i else .int .u8 0) = (if 8 ≤ i + (k + 1) then nbv U i else .int .u8 0):=by
 intro i hi
 by_cases h : i = j
 ·
  rw [if_pos h,if_pos (by omega),h]
 ·
  rw [if_neg h]
  by_cases h2 : 8 ≤ i + k
  ·
   rw [if_pos h2,if_pos (by omega)]
  ·
   rw [if_neg h2,if_neg (by omega)]
theorem num_bs {w : World} {g : Nat} {n : Int} {U : Nat} (hU : U = (n % 18446744073709551616).toNat) (h : w.rowIs g 5 8 (nbv U)) : Bs w (some ⟨g,0,none⟩) (numB n):=by
 refine ⟨numB_byt n,.inr ⟨g,0,rfl,h.lt,fun j hj => ?_⟩⟩
 rw [zax] at hj
 rw [Nat.zero_add,h.cell hj,hU]
 unfold nbv
 rw [List.getD_eq_getElem?_getD]
 simp [numB,hj]
theorem row_fill {w : World} {z : Value} {n b t : Nat} (hb : b = w.heap.size) : (w.alloc (.cells (madeCells #[z] n) t)).rowIs b t n (fun _ => z):=by
 subst hb
 exact World.rowIs_made w z n t
theorem num8_calls (n : Int) (w : World) (_h0 : -9223372036854775808 ≤ n) (_h1 : n ≤ 9223372036854775807) :
  Calls Tryz.prog 94 #[.int .i64 n] w fun e w' => ∃ A c,e = .returned (.slice A 8 c) ∧ 8 ≤ c ∧ Bs w' A (numB n) ∧ Ext w w':=by
 obtain ⟨U,hU⟩ : ∃ U,U = (n % 18446744073709551616).toNat:=⟨_,rfl⟩
 have hw : IntKind.u64.wrap n = (U : Int):=by
  rw [hU]
  show n % 18446744073709551616 = _
  omega
 have HU:=veil hU
 clear hU _h0 _h1
 obtain ⟨i0,hi,hz0,hz1,hz2⟩:=info_parts infoTG
 have hmk : ∀ W : World,(Instr.makeSlice 30 (.int .i64 8) (.int .i64 8)).run Tryz.prog W = .ok (.slice (some ⟨W.heap.size,0,none⟩) 8 8) (W.alloc (.cells (madeCells #[.int .u8 0] 8) 5)) :=
  fun W => run_make_row 30 5 i0 (.int .u8 0) Tryz.underlying30 hi hz0 hz1 rfl .i64 .i64 8 (by rw [hz2]; omega) (by omega) W
 clear hi hz0 hz1 hz2
 go_enter Tryz.func94,Tryz.ntmps94
 go_wp2
 go_loopw [4,5] (fun v i wr => ∃ k : Nat,k ≤ 8 ∧ v = .int .u64 ((U / 256 ^ k : Nat) : Int) ∧ i = .int .i64 (7 - (k : Int)) ∧ wr.rowIs w.heap.size 5 8 (fun j => if 8 ≤ j + k then nbv U j else .int .u8 0) ∧ Ext w wr)
  (fun _ i _ => (intOf i + 1).toNat)
 case atStart => exact ⟨0,by omega,by simp,rfl,(row_fill (w:=w) (z:=.int .u8 0) rfl).congr (fun i hi => by rw [if_neg (by omega)]),Ext.alloc w _⟩
 case round =>
  obtain ⟨k,hk,rfl,rfl,hR,hE⟩:=hrel
  by_cases hlt : k < 8
  ·
   obtain ⟨j,hj⟩ : ∃ j,j = 7 - k:=⟨_,rfl⟩
   have hji : (7 : Int) - (k : Int) = (j : Int):=by omega
   have hjn : (j : Int) < (8 : Int):=by omega
   have c2:=hR.cell (i:=j) (by omega)
   have f2:=hR.frozen j
   have hs : U / 256 ^ (k + 1) = U / 256 ^ k / 256:=by rw [Nat.pow_succ,← Nat.div_div_eq_div_mul]
   have hb : nbv U j = .int .u8 (((U / 256 ^ k % 256 : Nat) : Nat) : Int):=by unfold nbv; rw [show 7 - j = k by omega]
   generalize U / 256 ^ k = q at *
   have HJ:=veil (And.intro hj (And.intro hs hb))
   clear hj hs hb
   rw [hji]
   go_wp2
   go_roundw
   case rel =>
    refine ⟨k + 1,by omega,by rw [HJ.out.2.1]; simp,by go_num,?_,?_⟩
    ·
     have h2:=HJ.out.2.2
     rw [show ((q % 256 : Nat) : Int) = (q : Int) % 256 by omega] at h2
     rw [← h2]
     exact (hR.set j (nbv U j)).congr (num_step hlt HJ.out.1)
    ·
     exact zad hE (Nat.le_refl _) _
   case measure => simp [intOf]
  ·
   obtain rfl : k = 8:=by omega
   go_wp2
   go_ret
   exact ⟨_,8,rfl,by omega,num_bs HU.out (hR.congr fun i hi => by rw [if_pos (by omega)]),hE⟩
theorem of8_calls (A : Option Addr) (m c : Nat) (bs : List Nat) (hm : m = bs.length) (hmc : m ≤ c) (w : World) (hS : Bs w A bs) :
  Calls Tryz.prog 91 #[.slice A m c] w fun e w' => ∃ x ev,e = .returned (.tuple #[x,ev]) ∧ Ext w w' ∧ OfA bs x ev:=by
 have HS:=veil (And.intro hS hm)
 by_cases h8 : m = 8
 ·
  subst h8
  clear hS hm
  go_enter Tryz.func91,Tryz.ntmps91
  go_wp2
  go_loopw [4,13] (fun v u wr => ∃ i : Nat,i ≤ 8 ∧ u = .int .i64 (i : Int) ∧ v = .int .u64 ((valB (bs.take i) : Nat) : Int) ∧ Ext w wr)
   (fun _ v _ => 8 - (intOf v).toNat)
  case atStart => exact ⟨0,by omega,rfl,rfl,Ext.refl _⟩
  case round =>
   obtain ⟨i,hi,rfl,rfl,hE⟩:=hrel
   by_cases hlt : i < 8
   ·
    have hii : (i : Int) < 8:=by omega
    obtain ⟨b2,o2,hA,_,c1⟩:=(HS.out.1.ext hE).cell (j:=i) (by have:=HS.out.2; omega)
    have l1:=HS.out.1.1.getD i
    obtain ⟨V,hV⟩ : ∃ V,V = valB (bs.take i):=⟨_,rfl⟩
    obtain ⟨Y,hY⟩ : ∃ Y,Y = bs.getD i 0:=⟨_,rfl⟩
    rw [← hY] at c1 l1
    rw [← hV]
    have k1 : (Y : Int) ≤ 255:=by omega
    have HVY:=veil (And.intro hV hY)
    have hv:=valB_lt8 HS.out.1.1 i (by have:=HS.out.2; omega)
    have h7 : 256 ^ i ≤ 256 ^ 7:=Nat.pow_le_pow_right (by decide) (by omega)
    have e7 : (256 : Nat) ^ 7 = 72057594037927936:=by decide
    have hor:=or_u64 (V:=V) (Y:=Y) (by omega) l1
    have HOR:=veil hor
    clear hV hY l1 hv h7 e7 hor
    subst hA
    go_wp2
    go_roundw
    case rel =>
     refine ⟨i + 1,by omega,by go_num,?_,hE⟩
     rw [zaz (by have:=HS.out.2; omega),← HVY.out.1,← HVY.out.2,HOR.out]
    case measure => simp [intOf]; omega
   ·
    obtain rfl : i = 8:=by omega
    have e : bs.take 8 = bs:=List.take_of_length_le (by have:=HS.out.2; omega)
    rw [e]
    obtain ⟨V,hV⟩ : ∃ V,V = valB bs:=⟨_,rfl⟩
    rw [← hV]
    have HV:=veil hV
    clear hV e
    by_cases g : (9223372036854775807 : Int) < (V : Int)
    ·
     have hd : decide ((9223372036854775807 : Int) < (V : Int)) = true:=decide_eq_true g
     have HR:=veil (ofB_big HS.out.1.1 HS.out.2 (by rw [← HV.out]; exact g))
     clear g
     go_wp2
     go_ret2
     exact ⟨_,_,rfl,hE,.inl ⟨by rw [HR.out]; decide,rfl,rfl⟩⟩
    ·
     have hd : decide ((9223372036854775807 : Int) < (V : Int)) = false:=decide_eq_false g
     have HR:=veil (ofB_small (bs:=bs) HS.out.2 (by rw [← HV.out]; exact g))
     have hle : (V : Int) ≤ 9223372036854775807:=by omega
     clear g
     go_wp2
     go_ret2
     exact ⟨_,_,rfl,hE,.inr ⟨by rw [HR.out]; omega,by rw [HR.out,← HV.out]; rfl,rfl⟩⟩
 ·
  have h8' : ¬ ((m : Int) = 8):=by omega
  have hr : ofB bs = -1:=by
   unfold ofB
   rw [if_neg]
   intro h
   omega
  have HR:=veil hr
  clear hS hm hr
  go_enter Tryz.func91,Tryz.ntmps91
  go_wp2
  go_ret2
  exact ⟨_,_,rfl,Ext.refl _,.inl ⟨by rw [HR.out]; decide,rfl,rfl⟩⟩
theorem code8 : Code8 where
 may:=zdm
 put v fs w hF hL:=by
  cases hM : mayFs fs with
  | false => exact (put_no v fs w hF hL hM).mono fun e w' ⟨he,hE⟩ => ⟨_,_,he,hE,.inl ⟨hM,⟨none,0,rfl⟩,rfl⟩⟩
  | true => exact (put_yes v fs w hF hM).mono fun e w' ⟨A,c,he,hc,hB,hE⟩ => ⟨_,_,he,hE,.inr ⟨hM,rfl,A,c,rfl,hc,hB⟩⟩
 get A m c bs w hm hmc hle hS:=get8_calls A m c bs hm hmc hle w hS
 number n w h0 h1:=num8_calls n w h0 h1
 of A m c bs w hm hmc hS:=of8_calls A m c bs hm hmc w hS
def rvC (x : Rv) : List Value:=[.int .i64 x.1,.int .i64 x.2]
theorem zat (x : Rv) : (rvC x).length = 2:=rfl
theorem rvC_one (x : Rv) : ∀ u ∈ rvC x,u.oneCell' = true:=fun u hu => by
 simp only [rvC,List.mem_cons,List.not_mem_nil,or_false] at hu
 rcases hu with rfl | rfl <;> rfl
abbrev Rs (w : World) (v : Value) (l : List Rv) : Prop:=Ls 2 rvC w v l
theorem infoRv : (Tryz.prog.info? 65).map (·.size) = some 2:=by kernel_rfl
theorem iRv (x : Rv) : (Tryz.prog.info? 65).map (·.size) = some (rvC x).length:=infoRv
theorem iRvA (x : Rv) : (Tryz.prog.info? 65).map (·.size) = some (rvC x).toArray.size:=infoRv
theorem hzRv (W : World) : (Instr.alloc 65 true (.tuple #[])).run Tryz.prog W = .ok (ptrTo W.heap.size) (W.alloc (.cells #[.int .i64 0,.int .i64 0] 65)):=by simp [Instr.alloc,go_sem]
theorem rvA_one (x : Rv) : (rvC x).toArray.all (·.oneCell') = true:=by simp [rvC,Value.oneCell']
theorem rvA_size (x : Rv) : (#[.int .i64 0,.int .i64 0] : Array Value).size = (rvC x).toArray.size:=rfl
section
variable {w : World} {b o : Nat} {x : Rv}
theorem rv_s (h : w.rangeAt b o (rvC x)) : w.cell? ⟨b,o,none⟩ = some (.int .i64 x.1):=h 0 _ rfl
theorem rv_f (h : w.rangeAt b o (rvC x)) : w.cell? ⟨b,o + 1,none⟩ = some (.int .i64 x.2):=h 1 _ rfl
theorem rv_blk {g : Nat} {fr : Nat × Nat} (h : w.heap[g]? = some (.cells (rvC x).toArray 65 fr)) : w.rangeAt g 0 (rvC x):=fun j v hv => by
 rw [Nat.zero_add,cell_of_row w g j _ _ _ h]
 simpa using hv
end
theorem zap {P : Program} {ops : Array Oper} {rest : List Oper} {o : Oper} {a : Act} {w : World} {Q : Exit → Act → World → Prop} (hgd : Region.wanted o (yielded ops a.tmps) = true) (ty : TypeId) (x : Operand) (ho : o.op = .load ty x)
  (g : Nat) (hx : a.eval x = .pointer (some ⟨g,0,none⟩)) (t : TypeId) (cs : Array Value) (fr : Nat × Nat) (d : TypeDesc) (hg : w.heap[g]? = some (.cells cs t fr))
  (hu : P.underlying ty = some d) (hd : (match d with | .struct _ | .array _ _ => true | _ => false) = true) (hi : (P.info? ty).map (·.size) = some cs.size)
  (h : wpList P ops Q rest (a.put o.dst (.agg cs)) w) : wpList P ops Q (o :: rest) a w :=
 wpList_step fun K hK => by
  rw [if_pos hgd]
  exact wp_load_row ty x ho g hx t cs fr d hg hu hd hi (hK _ _ h)
def OnP (m x y : Int) (ev : Value) : Prop :=
 ((m < 0 ∨ 1073741824 < m) ∧ x = 0 ∧ y = 0 ∧ ev = .iface 38 (.int .i64 1)) ∨ (0 ≤ m ∧ m ≤ 1073741824 ∧ x = m / 1440 ∧ y = m % 1440 ∧ ev = .nilIface)
structure Code14a : Prop where
 may : ∀ v l w,Ps14 w v l → fewP (pds l) = true → Calls Tryz.prog 10 #[v] w fun e w' => e = .returned (.bool (mayP (pds l))) ∧ Ext w w'
 covers : ∀ v l t z a w,Ps14 w v l → fewP (pds l) = true → -9223372036854775808 ≤ z → z ≤ 9223372036854775807 → -9223372036854775808 ≤ a → a ≤ 9223372036854775807 → Calls Tryz.prog 11 #[v,tkV t,.int .i64 z,.int .i64 a] w fun e w' => e = .returned (.bool (coversV (pds l) t z a)) ∧ Ext w w'
 verdict_nil : ∀ w,Calls Tryz.prog 12 #[.slice none 0 0,.slice none 0 0,.slice none 0 0,.slice none 0 0,.int .i64 0,.int .i64 0] w fun e w' => e = .returned (.tuple #[.int .i64 2,.nilIface]) ∧ Ext w w'
def upP : Pw:=(⟨1,60,⟨127,0,9,[],[]⟩⟩,.slice none 0 0,.slice none 0 0)
def upT14 : Tk:=⟨1,1,2,10,1⟩
def upB14 : Obj:=.cells #[.int .i64 1,.int .i64 60,.int .i64 127,.int .i64 0,.int .i64 9,.slice none 0 0,.slice none 0 0] 51
theorem up_ps (w : World) : Ps14 (w.alloc upB14) (.slice (some ⟨w.heap.size,0,none⟩) 1 1) [upP]:=by
 refine ⟨ls_one (zab w _),fun x hx => ?_⟩
 rw [List.mem_singleton.1 hx]
 exact ⟨Ls.nil _ _ _,Ls.nil _ _ _⟩
theorem eqNil14 (w : World) : (binOp .eql 32 .nilIface .nilIface).run Tryz.prog w = .ok (.bool true) w:=by kernel_rfl
theorem up14_calls (C : Code14a) (w : World) : Calls Tryz.prog 6 #[] w fun e w' => e = .returned (.bool true) ∧ Ext w w':=by
 have hN:=up_ps w
 have hE:=Ext.alloc w upB14
 obtain ⟨vS,hvS⟩ : ∃ v : Value,v = .slice (some ⟨w.heap.size,0,none⟩) 1 1:=⟨_,rfl⟩
 rw [← hvS] at hN
 have KC:=veil (fun z a W (h : Ext (w.alloc upB14) W) h0 h1 h2 h3 => C.covers _ [upP] upT14 z a W (hN.ext h) (by decide +kernel) h0 h1 h2 h3)
 have K1:=veil (fun W h => KC.out 1 69 W h (by decide) (by decide) (by decide) (by decide))
 have K2:=veil (fun W h => KC.out 1 70 W h (by decide) (by decide) (by decide) (by decide))
 have K3:=veil (fun W h => KC.out 0 10 W h (by decide) (by decide) (by decide) (by decide))
 rw [show coversV (pds [upP]) upT14 1 69 = true by decide +kernel] at K1
 rw [show coversV (pds [upP]) upT14 1 70 = false by decide +kernel] at K2
 rw [show coversV (pds [upP]) upT14 0 10 = false by decide +kernel] at K3
 have KV:=veil (fun W => C.verdict_nil W)
 have hT0:=TkAt.new (w.alloc upB14) upT14
 have hET:=Ext.alloc (w.alloc upB14) (.cells (tkC upT14) 24)
 have e1:=eqNil14
 unfold upB14 at *
 clear KC hN C
 go_enter Tryz.func6,Tryz.ntmps6
 go_upto_region 2 with (fail)
 rw [← hvS]
 obtain ⟨w0,hw0⟩ : ∃ W,W = w.alloc (.cells #[.int .i64 1,.int .i64 60,.int .i64 127,.int .i64 0,.int .i64 9,.slice none 0 0,.slice none 0 0] 51):=⟨_,rfl⟩
 rw [← hw0] at hE K1 K2 K3 hT0 hET ⊢
 clear hw0 hvS
 go_upto_region 3 with ((with_reducible refine zae ?_); refine wpList_store_row rfl 24 _ _ rfl w0.heap.size (tkC upT14) rfl rfl 24 _ (zab w0 _) (iTk _) rfl (zav _) ?_; rw [World.setRow_alloc_new])
 obtain ⟨g,hg⟩ : ∃ g,g = w0.heap.size:=⟨_,rfl⟩
 rw [← hg] at hT0 ⊢
 generalize w0.alloc (.cells (tkC upT14) 24) = w1 at *
 have HT:=veil hT0
 have HX:=veil hET
 have HE:=veil (hE.trans hET)
 clear hT0 hET hE hg
 go_upto_region 4 with (go_at_call 12; refine (KV.out _).mono ?_; rintro e w2 ⟨rfl,hE2⟩)
 have HX2:=veil (HX.out.trans hE2)
 have HE2:=veil (HE.out.trans hE2)
 have HT2 : Hid (TkAt w2 g upT14):=veil (HT.out.ext hE2)
 clear hE2 HX HE HT KV
 unfold tkV at *
 go_wp2_with (first
  | ((with_reducible refine zaa 21 ?_); refine zap rfl 24 _ rfl g rfl 24 (tkC upT14) (0,0) _ HT2.out Tryz.underlying24 rfl (iTk _) ?_)
  | (go_at_call 11; with_reducible refine (K1.out _ HX2.out).mono ?_; rintro e w3 ⟨rfl,hE3⟩; have HX3:=veil (HX2.out.trans hE3); have HE3:=veil (HE2.out.trans hE3); have HT3 : Hid (TkAt w3 g upT14):=veil (HT2.out.ext hE3); clear hE3 K1)
  | ((with_reducible refine zaa 26 ?_); refine zap rfl 24 _ rfl g rfl 24 (tkC upT14) (0,0) _ HT3.out Tryz.underlying24 rfl (iTk _) ?_)
  | (go_at_call 11; with_reducible refine (K2.out _ HX3.out).mono ?_; rintro e w4 ⟨rfl,hE4⟩; have HX4:=veil (HX3.out.trans hE4); have HE4:=veil (HE3.out.trans hE4); have HT4 : Hid (TkAt w4 g upT14):=veil (HT3.out.ext hE4); clear hE4 K2)
  | ((with_reducible refine zaa 32 ?_); refine zap rfl 24 _ rfl g rfl 24 (tkC upT14) (0,0) _ HT4.out Tryz.underlying24 rfl (iTk _) ?_)
  | (go_at_call 11; with_reducible refine (K3.out _ HX4.out).mono ?_; rintro e w5 ⟨rfl,hE5⟩))
 go_ret
 exact ⟨rfl,HE4.out.trans hE5⟩
def VerdA (L : Low) (K : List Ky) (R : List Rv) (l : List Pd) (bs : List Nat) (z a r : Int) (ev : Value) : Prop :=
 (argV K R l z a = false ∧ r = 0 ∧ ev = .iface 38 (.int .i64 1)) ∨ (argV K R l z a = true ∧ r = verdV L K R l bs z a ∧ ev = .nilIface)
structure Code14b (L : Low) (I : World → Prop) : Prop where
 keep : ∀ w w',I w → Ext w w' → I w'
 verdict : ∀ vk vr v K R l A m c bs z a w,I w → Ks w vk K → TopK K → K.length ≤ 60 → Rs w vr R → R.length ≤ 300 → Ps14 w v l → fewP (pds l) = true → m = bs.length → m ≤ c → m ≤ 5000 → Bs w A bs → -9223372036854775808 ≤ z → z ≤ 9223372036854775807 → -9223372036854775808 ≤ a → a ≤ 9223372036854775807 →
  Calls Tryz.prog 12 #[vk,vr,v,.slice A m c,.int .i64 z,.int .i64 a] w fun e w' => ∃ r ev,e = .returned (.tuple #[.int .i64 r,ev]) ∧ Ext w w' ∧ VerdA L K R (pds l) bs z a r ev
theorem neErrNil14 (w : World) : (binOp .neq 32 (.iface 38 (.int .i64 1)) .nilIface).run Tryz.prog w = .ok (.bool true) w:=by kernel_rfl
theorem neNil14 (w : World) : (binOp .neq 32 .nilIface .nilIface).run Tryz.prog w = .ok (.bool false) w:=by kernel_rfl
def MergeV (w' : World) (a b : List Rv) (x ev : Value) : Prop :=
 ev = .iface 38 (.int .i64 1) ∨ ev = .iface 38 (.int .i64 3) ∨ (ev = .nilIface ∧ Rs w' x (mergeR a b) ∧ (mergeR a b).length ≤ 200 ∧ mayRs a = true ∧ mayRs b = true)
structure Code14c (L : Low) (I : World → Prop) : Prop where
 check : ∀ v l at_ A m c bs w,I w → Ks w v l → TopK l → l.length ≤ 1000 → m = bs.length → m ≤ c → m ≤ 5000 → Bs w A bs → mayK l = true → Calls Tryz.prog 17 #[v,.slice A m c,.int .i64 at_] w fun e w' => e = .returned (.tuple #[tkV (kcheckB L l bs at_).1,errV (kcheckB L l bs at_).2]) ∧ Ext w w'
 is : ∀ v l s t w,Rs w v l → l.length ≤ 1000 → Calls Tryz.prog 18 #[v,.int .i64 s,.int .i64 t] w fun e w' => e = .returned (.bool (mayRs l && isR l s t)) ∧ Ext w w'
 merge : ∀ va vb a b w,Rs w va a → Rs w vb b → a.length ≤ 1000 → b.length ≤ 1000 → Calls Tryz.prog 19 #[va,vb] w fun e w' => ∃ x ev,e = .returned (.tuple #[x,ev]) ∧ Ext w w' ∧ MergeV w' a b x ev
theorem neErr3 (w : World) : (binOp .neq 32 (.iface 38 (.int .i64 3)) .nilIface).run Tryz.prog w = .ok (.bool true) w:=by kernel_rfl
theorem eqErrN (n : Nat) (w : World) : (binOp .eql 32 (.iface 38 (.int .i64 (n : Int))) .nilIface).run Tryz.prog w = .ok (.bool false) w:=by kernel_rfl
theorem verd_parts {L : Low} {K : List Ky} {R : List Rv} {l : List Pd} {z a : Int} (hA : argV K R l z a = true) : mayK K = true ∧ mayRs R = true ∧ mayP l = true ∧ placeB z a = true:=by
 have _:=L
 unfold argV at hA
 simpa only [Bool.and_eq_true] using hA
theorem valid14_walk {L : Low} {I : World → Prop} (C : Code14a) (D : Code14b L I) (E : Code14c L I) (vk vr vm v : Value) (K : List Ky) (Q N : List Rv) (l : List Pw) (A : Option Addr) (m c : Nat) (bs : List Nat) (z a : Int) (hm : m = bs.length) (hmc : m ≤ c) (w : World) (hI : I w)
  (hK : Ks w vk K) (hT : TopK K) (hQ : Rs w vr Q) (hN : Rs w vm N) (hF : Ps14 w v l) (hL : (l.length : Int) ≤ 9223372036854775807) (hS : Bs w A bs) (b0 : -9223372036854775808 ≤ z) (b1 : z ≤ 9223372036854775807) (b2 : -9223372036854775808 ≤ a) (b3 : a ≤ 9223372036854775807) :
  Calls Tryz.prog 5 #[vk,vr,vm,v,.slice A m c,.int .i64 z,.int .i64 a] w fun e w' => e = .returned (.bool true) ∧ Ext w w':=by
 have hb : Byt bs:=hS.1
 have KU:=veil (fun W => up14_calls C W)
 have KF:=veil (fun W (h : Ext w W) => few14_calls v l W (hF.ext h) hL)
 have KV:=veil (fun vq (R : List Rv) W (h : Ext w W) (h1 : K.length ≤ 60) (hq : Rs W vq R) (h2 : R.length ≤ 300) (hw : fewP (pds l) = true) (h3 : m ≤ 5000) => D.verdict vk vq v K R l A m c bs z a W (D.keep _ _ hI h) (hK.ext h) hT h1 hq h2 (hF.ext h) hw hm hmc h3 (hS.ext h) b0 b1 b2 b3)
 have KV1:=veil (fun W (h : Ext w W) (h1 : K.length ≤ 60) (h2 : Q.length ≤ 300) (hw : fewP (pds l) = true) (h3 : m ≤ 5000) => KV.out vr Q W h h1 (hQ.ext h) h2 hw h3)
 have KC:=veil (fun W (h : Ext w W) (h1 : K.length ≤ 60) (h3 : m ≤ 5000) (hM : mayK K = true) => E.check vk K a A m c bs W (D.keep _ _ hI h) (hK.ext h) hT (by omega) hm hmc h3 (hS.ext h) hM)
 have KI:=veil (fun s W (h : Ext w W) (h2 : Q.length ≤ 300) => E.is vr Q s a W (hQ.ext h) (by omega))
 have KO:=veil (fun t W (h : Ext w W) (hw : fewP (pds l) = true) => C.covers v l t z a W (hF.ext h) hw b0 b1 b2 b3)
 have KM:=veil (fun W (h : Ext w W) (h2 : Q.length ≤ 300) (h4 : N.length ≤ 300) => E.merge vr vm Q N W (hQ.ext h) (hN.ext h) (by omega) (by omega))
 obtain ⟨Ak,ck,rfl,-,-⟩:=hK
 obtain ⟨Aq,cq,rfl,-,-⟩:=hQ
 obtain ⟨An,cn,rfl,-,-⟩:=hN
 obtain ⟨⟨AL,cl,rfl,-,-⟩,-⟩:=hF
 have HBy:=veil hb
 clear hI hm hmc hT hL hS b0 b1 b2 b3 hb C D E
 obtain ⟨nk,hnk⟩ : ∃ n,n = K.length:=⟨_,rfl⟩
 obtain ⟨nq,hnq⟩ : ∃ n,n = Q.length:=⟨_,rfl⟩
 obtain ⟨nn,hnn⟩ : ∃ n,n = N.length:=⟨_,rfl⟩
 obtain ⟨nl,hnl⟩ : ∃ n,n = l.length:=⟨_,rfl⟩
 rw [← hnl] at KF
 simp only [← hnk,← hnq,← hnn,← hnl] at KV KV1 KC KI KO KM ⊢
 clear hnk hnq hnn hnl
 obtain ⟨R,hR⟩ : ∃ R,R = fewP (pds l):=⟨_,rfl⟩
 rw [← hR] at KF KV KV1 KO
 clear hR
 go_enter Tryz.func5,Tryz.ntmps5
 go_upto_region 3 with (first
  | (go_at_call 6; with_reducible refine (KU.out _).mono ?_; rintro e w1 ⟨rfl,hE1⟩; have HE1:=veil hE1; clear hE1)
  | (go_at_call 7; with_reducible refine (KF.out _ HE1.out).mono ?_; rintro e w2 ⟨rfl,rfl⟩))
 clear KU KF
 cases R with
 | false =>
  go_wp2
  go_ret
  exact ⟨rfl,HE1.out⟩
 | true =>
  by_cases a1 : (60 : Int) < (nk : Int)
  ·
   have d1 : decide ((60 : Int) < (nk : Int)) = true:=decide_eq_true a1
   go_wp2
   go_ret
   exact ⟨rfl,HE1.out⟩
  have d1 : decide ((60 : Int) < (nk : Int)) = false:=decide_eq_false a1
  by_cases a2 : (300 : Int) < (nq : Int)
  ·
   have d2 : decide ((300 : Int) < (nq : Int)) = true:=decide_eq_true a2
   go_wp2
   go_ret
   exact ⟨rfl,HE1.out⟩
  have d2 : decide ((300 : Int) < (nq : Int)) = false:=decide_eq_false a2
  by_cases a4 : (300 : Int) < (nn : Int)
  ·
   have d4 : decide ((300 : Int) < (nn : Int)) = true:=decide_eq_true a4
   go_wp2
   go_ret
   exact ⟨rfl,HE1.out⟩
  have d4 : decide ((300 : Int) < (nn : Int)) = false:=decide_eq_false a4
  by_cases a3 : (5000 : Int) < (m : Int)
  ·
   have d3 : decide ((5000 : Int) < (m : Int)) = true:=decide_eq_true a3
   go_wp2
   go_ret
   exact ⟨rfl,HE1.out⟩
  have d3 : decide ((5000 : Int) < (m : Int)) = false:=decide_eq_false a3
  have HB:=veil (show nk ≤ 60 ∧ nq ≤ 300 ∧ nn ≤ 300 ∧ m ≤ 5000 by omega)
  clear a1 a2 a3 a4
  go_upto_region 6 with (go_at_call 12; with_reducible refine (KV1.out _ HE1.out HB.out.1 HB.out.2.1 (by trivial) HB.out.2.2.2).mono ?_; rintro e w3 ⟨r,ev,rfl,hE3,hV⟩)
  have HE3:=veil (HE1.out.trans hE3)
  have HV:=veil hV
  clear hE3 hV HE1 KV1 d1 d2 d3 d4
  have e1:=neErrNil14
  have e2:=neNil14
  rcases HV.out with ⟨hA,rfl,rfl⟩ | ⟨hA,hr,rfl⟩
  ·
   clear hA HV
   go_wp2
   go_ret
   exact ⟨rfl,HE3.out⟩
  have hparts:=verd_parts (L:=L) hA
  have hval:=verd_valid (L:=L) (bs:=bs) HBy.out hA
  rw [← hr] at hval
  obtain ⟨T,n,hC⟩ : ∃ T n,kcheckB L K bs a = (T,n):=⟨_,_,rfl⟩
  rw [hC] at KC hval
  simp only at KC hval
  obtain ⟨J,hJ⟩ : ∃ J,J = isR Q T.s a:=⟨_,rfl⟩
  obtain ⟨Y,hY⟩ : ∃ Y,Y = coversV (pds l) T z a:=⟨_,rfl⟩
  have KI1:=veil (fun W (h : Ext w W) (h2 : nq ≤ 300) => KI.out T.s W h h2)
  have KO1:=veil (fun W (h : Ext w W) => KO.out T W h (by trivial))
  rw [← hJ,hparts.2.1,Bool.true_and] at KI1
  rw [← hY] at KO1
  rw [← hJ,← hY] at hval
  have HP:=veil (And.intro hparts (And.intro hval hr))
  clear hparts hval hr hA HV hC hJ hY KI KO
  unfold tkV at *
  go_upto_region 9 with (first
   | (go_at_call 17; with_reducible refine (KC.out _ HE3.out HB.out.1 HB.out.2.2.2 HP.out.1.1).mono ?_; rintro e w4 ⟨rfl,hE4⟩; have HE4:=veil (HE3.out.trans hE4); clear hE4)
   | ((with_reducible refine zae ?_); refine wpList_store_row rfl 24 _ _ rfl w4.heap.size (tkC T) rfl rfl 24 _ (zab w4 _) (iTk T) rfl (zav T) ?_; rw [World.setRow_alloc_new]))
  have HE5:=veil (HE4.out.trans (Ext.alloc w4 (.cells (tkC T) 24)))
  have HS5:=veil (TkAt.new w4 T)
  obtain ⟨g,hg⟩ : ∃ g,g = w4.heap.size:=⟨_,rfl⟩
  rw [← hg] at HS5 ⊢
  generalize w4.alloc (.cells (tkC T) 24) = w5 at *
  clear hg HE4 HE3 KC
  obtain ⟨G,hG⟩ : ∃ G,G = (decide (n = 0) && (!J && Y)):=⟨_,rfl⟩
  have HG:=veil hG
  have HRG:=veil (show decide (r = 1) = G from HP.out.2.1.trans hG.symm)
  clear hG
  have c0:=HS5.out.at0
  obtain ⟨x4,hx4⟩ : ∃ x,x = errV n:=⟨_,rfl⟩
  rw [← hx4]
  have HX4:=veil hx4
  clear hx4
  go_cut [21] from 72 to 88 (fun s21 wx => s21 = .bool G ∧ Ext w wx)
  case first =>
   by_cases g0 : n = 0
   ·
    subst g0
    have e3:=eqNil14
    obtain rfl : x4 = .nilIface:=HX4.out
    cases J with
    | true =>
     obtain rfl : G = false:=HG.out
     go_wp2_with (go_at_call 18; with_reducible refine (KI1.out _ HE5.out HB.out.2.1).mono ?_; rintro e w6 ⟨rfl,hE6⟩)
     go_meet
     case rel => exact ⟨rfl,HE5.out.trans hE6⟩
    | false =>
     obtain rfl : G = Y:=HG.out
     go_wp2_with (first
      | (go_at_call 18; with_reducible refine (KI1.out _ HE5.out HB.out.2.1).mono ?_; rintro e w6 ⟨rfl,hE6⟩; have HE6:=veil (HE5.out.trans hE6); have HS6 : Hid (TkAt w6 g T):=veil (HS5.out.ext hE6); clear hE6)
      | ((with_reducible refine zaa 84 ?_); refine zap rfl 24 _ rfl g rfl 24 (tkC T) (0,0) _ HS6.out Tryz.underlying24 rfl (iTk _) ?_)
      | (go_at_call 11; with_reducible refine (KO1.out _ HE6.out).mono ?_; rintro e w7 ⟨rfl,hE7⟩))
     go_meet
     case rel => exact ⟨rfl,HE6.out.trans hE7⟩
   ·
    obtain rfl : G = false:=HG.out.trans (by rw [decide_eq_false g0]; rfl)
    obtain rfl : x4 = .iface 38 (.int .i64 (n : Int)):=HX4.out.trans (if_neg g0)
    have e3:=eqErrN n
    go_wp2
    go_meet
    case rel => exact ⟨rfl,HE5.out⟩
  case rest =>
  obtain ⟨rfl,hE7⟩:=hcut
  have HE7:=veil hE7
  clear hE7 HE5 HS5 c0 KI1 KO1 HG
  have hrg : decide (r = 1) = G:=HRG.out
  have f1 : (r == 1) = G:=by rw [← hrg]; by_cases h : r = 1 <;> simp [h]
  have f2 : (G != G) = false:=by cases G <;> rfl
  clear hrg
  have e3:=neErr3
  go_upto_region 13 with (go_at_call 19; with_reducible refine (KM.out _ HE7.out HB.out.2.1 HB.out.2.2.1).mono ?_; rintro e w8 ⟨x,gv,rfl,hE8,hM⟩)
  have HE8:=veil (HE7.out.trans hE8)
  clear hE8 HE7 KM
  rcases hM with rfl | rfl | ⟨rfl,hM,h200,hma,hmb⟩
  ·
   go_wp2
   go_ret
   exact ⟨rfl,HE8.out⟩
  ·
   go_wp2
   go_ret
   exact ⟨rfl,HE8.out⟩
  have hmm:=mergeR_may hma hmb h200
  have hmore : ∀ s t,isR Q s t = true → isR (mergeR Q N) s t = true:=fun s t h => by rw [is_merge hma hmb,h]; rfl
  have KV2:=veil (KV.out x (mergeR Q N) w8 HE8.out HB.out.1 hM (by omega) (by trivial) HB.out.2.2.2)
  have HM:=veil (And.intro hmm hmore)
  clear hM h200 hma hmb hmm hmore KV
  go_upto_region 16 with (go_at_call 12; with_reducible refine KV2.out.mono ?_; rintro e w9 ⟨r2,ev,rfl,hE9,hV⟩)
  have HE9:=veil (HE8.out.trans hE9)
  clear hE9 HE8 KV2
  have e4:=eqNil14
  rcases hV with ⟨hA,-,-⟩ | ⟨hA,hr2,rfl⟩
  ·
   exfalso
   have:=HP.out.1
   unfold argV at hA
   rw [this.1,HM.out.1,this.2.2.1,this.2.2.2] at hA
   cases hA
  ·
   have HX:=veil (show r2 = 1 → r = 1 from fun h => by
    have:=verd_more HM.out.2 (hr2.symm.trans h)
    rw [← HP.out.2.2] at this
    exact this)
   clear hA hr2
   by_cases g2 : r2 = 1
   ·
    have g1:=HX.out g2
    subst g2 g1
    have f3 : ((1 : Int) != 1) = false:=rfl
    have f4 : ((1 : Int) == 1) = true:=rfl
    clear f1 f2
    go_wp2
    go_ret
    exact ⟨rfl,HE9.out⟩
   ·
    have f3 : (r2 != 1) = true:=by simp [g2]
    clear g2 f1 f2
    go_wp2
    go_ret
    exact ⟨rfl,HE9.out⟩
theorem cells_int : Tryz.prog.cellsOf 3 = 1:=by kernel_rfl
def Tk.ok (t : Tk) : Prop:=∀ n ∈ t.list,(Lit.int .i64 n).wf = true
/-! ### what the laws ask of the landed package -/
def BodyA (w' : World) (t : Tk) (x ev : Value) : Prop :=
 (mayT t = false ∧ (∃ A c,x = .slice A 0 c) ∧ ev = .iface 38 (.int .i64 1)) ∨
 (mayT t = true ∧ (∃ A c,x = .slice A 55 c ∧ 55 ≤ c ∧ Bs w' A (tkB t)) ∧ ev = .nilIface)
def OpenC (bs : List Nat) (T G : Array Value) (ev : Value) : Prop :=
 (openB bs = none ∧ T = tkC ⟨0,0,0,0,0⟩ ∧ G = gc 0 0 ∧ ev = .iface 38 (.int .i64 2)) ∨ (∃ t r s,openB bs = some (t,r,s) ∧ T = tkC t ∧ G = gc r s ∧ ev = .nilIface)
def WfK (l : List Ky) : Prop:=∀ k ∈ l,(Lit.int .i64 k.i).wf = true ∧ (Lit.int .i64 k.a).wf = true ∧ (Lit.int .i64 k.b).wf = true
theorem cells_ky12 : Tryz.prog.cellsOf 62 = 12:=by kernel_rfl
theorem Up.range {w : World} {D : World → Prop} (h : Up w D) {b off : Nat} {L : List Value} (hb : b < w.heap.size) (hr : w.rangeAt b off L) (x : Gw D) : x.val.rangeAt b off L:=zas (h.grown _ x.property) hb hr
end Go.Proofs.YtbfkecfcolcclaaGreatDoor
namespace Go.Proofs.YtbfkecfcolcclaaGreatDoor
open Go.ChangeShapes Go.WideShapes Go.RowKit
open Go.Value renaming int → vI
open Go.IntKind renaming u64 → vU
open Go.Act renaming put → aP
open List renaming setIfInBounds_toArray → lA, set_cons_zero → lZ, set_cons_succ → lS
theorem ownT : ownKnob Tryz.prog.godebug = none:=by kernel_rfl
theorem laidOutT : laidOutB Tryz.prog = true:=by kernel_rfl
theorem cellsT1 : Tryz.prog.cellsOf 5 = 1:=by kernel_rfl
theorem bs_of {H : Type} {enc : TypeId × Value → H} {W : World} {v : Value} {fuel : Nat} {d : DataW H} {p : List MemPlace} {base : Nat} {sp : Nat → Bool} {held : Bool}
  (hf : DataW.trod enc Tryz.prog W base sp held fuel 30 [v] = some (d,p)) : ∃ (A : Option Addr) (len cap : Nat) (bs : List Nat),v = .slice A len cap ∧ len = bs.length ∧ Bs W A bs ∧ len ≤ cap:=by
 rcases open_ints Tryz.underlying30 Tryz.underlying5 cellsT1 hf with ⟨hcs,hx⟩ | ⟨a,len,cap,zs,hcs,_,hlc,_,hz,hx,hcell,hwz⟩
 ·
  simp only [List.cons.injEq,and_true] at hcs
  exact ⟨none,0,0,[],hcs,rfl,Bs.nil _ _,Nat.le_refl _⟩
 ·
  simp only [List.cons.injEq,and_true] at hcs
  have hzl : len ≤ zs.length:=by rw [hz]; split <;> omega
  have hb : ∀ z ∈ zs,0 ≤ z ∧ z < 256:=fun z hz' => by
   have h:=hwz z hz'
   simp only [Lit.wf,Bool.and_eq_true,decide_eq_true_eq] at h
   have e1 : IntKind.u8.min = 0:=rfl
   have e2 : IntKind.u8.max = 255:=rfl
   omega
  have hl : ((zs.take len).map fun z => z.toNat).length = len:=by simp; omega
  refine ⟨some a,len,cap,(zs.take len).map fun z => z.toNat,hcs,hl.symm,⟨fun x hx' => ?_,?_⟩,hlc⟩
  ·
   obtain ⟨z,hz1,rfl⟩:=List.mem_map.1 hx'
   have:=hb z (List.mem_of_mem_take hz1)
   omega
  ·
   by_cases h0 : len = 0
   ·
    exact .inl (by rw [hl]; exact h0)
   ·
    clear hcs hx
    obtain ⟨b,off,spot⟩:=a
    have h00:=hcell 0 (by omega)
    have hspot : spot = none:=by simpa [Addr.add] using World.cell?_spot h00
    subst hspot
    have hblk : b < W.heap.size:=by
     have:=World.block_lt_of_cell? W _ h00
     simpa [Addr.add] using this
    refine .inr ⟨b,off,rfl,hblk,fun j hj => ?_⟩
    rw [hl] at hj
    have hjz : j < zs.length:=by omega
    have hzj:=hb (zs[j]) (List.getElem_mem hjz)
    have e1 : ((zs.take len).map fun z => z.toNat).getD j 0 = (zs[j]).toNat:=by
     simp [List.getD_eq_getElem?_getD,List.getElem?_take_of_lt hj,hjz]
    have e2 : zs.getD j 0 = zs[j]:=by simp [List.getD_eq_getElem?_getD,hjz]
    rw [← Addr.add_mid,hcell j hjz,e1,e2,Int.toNat_of_nonneg hzj.1]
theorem cellsI1 : Tryz.prog.cellsOf 3 = 1:=by kernel_rfl
end Go.Proofs.YtbfkecfcolcclaaGreatDoor
namespace Go.Proofs.YtbfkecfcolcclaaGreatDoor
open Go.ChangeShapes Go.WideShapes Go.ChangeAt Go.RowKit
open Go.Value renaming int → vI
open Go.IntKind renaming u64 → vU
open Go.Act renaming put → aP
open List renaming setIfInBounds_toArray → lA, set_cons_zero → lZ, set_cons_succ → lS
theorem cellsWord : Tryz.prog.cellsOf 56 = 1:=by kernel_rfl
def numD {H : Type} (X : Nat) : DataW H:=.agg [.lit (.int .u64 (wd X 0)),.lit (.int .u64 (wd X 1)),.lit (.int .u64 (wd X 2)),.lit (.int .u64 (wd X 3))]
theorem wf_u64 {x : Int} (h : (Lit.int .u64 x).wf = true) : 0 ≤ x ∧ x < 18446744073709551616:=by
 simp only [Lit.wf,Bool.and_eq_true,decide_eq_true_eq] at h
 have e1 : IntKind.u64.min = 0:=rfl
 have e2 : IntKind.u64.max = 18446744073709551615:=rfl
 omega
section
variable {H : Type} {enc : TypeId × Value → H}
end
end Go.Proofs.YtbfkecfcolcclaaGreatDoor
namespace Go.Proofs.YtbfkecfcolcclaaGreatDoor
open Go.ChangeShapes Go.WideShapes Go.ChangeAt Go.RowKit
open Go.Value renaming int → vI
open Go.IntKind renaming u64 → vU
open Go.Act renaming put → aP
open List renaming setIfInBounds_toArray → lA, set_cons_zero → lZ, set_cons_succ → lS
section
variable {H : Type} {enc : TypeId × Value → H}
theorem num_of_trod {W : World} {base : Nat} {sp : Nat → Bool} {hd : Bool} {fuel : Nat} {c0 c1 c2 c3 : Value} {x : DataW H × List MemPlace} (hf : DataW.trod enc Tryz.prog W base sp hd fuel 58 [c0,c1,c2,c3] = some x) :
  ∃ X,X < top ∧ c0 = .int .u64 (wd X 0) ∧ c1 = .int .u64 (wd X 1) ∧ c2 = .int .u64 (wd X 2) ∧ c3 = .int .u64 (wd X 3) ∧ x = (numD X,[]):=by
 obtain ⟨y0,y1,y2,y3,m,hx,hy0,hy1,hy2,hy3⟩:=trod_array4 Tryz.underlying58 cellsWord hf
 obtain ⟨x0,e0,rfl,w0⟩:=DataW.trod_int Tryz.underlying56 hy0
 obtain ⟨x1,e1,rfl,w1⟩:=DataW.trod_int Tryz.underlying56 hy1
 obtain ⟨x2,e2,rfl,w2⟩:=DataW.trod_int Tryz.underlying56 hy2
 obtain ⟨x3,e3,rfl,w3⟩:=DataW.trod_int Tryz.underlying56 hy3
 simp at e0 e1 e2 e3
 subst e0 e1 e2 e3
 subst hx
 obtain ⟨a0,b0⟩:=wf_u64 w0
 obtain ⟨a1,b1⟩:=wf_u64 w1
 obtain ⟨a2,b2⟩:=wf_u64 w2
 obtain ⟨a3,b3⟩:=wf_u64 w3
 obtain ⟨g0,g1,g2,g3⟩:=wd_ofWords a0 b0 a1 b1 a2 b2 a3 b3
 refine ⟨ofWords x0 x1 x2 x3,ofWords_lt b0 b1 b2 b3,?_,?_,?_,?_,?_⟩
 ·
  rw [g0]
 ·
  rw [g1]
 ·
  rw [g2]
 ·
  rw [g3]
 ·
  unfold numD
  rw [g0,g1,g2,g3]
  rfl
end
end Go.Proofs.YtbfkecfcolcclaaGreatDoor
namespace Go.Proofs.YtbfkecfcolcclaaGreatDoor
open Go.ChangeShapes Go.WideShapes Go.RowKit
open Go.Value renaming int → vI
open Go.IntKind renaming u64 → vU
open Go.Act renaming put → aP
open List renaming setIfInBounds_toArray → lA, set_cons_zero → lZ, set_cons_succ → lS
def GoodK (k : Ky) : Prop:=(k.x < top ∧ k.y < top) ∧ (Lit.int .i64 k.i).wf = true ∧ (Lit.int .i64 k.a).wf = true ∧ (Lit.int .i64 k.b).wf = true
section
variable {H : Type} {enc : TypeId × Value → H} {W : World} {base : Nat} {sp : Nat → Bool} {hd : Bool} {fuel : Nat}
theorem pt_of_trod {c0 c1 c2 c3 c4 c5 c6 c7 c8 : Value} {x : DataW H × List MemPlace} (hf : DataW.trod enc Tryz.prog W base sp hd fuel 60 [c0,c1,c2,c3,c4,c5,c6,c7,c8] = some x) :
  ∃ X Y f,X < top ∧ Y < top ∧ [c0,c1,c2,c3,c4,c5,c6,c7,c8] = (qc X Y f).toList:=by
 obtain ⟨y0,y1,y2,m,hx,_,hy0,hy1,hy2⟩:=Deep.trod_struct3 Tryz.underlying60 hf
 have hy0 : DataW.trod enc Tryz.prog W base sp hd m 58 [c0,c1,c2,c3] = some y0:=by simpa [cells_num] using hy0
 have hy1 : DataW.trod enc Tryz.prog W base sp hd m 58 [c4,c5,c6,c7] = some y1:=by simpa [cells_num] using hy1
 have hy2 : DataW.trod enc Tryz.prog W base sp hd m 4 [c8] = some y2:=by simpa [cells_bool] using hy2
 obtain ⟨X,lX,rfl,rfl,rfl,rfl,rfl⟩:=num_of_trod hy0
 obtain ⟨Y,lY,rfl,rfl,rfl,rfl,rfl⟩:=num_of_trod hy1
 obtain ⟨f,e,rfl⟩:=DataW.trod_bool Tryz.underlying4 hy2
 obtain rfl:=List.head_eq_of_cons_eq e
 exact ⟨X,Y,f,lX,lY,rfl⟩
theorem underK : ∃ f0 f1 f2 f3 : Field,Tryz.prog.underlying 62 = some (.struct #[f0,f1,f2,f3]) ∧ (f0.offset = 0 ∧ f1.offset = 1 ∧ f2.offset = 10 ∧ f3.offset = 11) ∧ f0.type = 3 ∧ f1.type = 60 ∧ f2.type = 3 ∧ f3.type = 3:=⟨_,_,_,_,Tryz.underlying62,⟨rfl,rfl,rfl,rfl⟩,rfl,rfl,rfl,rfl⟩
theorem list12 {cs : List Value} (h : cs.length = 12) : ∃ c0 c1 c2 c3 c4 c5 c6 c7 c8 c9 c10 c11,cs = [c0,c1,c2,c3,c4,c5,c6,c7,c8,c9,c10,c11]:=by
 match cs,h with
 | [c0,c1,c2,c3,c4,c5,c6,c7,c8,c9,c10,c11],_ => exact ⟨c0,c1,c2,c3,c4,c5,c6,c7,c8,c9,c10,c11,rfl⟩
theorem ky_of_trod {cs : List Value} {x : DataW H × List MemPlace} (hf : DataW.trod enc Tryz.prog W base sp hd fuel 62 cs = some x) : ∃ k,GoodK k ∧ cs = kyC k:=by
 obtain ⟨f0,f1,f2,f3,hu,⟨o0,o1,o2,o3⟩,t0,t1,t2,t3⟩:=underK
 obtain ⟨y0,y1,y2,y3,m,_,hl,h0,h1,h2,h3⟩:=Joins.trod_struct4 hu hf
 rw [cells_ky12] at hl
 obtain ⟨c0,c1,c2,c3,c4,c5,c6,c7,c8,c9,c10,c11,rfl⟩:=list12 hl
 rw [t0,o0,cells_int] at h0
 rw [t1,o1,cells_pt] at h1
 rw [t2,o2,cells_int] at h2
 rw [t3,o3,cells_int] at h3
 obtain ⟨X,Y,f,lX,lY,e⟩:=pt_of_trod (by simpa using h1)
 obtain ⟨z0,e0,_,w0⟩:=DataW.trod_int Tryz.underlying3 h0
 obtain ⟨z2,e2,_,w2⟩:=DataW.trod_int Tryz.underlying3 h2
 obtain ⟨z3,e3,_,w3⟩:=DataW.trod_int Tryz.underlying3 h3
 simp at e0 e2 e3
 refine ⟨⟨z0,X,Y,f,z2,z3⟩,⟨⟨lX,lY⟩,w0,w2,w3⟩,?_⟩
 unfold kyC
 rw [← e,e0,e2,e3]
 rfl
theorem ks_of {v : Value} {d : DataW H} {p : List MemPlace} (hf : DataW.trod enc Tryz.prog W base sp hd fuel 28 [v] = some (d,p)) : ∃ l : List Ky,Ks W v l ∧ TopK l ∧ WfK l:=by
 obtain ⟨l,A,c,e,hc,hx⟩:=ls_of (α:={k : Ky // GoodK k}) (cs:=fun k => kyC k.1) Tryz.underlying28 cells_ky12 (by decide) (fun n cs' y h => by
  obtain ⟨k,hk,e⟩:=ky_of_trod h
  exact ⟨⟨k,hk⟩,e⟩) hf
 refine ⟨l.map (·.1),⟨A,c,by rw [List.length_map]; exact e,by rw [List.length_map]; exact hc,?_⟩,fun k hk => ?_,fun k hk => ?_⟩
 ·
  rw [List.length_map]
  refine hx.imp id ?_
  rintro ⟨b,o,ha,hb,hr⟩
  refine ⟨b,o,ha,hb,fun i x hi => ?_⟩
  rw [List.getElem?_map,Option.map_eq_some_iff] at hi
  obtain ⟨y,hy,rfl⟩:=hi
  exact hr i y hy
 ·
  obtain ⟨y,_,rfl⟩:=List.mem_map.1 hk
  exact y.2.1
 ·
  obtain ⟨y,_,rfl⟩:=List.mem_map.1 hk
  exact y.2.2
end
end Go.Proofs.YtbfkecfcolcclaaGreatDoor
namespace Go.Proofs.YtbfkecfcolcclaaGreatDoor
open Go.RowKit
open Go.Value renaming int → vI
open Go.IntKind renaming u64 → vU
open Go.Act renaming put → aP
open List renaming setIfInBounds_toArray → lA, set_cons_zero → lZ, set_cons_succ → lS
theorem zee {P : Program} {w : World} {D : World → Prop} (h : Up w D) {f : FuncId} {args : Array Value} {v : Value} (k : ∀ W,Ext w W → Calls P f args W fun _e w' => _e = .returned v ∧ Ext W w') (x : Gw D) :
  Calls P f args x.val fun _e w' => _e = .returned v ∧ ∃ y : Gw D,w' = y.val :=
 (k _ (h.grown _ x.property)).mono fun _ w' ⟨he,hE⟩ => ⟨he,⟨w',h.up _ _ x.property hE⟩,rfl⟩
/-! ### Same -/
theorem cellsR11 : Tryz.prog.cellsOf 65 = 2:=by kernel_rfl
theorem cellsI11 : Tryz.prog.cellsOf 3 = 1:=by kernel_rfl
theorem zbc {P : Program} {o : Oper} {a : Act} {ty : TypeId} {x : Operand} {b off : Nat} {cs : List Value} {d : TypeDesc} {W : World} (ho : o.op = .load ty x) (hx : a.eval x = .pointer (some ⟨b,off,none⟩)) (hr : W.rangeAt b off cs)
  (hu : P.underlying ty = some d) (hd : d.isRow = true) (hi : (P.info? ty).map (·.size) = some cs.length) : (execOp a.eval o).run P W = .ok (.value (.agg cs.toArray)) W:=by
 unfold execOp
 simp only [ho,hx,Instr.loadAt,Instr.sureAddr,Sem.run_bind,Sem.run_pure,Result.andThen_ok,run_loadVar_mid W b off ty cs d hr hu hd hi]
theorem zbg {w : World} {D : World → Prop} (h : Up w D) {b off : Nat} {L : List Value} (hb : b < w.heap.size) (hr : w.rangeAt b off L) (x : Gw D) : x.val.rangeAt b off L:=zas (h.grown _ x.property) hb hr
end Go.Proofs.YtbfkecfcolcclaaGreatDoor
namespace Go.Proofs.YtbfkecfcolcclaaGreatDoor
open Go.ChangeShapes Go.WideShapes Go.RowKit
open Go.Value renaming int → vI
open Go.IntKind renaming u64 → vU
open Go.Act renaming put → aP
open List renaming setIfInBounds_toArray → lA, set_cons_zero → lZ, set_cons_succ → lS
theorem underR11 : ∃ f0 f1 : Field,Tryz.prog.underlying 65 = some (.struct #[f0,f1]) ∧ f0.offset = 0 ∧ f1.offset = 1 ∧ f0.type = 3 ∧ f1.type = 3:=⟨_,_,Tryz.underlying65,rfl,rfl,rfl,rfl⟩
theorem list2 {cs : List Value} (h : cs.length = 2) : ∃ c0 c1,cs = [c0,c1]:=by
 match cs,h with
 | [c0,c1],_ => exact ⟨c0,c1,rfl⟩
section
variable {H : Type} {enc : TypeId × Value → H} {W : World} {base : Nat} {sp : Nat → Bool} {hd : Bool} {fuel : Nat}
theorem rv_of_trod {cs : List Value} {x : DataW H × List MemPlace} (hf : DataW.trod enc Tryz.prog W base sp hd fuel 65 cs = some x) : ∃ k : Rv,cs = rvC k:=by
 obtain ⟨f0,f1,hu,o0,o1,t0,t1⟩:=underR11
 obtain ⟨y0,y1,m,_,hl,h0,h1⟩:=Go.ChangeShapes.trod_struct2 hu hf
 rw [cellsR11] at hl
 obtain ⟨c0,c1,rfl⟩:=list2 hl
 rw [t0,o0,cellsI11] at h0
 rw [t1,o1,cellsI11] at h1
 obtain ⟨z0,e0,_,_⟩:=DataW.trod_int Tryz.underlying3 h0
 obtain ⟨z1,e1,_,_⟩:=DataW.trod_int Tryz.underlying3 h1
 simp at e0 e1
 exact ⟨(z0,z1),by rw [e0,e1]; rfl⟩
theorem rs_of {v : Value} {d : DataW H} {p : List MemPlace} (hf : DataW.trod enc Tryz.prog W base sp hd fuel 29 [v] = some (d,p)) : ∃ l : List Rv,Rs W v l :=
 ls_of (cs:=rvC) Tryz.underlying29 cellsR11 (by decide) (fun n cs' y h => rv_of_trod h) hf
end
section
variable {H : Type} {enc : TypeId × Value → H} {P : Program} {W : World} {base : Nat} {sp : Nat → Bool} {hd : Bool}
end
end Go.Proofs.YtbfkecfcolcclaaGreatDoor
namespace Go.Proofs.YtbfkecfcolcclaaGreatDoor
def rot (x n : Nat) : Nat:=x / 2 ^ n + 2 ^ (32 - n) * (x % 2 ^ n)
theorem zbf {x n : Nat} (hn : n ≤ 32) (hx : x < 2 ^ 32) : rot x n < 2 ^ 32:=by
 have hp : 0 < 2 ^ n:=Nat.pow_pos (by omega)
 have e : 2 ^ 32 = 2 ^ (32 - n) * 2 ^ n:=by rw [← Nat.pow_add]; congr 1; omega
 have hq : x / 2 ^ n < 2 ^ (32 - n):=by rw [Nat.div_lt_iff_lt_mul hp,← e]; exact hx
 have hr:=Nat.mod_lt x hp
 unfold rot
 rw [e]
 have : 2 ^ (32 - n) * (x % 2 ^ n + 1) ≤ 2 ^ (32 - n) * 2 ^ n:=Nat.mul_le_mul_left _ hr
 rw [Nat.mul_add] at this
 omega
end Go.Proofs.YtbfkecfcolcclaaGreatDoor
namespace Go.Proofs.YtbfkecfcolcclaaGreatDoor
def kList : List Nat:=[1116352408,1899447441,3049323471,3921009573,961987163,1508970993,2453635748,2870763221,3624381080,310598401,607225278,1426881987,1925078388,2162078206,2614888103,3248222580,3835390401,4022224774,264347078,604807628,770255983,1249150122,1555081692,1996064986,2554220882,2821834349,2952996808,3210313671,3336571891,3584528711,113926993,338241895,666307205,773529912,1294757372,1396182291,1695183700,1986661051,2177026350,2456956037,2730485921,2820302411,3259730800,3345764771,3516065817,3600352804,4094571909,275423344,430227734,506948616,659060556,883997877,958139571,1322822218,1537002063,1747873779,1955562222,2024104815,2227730452,2361852424,2428436474,2756734187,3204031479,3329325298]
def kc (t : Nat) : Nat:=kList.getD t 0
def ad (x y : Nat) : Nat:=(x + y) % 4294967296
def sg0 (x : Nat) : Nat:=rot x 7 ^^^ rot x 18 ^^^ (x / 2 ^ 3)
def sg1 (x : Nat) : Nat:=rot x 17 ^^^ rot x 19 ^^^ (x / 2 ^ 10)
def bs0 (x : Nat) : Nat:=rot x 2 ^^^ rot x 13 ^^^ rot x 22
def bs1 (x : Nat) : Nat:=rot x 6 ^^^ rot x 11 ^^^ rot x 25
def chN (x y z : Nat) : Nat:=(x &&& y) ^^^ ((4294967295 - x) &&& z)
def majN (x y z : Nat) : Nat:=(x &&& y) ^^^ (x &&& z) ^^^ (y &&& z)
theorem getD_lo (l r : List Nat) {t : Nat} (h : t < l.length) : (l ++ r).getD t 0 = l.getD t 0:=by simp [List.getD,List.getElem?_append_left h]
theorem getD_at (l : List Nat) (x : Nat) {t : Nat} (h : l.length = t) : (l ++ [x]).getD t 0 = x:=by subst h; simp [List.getD]
def sched (m : Nat → Nat) : Nat → List Nat
 | 0 => []
 | t + 1 => let l:=sched m t
  l ++ [if t < 16 then m t else ad (ad (ad (sg1 (l.getD (t - 2) 0)) (l.getD (t - 7) 0)) (sg0 (l.getD (t - 15) 0))) (l.getD (t - 16) 0)]
theorem zfq (m : Nat → Nat) : ∀ t,(sched m t).length = t
 | 0 => rfl
 | t + 1 => by simp [sched,zfq m t]
def wt (m : Nat → Nat) (t : Nat) : Nat:=(sched m (t + 1)).getD t 0
theorem zdh (m : Nat → Nat) (t : Nat) : ∀ n,t < n → (sched m n).getD t 0 = wt m t
 | 0,h => by omega
 | n + 1,h => by
  by_cases e : t = n
  ·
   subst e; rfl
  ·
   have ih:=zdh m t n (by omega)
   rw [← ih]
   show (sched m n ++ _).getD t 0 = _
   rw [getD_lo _ _ (by rw [zfq]; omega)]
theorem wt_lo (m : Nat → Nat) {t : Nat} (h : t < 16) : wt m t = m t:=by
 unfold wt
 show (sched m t ++ _).getD t 0 = _
 rw [getD_at _ _ (zfq m t),if_pos h]
theorem wt_hi (m : Nat → Nat) {t : Nat} (h : ¬ t < 16) : wt m t = ad (ad (ad (sg1 (wt m (t - 2))) (wt m (t - 7))) (sg0 (wt m (t - 15)))) (wt m (t - 16)):=by
 conv => lhs; unfold wt
 show (sched m t ++ _).getD t 0 = _
 rw [getD_at _ _ (zfq m t),if_neg h,zdh m _ t (by omega),zdh m _ t (by omega),zdh m _ t (by omega),zdh m _ t (by omega)]
structure St where
 a : Nat
 b : Nat
 c : Nat
 d : Nat
 e : Nat
 f : Nat
 g : Nat
 h : Nat
def t1N (s : St) (k w : Nat) : Nat:=ad (ad (ad (ad s.h (bs1 s.e)) (chN s.e s.f s.g)) k) w
def t2N (s : St) : Nat:=ad (bs0 s.a) (majN s.a s.b s.c)
def stepN (s : St) (k w : Nat) : St:=⟨ad (t1N s k w) (t2N s),s.a,s.b,s.c,ad s.d (t1N s k w),s.e,s.f,s.g⟩
def roundsN (m : Nat → Nat) (s : St) : Nat → St
 | 0 => s
 | t + 1 => stepN (roundsN m s t) (kc t) (wt m t)
def addSt (x y : St) : St:=⟨ad x.a y.a,ad x.b y.b,ad x.c y.c,ad x.d y.d,ad x.e y.e,ad x.f y.f,ad x.g y.g,ad x.h y.h⟩
def blockN (m : Nat → Nat) (s : St) : St:=addSt s (roundsN m s 64)
def word (text : Nat → Nat) (i : Nat) : Nat:=text i * 16777216 + text (i + 1) * 65536 + text (i + 2) * 256 + text (i + 3)
def blocksN (text : Nat → Nat) : Nat → St
 | 0 => ⟨1779033703,3144134277,1013904242,2773480762,1359893119,2600822924,528734635,1541459225⟩
 | n + 1 => blockN (fun t => word text (64 * n + 4 * t)) (blocksN text n)
def nBlocks (len : Nat) : Nat:=(len + 9 + 63) / 64
def padded (b : Nat → Nat) (len : Nat) : Nat → Nat:=fun i =>
 if i < len then b i else if i = len then 128 else if i < 64 * nBlocks len - 8 then 0 else 8 * len / 256 ^ (64 * nBlocks len - 1 - i) % 256
def shaSt (b : Nat → Nat) (len : Nat) : St:=blocksN (padded b len) (nBlocks len)
end Go.Proofs.YtbfkecfcolcclaaGreatDoor
namespace Go.Proofs.YtbfkecfcolcclaaGreatDoor
theorem wrap32 (n : Int) : IntKind.u32.wrap n = n % 4294967296:=by simp [IntKind.wrap,IntKind.signed,IntKind.bits]
section
variable (a b : Nat) (ha : a < 4294967296) (hb : b < 4294967296)
include ha hb
theorem ofInt32 : (BitVec.ofInt 32 (a : Int)).toNat = a ∧ (BitVec.ofInt 32 (b : Int)).toNat = b:=by
 constructor <;> (rw [BitVec.ofInt_natCast,BitVec.toNat_ofNat]; exact Nat.mod_eq_of_lt (by omega))
theorem and32 : bits .and .u32 (a : Int) (b : Int) = ((a &&& b : Nat) : Int):=by
 have hx : a &&& b < 2 ^ 32:=Nat.and_lt_two_pow _ (by omega)
 show IntKind.u32.wrap ((BitVec.ofInt 32 (a : Int) &&& BitVec.ofInt 32 (b : Int)).toNat : Int) = _
 rw [BitVec.toNat_and,(ofInt32 a b ha hb).1,(ofInt32 a b ha hb).2,wrap32]
 omega
theorem or32 : bits .or .u32 (a : Int) (b : Int) = ((a ||| b : Nat) : Int):=by
 have hx : a ||| b < 2 ^ 32:=Nat.or_lt_two_pow (by omega) (by omega)
 show IntKind.u32.wrap ((BitVec.ofInt 32 (a : Int) ||| BitVec.ofInt 32 (b : Int)).toNat : Int) = _
 rw [BitVec.toNat_or,(ofInt32 a b ha hb).1,(ofInt32 a b ha hb).2,wrap32]
 omega
theorem xor32 : bits .xor .u32 (a : Int) (b : Int) = ((a ^^^ b : Nat) : Int):=by
 have hx : a ^^^ b < 2 ^ 32:=Nat.xor_lt_two_pow (by omega) (by omega)
 show IntKind.u32.wrap ((BitVec.ofInt 32 (a : Int) ^^^ BitVec.ofInt 32 (b : Int)).toNat : Int) = _
 rw [BitVec.toNat_xor,(ofInt32 a b ha hb).1,(ofInt32 a b ha hb).2,wrap32]
 omega
end
theorem not_bit {x : Nat} (hx : x < 2 ^ 32) (i : Nat) : (4294967295 - x).testBit i = (decide (i < 32) && !x.testBit i):=by
 have h:=Nat.testBit_two_pow_sub_succ hx i
 rwa [show 2 ^ 32 - (x + 1) = 4294967295 - x by omega] at h
theorem rot_or {x n : Nat} (hn : n ≤ 32) (hx : x < 2 ^ 32) : rot x n = (x / 2 ^ n) ||| (x * 2 ^ (32 - n) % 2 ^ 32):=by
 have hp : 0 < 2 ^ n:=Nat.pow_pos (by omega)
 have e : 2 ^ 32 = 2 ^ (32 - n) * 2 ^ n:=by rw [← Nat.pow_add]; congr 1; omega
 have hq : x / 2 ^ n < 2 ^ (32 - n):=by rw [Nat.div_lt_iff_lt_mul hp,← e]; exact hx
 have h1 : x * 2 ^ (32 - n) % 2 ^ 32 = 2 ^ (32 - n) * (x % 2 ^ n):=by rw [e,Nat.mul_comm x,Nat.mul_mod_mul_left]
 rw [h1,Nat.or_comm,← Nat.two_pow_add_eq_or_of_lt hq]
 unfold rot
 omega
/-! ### all is below 2^32 -/
theorem ad_lt (x y : Nat) : ad x y < 2 ^ 32:=Nat.mod_lt _ (by decide)
theorem shr_lt {x : Nat} (n : Nat) (hx : x < 2 ^ 32) : x / 2 ^ n < 2 ^ 32:=Nat.lt_of_le_of_lt (Nat.div_le_self _ _) hx
theorem wt_lt {m : Nat → Nat} (hm : ∀ t,t < 16 → m t < 2 ^ 32) (t : Nat) : wt m t < 2 ^ 32:=by
 by_cases h : t < 16
 ·
  rw [wt_lo m h]; exact hm t h
 ·
  rw [wt_hi m h]; exact ad_lt _ _
structure St.Ok (s : St) : Prop where
 a : s.a < 2 ^ 32
 b : s.b < 2 ^ 32
 c : s.c < 2 ^ 32
 d : s.d < 2 ^ 32
 e : s.e < 2 ^ 32
 f : s.f < 2 ^ 32
 g : s.g < 2 ^ 32
 h : s.h < 2 ^ 32
theorem stepN_ok {s : St} (h : s.Ok) (k w : Nat) : (stepN s k w).Ok:=⟨ad_lt _ _,h.a,h.b,h.c,ad_lt _ _,h.e,h.f,h.g⟩
theorem roundsN_ok {m : Nat → Nat} {s : St} (h : s.Ok) : ∀ t,(roundsN m s t).Ok
 | 0 => h
 | t + 1 => stepN_ok (roundsN_ok h t) _ _
theorem blockN_ok (m : Nat → Nat) (s : St) : (blockN m s).Ok:=⟨ad_lt _ _,ad_lt _ _,ad_lt _ _,ad_lt _ _,ad_lt _ _,ad_lt _ _,ad_lt _ _,ad_lt _ _⟩
theorem blocksN_ok (text : Nat → Nat) : ∀ n,(blocksN text n).Ok
 | 0 => by constructor <;> (show _ < _; simp [blocksN])
 | n + 1 => blockN_ok _ _
theorem zfz {f g : Nat → Nat} : ∀ n,(∀ i,i < 64 * n → f i = g i) → blocksN f n = blocksN g n
 | 0,_ => rfl
 | n + 1,h => by
  have ih:=zfz n fun i hi => h i (by omega)
  have hw : ∀ t,t < 16 → word f (64 * n + 4 * t) = word g (64 * n + 4 * t):=by
   intro t ht
   unfold word
   rw [h _ (by omega),h _ (by omega),h _ (by omega),h _ (by omega)]
  have hs : ∀ k,sched (fun t => word f (64 * n + 4 * t)) k = sched (fun t => word g (64 * n + 4 * t)) k:=by
   intro k
   induction k with
   | zero => simp only [sched]
   | succ k ihk =>
    simp only [sched]
    rw [ihk]
    by_cases hk : k < 16
    ·
     simp only [if_pos hk]; rw [hw k hk]
    ·
     simp only [if_neg hk]
  have hr : ∀ s k,roundsN (fun t => word f (64 * n + 4 * t)) s k = roundsN (fun t => word g (64 * n + 4 * t)) s k:=by
   intro s k
   induction k with
   | zero => simp only [roundsN]
   | succ k ihk =>
    simp only [roundsN]
    rw [ihk]; unfold wt; rw [hs]
  simp only [blocksN]
  rw [ih]; unfold blockN; rw [hr]
end Go.Proofs.YtbfkecfcolcclaaGreatDoor
namespace Go.Proofs.YtbfkecfcolcclaaGreatDoor
open Go.RowKit
open Go.Value renaming int → vI
open Go.IntKind renaming u64 → vU
open Go.Act renaming put → aP
open List renaming setIfInBounds_toArray → lA, set_cons_zero → lZ, set_cons_succ → lS
def St.at (s : St) (j : Nat) : Nat:=match j with | 0 => s.a | 1 => s.b | 2 => s.c | 3 => s.d | 4 => s.e | 5 => s.f | 6 => s.g | _ => s.h
def hcells (s : St) (blk : Nat → Nat) (len : Nat) : Nat → Value:=fun j => if j < 8 then .int .u32 (s.at j : Nat) else if j < 72 then .int .u8 (blk (j - 8) : Nat) else .int .i64 (len : Int)
def HRow (w : World) (g : Nat) (s : St) (blk : Nat → Nat) (len : Nat) : Prop:=w.rowIs g 201 73 (hcells s blk len)
section
variable {w w' : World} {g B len : Nat} {s : St} {blk : Nat → Nat}
theorem HRow.lt (h : HRow w g s blk len) : g < w.heap.size:=World.rowIs.lt h
theorem HRow.below (h : HRow w g s blk len) (hb : Below B w w') (hlt : g < B) : HRow w' g s blk len:=zac h hb hlt
theorem HRow.call (h : HRow w g s blk len) (hb : Below w.heap.size w w') : HRow w' g s blk len:=zac h hb h.lt
theorem HRow.alloc (h : HRow w g s blk len) (o : Obj) : HRow (w.alloc o) g s blk len:=World.rowIs.alloc h o
theorem HRow.drew (h : HRow w g s blk len) : HRow w.drew g s blk len:=h
theorem HRow.drewN (h : HRow w g s blk len) (k : Nat) : HRow (w.drewN k) g s blk len:=h
theorem HRow.of_block (h : HRow w g s blk len) (e : w'.heap[g]? = w.heap[g]?) : HRow w' g s blk len:=World.rowIs.of_block h e
theorem HRow.state (h : HRow w g s blk len) {j : Nat} (hj : j < 8) : w.cell? ⟨g,j,none⟩ = some (.int .u32 (s.at j : Nat)):=by
 rw [World.rowIs.cell h (show j < 73 by omega),hcells,if_pos hj]
theorem HRow.byte (h : HRow w g s blk len) {j : Nat} (hj : j < 64) : w.cell? ⟨g,8 + j,none⟩ = some (.int .u8 (blk j : Nat)):=by
 rw [World.rowIs.cell h (show 8 + j < 73 by omega),hcells,if_neg (by omega),if_pos (by omega),show 8 + j - 8 = j by omega]
theorem HRow.length (h : HRow w g s blk len) : w.cell? ⟨g,72,none⟩ = some (.int .i64 (len : Int)):=by
 rw [World.rowIs.cell h (show 72 < 73 by omega),hcells,if_neg (by omega),if_neg (by omega)]
theorem HRow.block (h : HRow w g s blk len) : w.rangeAt g 8 ((List.range 64).map fun j => Value.int .u8 (blk j : Nat)):=by
 intro j v hv
 have hj : j < 64:=by simpa using (List.getElem?_eq_some_iff.1 hv).1
 rw [h.byte hj,← hv]
 simp [hj]
theorem HRow.words (h : HRow w g s blk len) : w.rangeAt g 0 ((List.range 8).map fun j => Value.int .u32 (s.at j : Nat)):=by
 intro j v hv
 have hj : j < 8:=by simpa using (List.getElem?_eq_some_iff.1 hv).1
 rw [Nat.zero_add,h.state hj,← hv]
 simp [hj]
end
structure KT (w : World) : Prop where
 lt : 0 < w.heap.size
 cell : ∀ j,j < 64 → w.cell? ⟨0,j,none⟩ = some (.int .u32 (kc j : Nat))
section
variable {w w' : World} {B : Nat}
theorem KT.of_block (h : KT w) (e : w'.heap[0]? = w.heap[0]?) (hs : w.heap.size ≤ w'.heap.size) : KT w' :=
 ⟨Nat.lt_of_lt_of_le h.lt hs,fun j hj => (World.cell?_of_block (w:=w) (a:=⟨0,j,none⟩) e).trans (h.cell j hj)⟩
theorem KT.below (h : KT w) (hb : Below B w w') (hB : 0 < B) : KT w':=h.of_block (hb.block 0 hB) hb.size
theorem KT.call (h : KT w) (hb : Below w.heap.size w w') : KT w':=h.below hb h.lt
theorem KT.alloc (h : KT w) (o : Obj) : KT (w.alloc o):=h.of_block (Below.heap_alloc _ _ _ h.lt) (by simp)
theorem KT.drew (h : KT w) : KT w.drew:=⟨h.lt,h.cell⟩
theorem KT.drewN (h : KT w) (k : Nat) : KT (w.drewN k):=⟨h.lt,h.cell⟩
theorem KT.far {b i : Nat} (h : KT w) (hne : 0 ≠ b) (v : Value) : KT (w.setCell ⟨b,i,none⟩ v):=h.of_block (Below.heap_setCell _ _ _ _ hne) (by simp [World.setCell])
theorem KT.grown {r : Nat} (h : KT w) (hg : w.grownBy w' (some r)) (hne : 0 ≠ r) : KT w':=h.of_block (hg.block 0 h.lt (by simpa using hne)) hg.size
end
theorem veil32 {p : Prop} (h : p) : Hid p:=h
theorem neg_and : ∀ n : Fin 32,n.1 ≠ 0 → bits .and .u64 (IntKind.u64.wrap (-(n.1 : Int))) 31 = 32 - (n.1 : Int):=by decide
theorem rot_bits {x n : Nat} (hx : x < 2 ^ 32) (hn : n < 32) : bits .or .u32 ((x : Int) * 2 ^ (32 - n) % 4294967296) ((x : Int) / 2 ^ (32 - (32 - n))) = ((rot x n : Nat) : Int):=by
 have e : 32 - (32 - n) = n:=by omega
 have e1 : (x : Int) * 2 ^ (32 - n) % 4294967296 = ((x * 2 ^ (32 - n) % 2 ^ 32 : Nat) : Int):=by
  rw [Int.natCast_emod,Int.natCast_mul,Int.natCast_pow]; rfl
 have e2 : (x : Int) / 2 ^ n = ((x / 2 ^ n : Nat) : Int):=by
  rw [Int.natCast_ediv,Int.natCast_pow]; rfl
 rw [e,e1,e2,or32 _ _ (Nat.mod_lt _ (by decide)) (shr_lt n hx),rot_or (by omega) hx,Nat.or_comm]
theorem ret_u32 {a : Int} {b : Nat} (h : a = (b : Int)) : Ending.returned (.int .u32 a) = .returned (.int .u32 (b : Nat)):=by rw [h]
theorem rotl_calls (x n : Nat) (hx : x < 2 ^ 32) (h0 : n ≠ 0) (hn : n < 32) (w : World) :
  Calls Tryz.prog 210 #[.int .u32 (x : Int),.int .i64 (-(n : Int))] w fun e w' => e = .returned (.int .u32 (rot x n : Nat)) ∧ w' = w:=by
 have k1:=neg_and ⟨n,hn⟩ h0
 simp only at k1
 go_enter Tryz.func210,Tryz.ntmps210
 go_wp2
 go_ret
 exact ⟨ret_u32 (rot_bits hx hn),rfl⟩
theorem zar (x n : Nat) (hx : x < 2 ^ 32) (h0 : n ≠ 0) (hn : n < 32) (w : World) :
  Calls Tryz.prog 209 #[.int .u32 (x : Int),.int .i64 (n : Int)] w fun e w' => e = .returned (.int .u32 (rot x n : Nat)) ∧ w' = w:=by
 go_enter Tryz.func209,Tryz.ntmps209
 go_wp2_with (go_at_call 210; refine (rotl_calls x n hx h0 hn _).mono ?_; rintro e w' ⟨rfl,rfl⟩)
 go_ret
 exact ⟨rfl,rfl⟩
theorem bigOne_calls (x : Nat) (hx : x < 2 ^ 32) (w : World) :
  Calls Tryz.prog 194 #[.int .u32 (x : Int)] w fun e w' => e = .returned (.int .u32 (bs1 x : Nat)) ∧ w' = w:=by
 have k1:=xor32 (rot x 6) (rot x 11) (zbf (by omega) hx) (zbf (by omega) hx)
 have k2:=xor32 (rot x 6 ^^^ rot x 11) (rot x 25) (Nat.xor_lt_two_pow (n:=32) (zbf (by omega) hx) (zbf (by omega) hx)) (zbf (by omega) hx)
 have H1 : Hid (∀ W,Calls Tryz.prog 209 #[.int .u32 (x : Int),.int .i64 6] W fun e w' => e = .returned (.int .u32 (rot x 6 : Nat)) ∧ w' = W):=veil32 (fun W => zar x 6 hx (by decide) (by decide) W)
 have H2 : Hid (∀ W,Calls Tryz.prog 209 #[.int .u32 (x : Int),.int .i64 11] W fun e w' => e = .returned (.int .u32 (rot x 11 : Nat)) ∧ w' = W):=veil32 (fun W => zar x 11 hx (by decide) (by decide) W)
 have H3 : Hid (∀ W,Calls Tryz.prog 209 #[.int .u32 (x : Int),.int .i64 25] W fun e w' => e = .returned (.int .u32 (rot x 25 : Nat)) ∧ w' = W):=veil32 (fun W => zar x 25 hx (by decide) (by decide) W)
 go_enter Tryz.func194,Tryz.ntmps194
 go_wp2_with (go_at_call 209; (first | ((with_reducible refine (H1.out _).mono ?_); rintro e w' ⟨rfl,rfl⟩) | ((with_reducible refine (H2.out _).mono ?_); rintro e w' ⟨rfl,rfl⟩) | ((with_reducible refine (H3.out _).mono ?_); rintro e w' ⟨rfl,rfl⟩)))
 go_ret
 exact ⟨rfl,rfl⟩
theorem bigZero_calls (x : Nat) (hx : x < 2 ^ 32) (w : World) :
  Calls Tryz.prog 196 #[.int .u32 (x : Int)] w fun e w' => e = .returned (.int .u32 (bs0 x : Nat)) ∧ w' = w:=by
 have k1:=xor32 (rot x 2) (rot x 13) (zbf (by omega) hx) (zbf (by omega) hx)
 have k2:=xor32 (rot x 2 ^^^ rot x 13) (rot x 22) (Nat.xor_lt_two_pow (n:=32) (zbf (by omega) hx) (zbf (by omega) hx)) (zbf (by omega) hx)
 have H1 : Hid (∀ W,Calls Tryz.prog 209 #[.int .u32 (x : Int),.int .i64 2] W fun e w' => e = .returned (.int .u32 (rot x 2 : Nat)) ∧ w' = W):=veil32 (fun W => zar x 2 hx (by decide) (by decide) W)
 have H2 : Hid (∀ W,Calls Tryz.prog 209 #[.int .u32 (x : Int),.int .i64 13] W fun e w' => e = .returned (.int .u32 (rot x 13 : Nat)) ∧ w' = W):=veil32 (fun W => zar x 13 hx (by decide) (by decide) W)
 have H3 : Hid (∀ W,Calls Tryz.prog 209 #[.int .u32 (x : Int),.int .i64 22] W fun e w' => e = .returned (.int .u32 (rot x 22 : Nat)) ∧ w' = W):=veil32 (fun W => zar x 22 hx (by decide) (by decide) W)
 go_enter Tryz.func196,Tryz.ntmps196
 go_wp2_with (go_at_call 209; (first | ((with_reducible refine (H1.out _).mono ?_); rintro e w' ⟨rfl,rfl⟩) | ((with_reducible refine (H2.out _).mono ?_); rintro e w' ⟨rfl,rfl⟩) | ((with_reducible refine (H3.out _).mono ?_); rintro e w' ⟨rfl,rfl⟩)))
 go_ret
 exact ⟨rfl,rfl⟩
theorem smallOne_calls (x : Nat) (hx : x < 2 ^ 32) (w : World) :
  Calls Tryz.prog 207 #[.int .u32 (x : Int)] w fun e w' => e = .returned (.int .u32 (sg1 x : Nat)) ∧ w' = w:=by
 obtain ⟨q,hq⟩ : ∃ q,q = x / 2 ^ 10:=⟨_,rfl⟩
 have hql : q < 2 ^ 32:=by rw [hq]; exact shr_lt 10 hx
 have k3 : (x : Int) / 1024 = (q : Int):=by rw [hq,Int.natCast_ediv]; rfl
 have HQ:=veil32 hq
 clear hq
 have k1:=xor32 (rot x 17) (rot x 19) (zbf (by omega) hx) (zbf (by omega) hx)
 have k2:=xor32 (rot x 17 ^^^ rot x 19) (q) (Nat.xor_lt_two_pow (n:=32) (zbf (by omega) hx) (zbf (by omega) hx)) (hql)
 have H1 : Hid (∀ W,Calls Tryz.prog 209 #[.int .u32 (x : Int),.int .i64 17] W fun e w' => e = .returned (.int .u32 (rot x 17 : Nat)) ∧ w' = W):=veil32 (fun W => zar x 17 hx (by decide) (by decide) W)
 have H2 : Hid (∀ W,Calls Tryz.prog 209 #[.int .u32 (x : Int),.int .i64 19] W fun e w' => e = .returned (.int .u32 (rot x 19 : Nat)) ∧ w' = W):=veil32 (fun W => zar x 19 hx (by decide) (by decide) W)
 go_enter Tryz.func207,Tryz.ntmps207
 go_wp2_with (go_at_call 209; (first | ((with_reducible refine (H1.out _).mono ?_); rintro e w' ⟨rfl,rfl⟩) | ((with_reducible refine (H2.out _).mono ?_); rintro e w' ⟨rfl,rfl⟩)))
 go_ret
 exact ⟨by unfold sg1; rw [← HQ.out]; rfl,rfl⟩
theorem smallZero_calls (x : Nat) (hx : x < 2 ^ 32) (w : World) :
  Calls Tryz.prog 208 #[.int .u32 (x : Int)] w fun e w' => e = .returned (.int .u32 (sg0 x : Nat)) ∧ w' = w:=by
 obtain ⟨q,hq⟩ : ∃ q,q = x / 2 ^ 3:=⟨_,rfl⟩
 have hql : q < 2 ^ 32:=by rw [hq]; exact shr_lt 3 hx
 have k3 : (x : Int) / 8 = (q : Int):=by rw [hq,Int.natCast_ediv]; rfl
 have HQ:=veil32 hq
 clear hq
 have k1:=xor32 (rot x 7) (rot x 18) (zbf (by omega) hx) (zbf (by omega) hx)
 have k2:=xor32 (rot x 7 ^^^ rot x 18) (q) (Nat.xor_lt_two_pow (n:=32) (zbf (by omega) hx) (zbf (by omega) hx)) (hql)
 have H1 : Hid (∀ W,Calls Tryz.prog 209 #[.int .u32 (x : Int),.int .i64 7] W fun e w' => e = .returned (.int .u32 (rot x 7 : Nat)) ∧ w' = W):=veil32 (fun W => zar x 7 hx (by decide) (by decide) W)
 have H2 : Hid (∀ W,Calls Tryz.prog 209 #[.int .u32 (x : Int),.int .i64 18] W fun e w' => e = .returned (.int .u32 (rot x 18 : Nat)) ∧ w' = W):=veil32 (fun W => zar x 18 hx (by decide) (by decide) W)
 go_enter Tryz.func208,Tryz.ntmps208
 go_wp2_with (go_at_call 209; (first | ((with_reducible refine (H1.out _).mono ?_); rintro e w' ⟨rfl,rfl⟩) | ((with_reducible refine (H2.out _).mono ?_); rintro e w' ⟨rfl,rfl⟩)))
 go_ret
 exact ⟨by unfold sg0; rw [← HQ.out]; rfl,rfl⟩
theorem xor_all {x : Nat} (hx : x < 2 ^ 32) : bits .xor .u32 IntKind.u32.max (x : Int) = ((4294967295 - x : Nat) : Int):=by
 have h:=xor32 4294967295 x (by decide) hx
 have e : 4294967295 ^^^ x = 4294967295 - x:=by
  apply Nat.eq_of_testBit_eq
  intro i
  rw [Nat.testBit_xor,not_bit hx,show (4294967295 : Nat) = 2 ^ 32 - 1 from rfl,Nat.testBit_two_pow_sub_one]
  by_cases h : i < 32
  ·
   simp [h]
  ·
   have h32 : 2 ^ 32 ≤ 2 ^ i:=Nat.pow_le_pow_right (by omega) (by omega)
   rw [Nat.testBit_lt_two_pow (Nat.lt_of_lt_of_le hx h32)]
   simp [h]
 rw [e] at h
 exact h
theorem choice_calls (x y z : Nat) (hx : x < 2 ^ 32) (hy : y < 2 ^ 32) (hz : z < 2 ^ 32) (w : World) :
  Calls Tryz.prog 195 #[.int .u32 (x : Int),.int .u32 (y : Int),.int .u32 (z : Int)] w fun e w' => e = .returned (.int .u32 (chN x y z : Nat)) ∧ w' = w:=by
 have k1:=and32 x y hx hy
 have k2:=xor_all hx
 have k3:=and32 (4294967295 - x) z (by omega) hz
 have k4:=xor32 (x &&& y) ((4294967295 - x) &&& z) (Nat.lt_of_le_of_lt Nat.and_le_left hx) (Nat.lt_of_le_of_lt Nat.and_le_left (by omega))
 go_enter Tryz.func195,Tryz.ntmps195
 go_wp2
 go_ret
 exact ⟨rfl,rfl⟩
theorem majority_calls (x y z : Nat) (hx : x < 2 ^ 32) (hy : y < 2 ^ 32) (hz : z < 2 ^ 32) (w : World) :
  Calls Tryz.prog 197 #[.int .u32 (x : Int),.int .u32 (y : Int),.int .u32 (z : Int)] w fun e w' => e = .returned (.int .u32 (majN x y z : Nat)) ∧ w' = w:=by
 have k1:=and32 x y hx hy
 have k2:=and32 x z hx hz
 have k3:=and32 y z hy hz
 have l1 : x &&& y < 2 ^ 32:=Nat.lt_of_le_of_lt Nat.and_le_left hx
 have l2 : x &&& z < 2 ^ 32:=Nat.lt_of_le_of_lt Nat.and_le_left hx
 have l3 : y &&& z < 2 ^ 32:=Nat.lt_of_le_of_lt Nat.and_le_left hy
 have k4:=xor32 (x &&& y) (x &&& z) l1 l2
 have k5:=xor32 ((x &&& y) ^^^ (x &&& z)) (y &&& z) (Nat.xor_lt_two_pow (n:=32) l1 l2) l3
 clear l1 l2 l3 hx hy hz
 go_enter Tryz.func197,Tryz.ntmps197
 go_wp2
 go_ret
 exact ⟨rfl,rfl⟩
end Go.Proofs.YtbfkecfcolcclaaGreatDoor
