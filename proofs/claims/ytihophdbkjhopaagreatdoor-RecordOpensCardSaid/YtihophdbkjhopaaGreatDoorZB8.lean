/-
  Of Rce Job KA KB Rcf Rcg.
-/
import Derived.Laws.IdiomStrings
import Derived.Great.BuildSlice
import Derived.Test.YtihophdbkjhopaaGreatDoorZB6
import Derived.Test.YtihophdbkjhopaaGreatDoorZB7
import Derived.Test.YtihophdbkjhopaaGreatDoorZB1
import Derived.Test.YtihophdbkjhopaaGreatDoorZB2
import Derived.Test.YtihophdbkjhopaaGreatDoorZB3
set_option maxRecDepth 1000000
set_option maxHeartbeats 20000000
namespace Go.Proofs.YtihophdbkjhopaaGreatDoor
open Go.RowKit
open Go.Value renaming int → vI
open Go.IntKind renaming u64 → vU
open Go.Act renaming put → aP
open List renaming setIfInBounds_toArray → lA, set_cons_zero → lZ, set_cons_succ → lS
def RZ : Array Value:=#[.int .i64 0,.int .i64 0,.int .i64 0,.int .i64 0,.int .i64 0,.int .i64 0,.int .i64 0,.int .i64 0,.int .u8 0,.int .u8 0,.int .u8 0,.int .u8 0,.int .u8 0,.int .u8 0,.int .u8 0,.int .u8 0,.int .u8 0,.int .u8 0,.int .u8 0,.int .u8 0,.int .u8 0,.int .u8 0,.int .u8 0,.int .u8 0,.int .u8 0,.int .u8 0,.int .u8 0,.int .u8 0,.int .u8 0,.int .u8 0,.int .u8 0,.int .u8 0,.int .u8 0,.int .u8 0,.int .u8 0,.int .u8 0,.int .u8 0,.int .u8 0,.int .u8 0,.int .u8 0,.slice none 0 0]
def DZ : Array Value:=#[.int .u8 0,.int .u8 0,.int .u8 0,.int .u8 0,.int .u8 0,.int .u8 0,.int .u8 0,.int .u8 0,.int .u8 0,.int .u8 0,.int .u8 0,.int .u8 0,.int .u8 0,.int .u8 0,.int .u8 0,.int .u8 0,.int .u8 0,.int .u8 0,.int .u8 0,.int .u8 0,.int .u8 0,.int .u8 0,.int .u8 0,.int .u8 0,.int .u8 0,.int .u8 0,.int .u8 0,.int .u8 0,.int .u8 0,.int .u8 0,.int .u8 0,.int .u8 0]
def zR : Rc:=⟨0,0,0,0,0,0,0,0,nilD,[]⟩
theorem rz_rc : RZ = rcC zR (.slice none 0 0):=rfl
theorem bldRZ (W : World) : (Instr.build 26 #[]).run Tryz.prog W = .ok (.agg RZ) W:=by kernel_rfl
theorem bldZ8 (W : World) : (Instr.build 46 #[]).run Tryz.prog W = .ok (.agg Z8) W:=by kernel_rfl
theorem iRZ : (Tryz.prog.info? 26).map (·.size) = some RZ.size:=by kernel_rfl
theorem iDZ : (Tryz.prog.info? 23).map (·.size) = some DZ.size:=by kernel_rfl
theorem zbm : RZ.all (·.oneCell') = true:=by simp [RZ,Value.oneCell']
theorem zcv : DZ.all (·.oneCell') = true:=by simp [DZ,Value.oneCell']
theorem nilD_wf : nilD.length = 32 ∧ Byt nilD:=⟨rfl,fun x hx => by rw [List.eq_of_mem_replicate hx]; decide⟩
theorem zR_wf : WfC zR:=⟨rfl,nilD_wf.2,fun x hx => by cases hx⟩
theorem zhk (w : World) : Rv17 w RZ zR:=⟨zR_wf,none,0,rz_rc,Nat.le_refl _,Bs.nil w none⟩
def OpenA17 (L : Low) (w' : World) (bs : List Nat) (X D G : Array Value) (y : Bool) : Prop :=
 (openR bs = none ∧ X = RZ ∧ D = DZ ∧ G = gc 0 0 ∧ y = false) ∨ (∃ r body x s,openR bs = some (r,body,x,s) ∧ Rv17 w' X r ∧ D = dgc (L.dg body) ∧ G = gc x s ∧ y = true)
theorem zge {bs : List Nat} (h : partsB bs = none) : openR bs = none:=by
 unfold openR
 rw [h]
theorem openR_un {bs body : List Nat} {x y : Nat} (h : partsB bs = some (body,x,y)) : openR bs = (unB body).map fun r => (r,body,x,y):=by
 unfold openR
 rw [h]
 show (match unB body with | some r => _ | none => _) = _
 cases unB body <;> rfl
theorem unB_none {body : List Nat} (h : getFs body = none) : unB body = none:=by
 unfold unB
 rw [h]
theorem unB_get {body : List Nat} {fs : List Fd} (h : getFs body = some fs) : unB body = if tenOk fs ∧ mayC (rcOf fs) = true then some (rcOf fs) else none:=by
 unfold unB
 rw [h]
theorem zat {P : Program} {fn : Func} {q p m s : Tmp} {ty ty2 ty3 : TypeId} (h : fn.results = #[.cell q ty,.cell p ty2,.cell m ty3,.tmp s]) (tmps : Array Value) (w : World) (g g2 g3 : Nat) (t t2 t3 : TypeId) (cs cs2 cs3 : Array Value) (fr fr2 fr3 : Nat × Nat) (d d2 d3 : TypeDesc)
  (hq : tmps.getD q undef = .pointer (some ⟨g,0,none⟩)) (hg : w.heap[g]? = some (.cells cs t fr)) (hu : P.underlying ty = some d) (hd : d.isRow = true) (hi : (P.info? ty).map (·.size) = some cs.size)
  (hp : tmps.getD p undef = .pointer (some ⟨g2,0,none⟩)) (hg2 : w.heap[g2]? = some (.cells cs2 t2 fr2)) (hu2 : P.underlying ty2 = some d2) (hd2 : d2.isRow = true) (hi2 : (P.info? ty2).map (·.size) = some cs2.size)
  (hm : tmps.getD m undef = .pointer (some ⟨g3,0,none⟩)) (hg3 : w.heap[g3]? = some (.cells cs3 t3 fr3)) (hu3 : P.underlying ty3 = some d3) (hd3 : d3.isRow = true) (hi3 : (P.info? ty3).map (·.size) = some cs3.size) :
  (results fn tmps).run P w = .ok (.tuple #[.agg cs,.agg cs2,.agg cs3,tmps.getD s undef]) w:=by
 have hq' : tmps[q]?.getD undef = .pointer (some ⟨g,0,none⟩):=by simpa using hq
 have hp' : tmps[p]?.getD undef = .pointer (some ⟨g2,0,none⟩):=by simpa using hp
 have hm' : tmps[m]?.getD undef = .pointer (some ⟨g3,0,none⟩):=by simpa using hm
 have hl : (loadVar ty ⟨g,0,none⟩).run P w = .ok (.agg cs) w:=run_loadVar_mid w g 0 ty cs.toList d (fun j v hv => by rw [cell_of_row w g (0 + j) cs t fr hg,Nat.zero_add]; simpa using hv) hu hd (by simpa using hi)
 have hl2 : (loadVar ty2 ⟨g2,0,none⟩).run P w = .ok (.agg cs2) w:=run_loadVar_mid w g2 0 ty2 cs2.toList d2 (fun j v hv => by rw [cell_of_row w g2 (0 + j) cs2 t2 fr2 hg2,Nat.zero_add]; simpa using hv) hu2 hd2 (by simpa using hi2)
 have hl3 : (loadVar ty3 ⟨g3,0,none⟩).run P w = .ok (.agg cs3) w:=run_loadVar_mid w g3 0 ty3 cs3.toList d3 (fun j v hv => by rw [cell_of_row w g3 (0 + j) cs3 t3 fr3 hg3,Nat.zero_add]; simpa using hv) hu3 hd3 (by simpa using hi3)
 simp [results,h,hq',hp',hm',asAddr,hl,hl2,hl3]
theorem four_new (w : World) (o o2 o3 o4 : Obj) : ((((w.alloc o).alloc o2).alloc o3).alloc o4).heap[w.heap.size]? = some o ∧ ((((w.alloc o).alloc o2).alloc o3).alloc o4).heap[w.heap.size + 1]? = some o2 ∧ ((((w.alloc o).alloc o2).alloc o3).alloc o4).heap[w.heap.size + 1 + 1]? = some o3 ∧ ((((w.alloc o).alloc o2).alloc o3).alloc o4).heap[w.heap.size + 1 + 1 + 1]? = some o4:=by
 have h1:=zfy w o o2
 have h2:=zfy ((w.alloc o).alloc o2) o3 o4
 have e : ((w.alloc o).alloc o2).heap.size = w.heap.size + 1 + 1:=by rw [World.size_alloc,World.size_alloc]
 rw [e] at h2
 have hE:=zey ((w.alloc o).alloc o2) o3 o4
 exact ⟨hE.block h1.1,hE.block h1.2,h2.1,h2.2⟩
theorem zay {l : List Oper} {pl : List Pl} {k : Nat} (h : FPl l pl k) : some k ∈ oldL pl:=by
 obtain ⟨i,_,_,_,_,hs⟩:=h
 exact List.mem_of_getElem? (oldL_at hs)
theorem zji {bs : List Nat} {fs : List Fd} {f : Rc → Rc × List Nat × Nat × Nat} (h : openR bs = (if tenOk fs ∧ mayC (rcOf fs) = true then some (rcOf fs) else none).map f) (hn : ¬ (tenOk fs ∧ mayC (rcOf fs) = true)) : openR bs = none:=by
 rw [h,if_neg hn]
 rfl
theorem head_un {body : List Nat} {r : Rc} (hb : Byt body) (h : unB body = some r) : 0 < body.length ∧ body.getD 0 0 = 1:=by
 have e:=(body_un hb h).1
 have hl:=rcB_length (body_un hb h).2.2.1
 rw [e] at hl
 refine ⟨by omega,?_⟩
 rw [← e]
 rfl
theorem rz_no1 : ∀ j : Nat,RZ[j]? ≠ some (Value.int .u8 1):=fun j h => by
 have h:=Array.mem_of_getElem? h
 simp [RZ] at h
theorem dz_no1 : ∀ j : Nat,DZ[j]? ≠ some (Value.int .u8 1):=fun j h => by
 have h:=Array.mem_of_getElem? h
 simp [DZ] at h
theorem bs_not {w : World} {A : Option Addr} {bs : List Nat} {g t : Nat} {C : Array Value} (hb : Bs w A bs) (h0 : 0 < bs.length) (h1 : bs.getD 0 0 = 1) (hg : w.heap[g]? = some (.cells C t (0,0))) (hC : ∀ j : Nat,C[j]? ≠ some (Value.int .u8 1)) : ∀ b o,A = some ⟨b,o,none⟩ → b ≠ g:=by
 intro b o e e2
 subst e2
 obtain ⟨b',o',e',_,hc⟩:=hb.cell h0
 rw [e] at e'
 injection e' with e'
 injection e' with e1 e2 _
 subst e1
 subst e2
 rw [h1,cell_of_row w b _ C t _ hg] at hc
 exact hC _ hc
theorem bs_chg {A : Option Addr} {bs : List Nat} {F : Nat → Prop} {w w' : World} (hF : ∀ b o,A = some ⟨b,o,none⟩ → ¬ F b) (hb : Bs w A bs) (k : Chg F w w') : Bs w' A bs:=by
 refine ⟨hb.1,hb.2.imp id ?_⟩
 rintro ⟨b,o,e,hbl,hc⟩
 exact ⟨b,o,e,Nat.lt_of_lt_of_le hbl k.size,fun j hj => (k.cell (p:=⟨b,o + j,none⟩) hbl (hF b o e)).trans (hc j hj)⟩
def cpF (X : Array Value) (p : List Nat) (k j : Nat) : Value:=if 8 ≤ j ∧ j < 8 + k then .int .u8 (p.getD (j - 8) 0 : Nat) else X.getD j undef
theorem cp_zero {X : Array Value} {p : List Nat} {j : Nat} (hj : j < X.size) : X[j]? = some (cpF X p 0 j):=by
 unfold cpF
 rw [if_neg (by omega)]
 simp [Array.getD,hj]
theorem cp_done (r r' : Rc) (v : Value) (p : List Nat) (h : r = { r' with pv:=nilD }) (h' : r'.pv = p) : arrOf 41 (cpF (rcC r v) p 32) = rcC r' v:=by
 subst h'
 subst h
 refine (zjx (rcC_size r' v) fun i hi => ?_).symm
 match i,hi with
 | 0,_ => rfl
 | 1,_ => rfl
 | 2,_ => rfl
 | 3,_ => rfl
 | 4,_ => rfl
 | 5,_ => rfl
 | 6,_ => rfl
 | 7,_ => rfl
 | 8,_ => rfl
 | 9,_ => rfl
 | 10,_ => rfl
 | 11,_ => rfl
 | 12,_ => rfl
 | 13,_ => rfl
 | 14,_ => rfl
 | 15,_ => rfl
 | 16,_ => rfl
 | 17,_ => rfl
 | 18,_ => rfl
 | 19,_ => rfl
 | 20,_ => rfl
 | 21,_ => rfl
 | 22,_ => rfl
 | 23,_ => rfl
 | 24,_ => rfl
 | 25,_ => rfl
 | 26,_ => rfl
 | 27,_ => rfl
 | 28,_ => rfl
 | 29,_ => rfl
 | 30,_ => rfl
 | 31,_ => rfl
 | 32,_ => rfl
 | 33,_ => rfl
 | 34,_ => rfl
 | 35,_ => rfl
 | 36,_ => rfl
 | 37,_ => rfl
 | 38,_ => rfl
 | 39,_ => rfl
 | 40,_ => rfl
 | i + 41,h => exact absurd h (by omega)
theorem cp_set {X : Array Value} {p : List Nat} {k : Nat} (j : Nat) : (if j = 8 + k then Value.int .u8 (p.getD k 0 : Nat) else cpF X p k j) = cpF X p (k + 1) j:=by
 unfold cpF
 by_cases e : j = 8 + k
 ·
  rw [if_pos e,if_pos (by omega),show j - 8 = k by omega]
 ·
  rw [if_neg e]
  by_cases c : 8 ≤ j ∧ j < 8 + k
  ·
   rw [if_pos c,if_pos (by omega)]
  ·
   rw [if_neg c,if_neg (by omega)]
structure Ow (w w' : World) (g2 g3 g4 g6 : Nat) : Prop where
 ext : Ext w w'
 b2 : w'.heap[g2]? = some (.cells RZ 26 (0,0))
 b3 : w'.heap[g3]? = some (.cells DZ 23 (0,0))
 b4 : w'.heap[g4]? = some (.cells Z8 46 (0,0))
 b6 : w'.heap[g6]? = some (.cells DZ 23 (0,0))
theorem Ow.more {w w' w2 : World} {g2 g3 g4 g6 : Nat} (h : Ow w w' g2 g3 g4 g6) (k : Ext w' w2) : Ow w w2 g2 g3 g4 g6:=⟨h.ext.trans k,k.block h.b2,k.block h.b3,k.block h.b4,k.block h.b6⟩
theorem ropen17_calls {L : Low} (R : LowR L) (A : Option Addr) (m c : Nat) (bs : List Nat) (hm : m = bs.length) (hmc : m ≤ c) (hle : m ≤ 100000) (w : World) (hS : Bs w A bs) :
  Calls Tryz.prog 16 #[.slice A m c] w fun e w' => ∃ X D G y,e = .returned (.tuple #[.agg X,.agg D,.agg G,.bool y]) ∧ Ext w w' ∧ OpenA17 L w' bs X D G y:=by
 have KP:=veil (fun W => rparts9_calls R A m c bs hm hmc (by omega) W)
 have HB:=veil hS
 clear hm hmc hle hS
 go_enter Tryz.func16,Tryz.ntmps16
 go_upto_region 2 with (fail)
 obtain ⟨g2,hg2⟩ : ∃ g,g = w.heap.size:=⟨_,rfl⟩
 obtain ⟨g3,hg3⟩ : ∃ g,g = w.heap.size + 1:=⟨_,rfl⟩
 obtain ⟨g4,hg4⟩ : ∃ g,g = w.heap.size + 1 + 1:=⟨_,rfl⟩
 obtain ⟨g6,hg6⟩ : ∃ g,g = w.heap.size + 1 + 1 + 1:=⟨_,rfl⟩
 obtain ⟨w0,hw0⟩ : ∃ W,W = (((w.alloc (.cells RZ 26)).alloc (.cells DZ 23)).alloc (.cells Z8 46)).alloc (.cells DZ 23):=⟨_,rfl⟩
 have h4:=four_new w (.cells RZ 26) (.cells DZ 23) (.cells Z8 46) (.cells DZ 23)
 have hE0 : Ext w w0:=by rw [hw0]; exact (zey _ _ _).trans (zey _ _ _)
 rw [← hw0,← hg6,← hg4,← hg3,← hg2] at h4
 have H0:=veil (show Ow w w0 g2 g3 g4 g6 from ⟨hE0,h4.1,h4.2.1,h4.2.2.1,h4.2.2.2⟩)
 have HSz : w0.heap.size = g6 + 1:=by rw [hw0,hg6]; simp only [World.size_alloc]
 have hlo : w.heap.size ≤ g2:=by omega
 have n23 : ¬ g3 = g2:=by omega
 have n24 : ¬ g4 = g2:=by omega
 have n34 : ¬ g4 = g3:=by omega
 have hord : g2 < g3 ∧ g3 < g4 ∧ g4 < g6:=by omega
 have HO:=veil (And.intro hord HSz)
 unfold RZ DZ Z8 at hw0
 rw [← hw0,← hg6,← hg4,← hg3,← hg2]
 have hSB:=HB.out.ext hE0
 have HSB:=veil hSB
 clear hw0 hg2 hg3 hg4 hg6 h4 hE0 HSz hSB
 go_upto_region 3 with (first
  | (go_at_call 40; refine (KP.out w0 HSB.out).mono ?_; rintro e w1 ⟨x,G,y,rfl,hE1,hA⟩; obtain ⟨r,s,body,A1,c1,o,rfl,rfl,hc1,hl1,hB1,rfl,hY⟩:=partsA_all HB.out.1 hA)
  | ((with_reducible refine zah ?_); refine wpList_store_row rfl 46 _ _ rfl w1.heap.size (gc r s) rfl rfl 46 _ (zab w1 _) (iSg r s) rfl (zda r s) ?_; rw [World.setRow_alloc_new]))
 have hE2 : Ext w0 (w1.alloc (.cells (gc r s) 46)):=hE1.trans (Ext.alloc _ _)
 have hB2:=hB1.ext (Ext.alloc w1 (.cells (gc r s) 46))
 obtain ⟨g8,hg8⟩ : ∃ g,g = w1.heap.size:=⟨_,rfl⟩
 have h8 : (w1.alloc (.cells (gc r s) 46)).heap[g8]? = some (.cells (gc r s) 46 (0,0)):=by rw [hg8]; exact zab _ _
 have N8:=veil (show g6 < g8 by have h1:=Below.size hE1; have h2:=HO.out.2; omega)
 rw [← hg8]
 generalize w1.alloc (.cells (gc r s) 46) = w2 at *
 have H2:=veil (And.intro (H0.out.more hE2) (And.intro h8 (And.intro hB2 (Below.size hE2))))
 have KN : Hid (Calls Tryz.prog 41 #[.slice A1 body.length c1] w2 fun e w' => Ext w2 w' ∧ ((getFs body = none ∧ e = .returned (.tuple #[.slice none 0 0,.bool false])) ∨ (∃ fs v,getFs body = some fs ∧ FlN w2.heap.size w' v fs ∧ e = .returned (.tuple #[v,.bool true])))):=veil (rget8n_calls A1 _ c1 body rfl hc1 (by omega) w2 hB2)
 have HY:=veil hY
 have HBB:=veil (And.intro hB2.1 (And.intro hc1 hl1))
 clear hA hY hE1 hE2 hB1 hB2 hg8 h8 hc1 hl1 H0 KP
 rcases HY.out with ⟨hp,rfl⟩ | ⟨hp,rfl⟩
 ·
  have HR:=veil (zge hp)
  go_upto_region 4 with (go_at_call 41; refine KN.out.mono ?_; rintro e w3 ⟨hE3,⟨hn,rfl⟩ | ⟨fs,v,hn,hF,rfl⟩⟩)
  ·
   have H3:=veil (H2.out.1.more hE3)
   clear hE3 hn hp HY KN
   go_upto_region 5 with (fail)
   refine zff [⟨[],.fix (.agg RZ)⟩,⟨[],.fix (.agg DZ)⟩,⟨[],.fix (.agg Z8)⟩,⟨[0],.old g2 26 RZ fun _ => RZ⟩,⟨[1],.old g3 23 DZ fun _ => DZ⟩,⟨[2],.old g4 46 Z8 fun _ => Z8⟩,⟨[],.fix (Value.bool false)⟩] (by kernel_rfl) (by kernel_rfl) (by unfold apartL; simp [oldL,n23,n24,n34]) (by unfold apartL; simp [stoL]) ?_ ?_
   ·
    refine ⟨?_,?_,?_,?_,?_,?_,?_,trivial⟩
    ·
     intro vs W _ _
     with_reducible refine zas (ty:=26) (parts:=[]) (vs:=[]) ?_ ?_ ?_
     ·
      rfl
     ·
      rfl
     ·
      exact bldRZ
    ·
     intro vs W hC _
     with_reducible refine zce (ty:=23) (x:=.tmp 6) (g:=g6) (t:=23) (C:=DZ) (fr:=(0,0)) ?_ ?_ ?_ Tryz.underlying23 ?_ ?_
     ·
      rfl
     ·
      exact (zan (by kernel_rfl)).trans rfl
     ·
      exact (hC.at H3.out.b6 fun h => by have h:=zay h; simp only [oldL,List.map_cons,List.map_nil,List.mem_cons,Option.some.injEq,List.not_mem_nil,reduceCtorEq,false_or,or_false] at h; omega)
     ·
      rfl
     ·
      exact iDZ
    ·
     intro vs W _ _
     with_reducible refine zas (ty:=46) (parts:=[]) (vs:=[]) ?_ ?_ ?_
     ·
      rfl
     ·
      rfl
     ·
      exact bldZ8
    ·
     exact ⟨rfl,H3.out.b2,_,_,_,rfl,fun vs W hR => ⟨(zan (by kernel_rfl)).trans rfl,(ev_at (i:=0) (by kernel_rfl) rfl rfl).trans (hR 0 (.head _)),iRZ,rfl,zbm⟩⟩
    ·
     exact ⟨rfl,H3.out.b3,_,_,_,rfl,fun vs W hR => ⟨(zan (by kernel_rfl)).trans rfl,(ev_at (i:=1) (by kernel_rfl) rfl rfl).trans (hR 1 (.head _)),iDZ,rfl,zcv⟩⟩
    ·
     exact ⟨rfl,H3.out.b4,_,_,_,rfl,fun vs W hR => ⟨(zan (by kernel_rfl)).trans rfl,(ev_at (i:=2) (by kernel_rfl) rfl rfl).trans (hR 2 (.head _)),iZ8,rfl,zcu⟩⟩
    ·
     intro vs W _ _
     with_reducible refine zaq (x:=.const (Value.bool false)) ?_ ?_
     ·
      exact .inr rfl
     ·
      exact rfl
   ·
    intro vs W hI
    have e0 : vs 0 = .agg RZ:=hI.out.R 0 (by decide)
    have e1 : vs 1 = .agg DZ:=hI.out.R 1 (by decide)
    have e2 : vs 2 = .agg Z8:=hI.out.R 2 (by decide)
    have e6 : vs 6 = Value.bool false:=hI.out.R 6 (by decide)
    have o2 : W.heap[g2]? = some (.cells RZ 26 (0,0)):=hI.out.O (i:=3) (by decide) rfl
    have o3 : W.heap[g3]? = some (.cells DZ 23 (0,0)):=hI.out.O (i:=4) (by decide) rfl
    have o4 : W.heap[g4]? = some (.cells Z8 46 (0,0)):=hI.out.O (i:=5) (by decide) rfl
    have hE : Ext w W:=hI.out.chg.new H3.out.ext fun z hz h => by have h:=zay h; simp only [oldL,List.map_cons,List.map_nil,List.mem_cons,Option.some.injEq,List.not_mem_nil,reduceCtorEq,false_or,or_false] at h; omega
    simp only [putF,e0,e1,e2,e6,Nat.zero_add,Nat.reduceAdd,Act.put,List.setIfInBounds_toArray,List.set_cons_zero,List.set_cons_succ]
    have HZ:=veil (And.intro o2 (And.intro o3 (And.intro o4 hE)))
    clear hI o2 o3 o4 hE e0 e1 e2 e6
    go_wp2
    exact bodyPost_ret (zat rfl _ _ g2 g3 g4 26 23 46 RZ DZ Z8 (0,0) (0,0) (0,0) _ _ _ rfl HZ.out.1 Tryz.underlying26 rfl iRZ rfl HZ.out.2.1 Tryz.underlying23 rfl iDZ rfl HZ.out.2.2.1 Tryz.underlying46 rfl iZ8) rfl ⟨_,_,_,_,rfl,HZ.out.2.2.2,.inl ⟨HR.out,rfl,rfl,z8_gc,rfl⟩⟩
  ·
   have H3:=veil (H2.out.1.more hE3)
   clear hE3 hn hp HY KN hF
   go_upto_region 5 with (fail)
   refine zff [⟨[],.fix (.agg RZ)⟩,⟨[],.fix (.agg DZ)⟩,⟨[],.fix (.agg Z8)⟩,⟨[0],.old g2 26 RZ fun _ => RZ⟩,⟨[1],.old g3 23 DZ fun _ => DZ⟩,⟨[2],.old g4 46 Z8 fun _ => Z8⟩,⟨[],.fix (Value.bool false)⟩] (by kernel_rfl) (by kernel_rfl) (by unfold apartL; simp [oldL,n23,n24,n34]) (by unfold apartL; simp [stoL]) ?_ ?_
   ·
    refine ⟨?_,?_,?_,?_,?_,?_,?_,trivial⟩
    ·
     intro vs W _ _
     with_reducible refine zas (ty:=26) (parts:=[]) (vs:=[]) ?_ ?_ ?_
     ·
      rfl
     ·
      rfl
     ·
      exact bldRZ
    ·
     intro vs W hC _
     with_reducible refine zce (ty:=23) (x:=.tmp 6) (g:=g6) (t:=23) (C:=DZ) (fr:=(0,0)) ?_ ?_ ?_ Tryz.underlying23 ?_ ?_
     ·
      rfl
     ·
      exact (zan (by kernel_rfl)).trans rfl
     ·
      exact (hC.at H3.out.b6 fun h => by have h:=zay h; simp only [oldL,List.map_cons,List.map_nil,List.mem_cons,Option.some.injEq,List.not_mem_nil,reduceCtorEq,false_or,or_false] at h; omega)
     ·
      rfl
     ·
      exact iDZ
    ·
     intro vs W _ _
     with_reducible refine zas (ty:=46) (parts:=[]) (vs:=[]) ?_ ?_ ?_
     ·
      rfl
     ·
      rfl
     ·
      exact bldZ8
    ·
     exact ⟨rfl,H3.out.b2,_,_,_,rfl,fun vs W hR => ⟨(zan (by kernel_rfl)).trans rfl,(ev_at (i:=0) (by kernel_rfl) rfl rfl).trans (hR 0 (.head _)),iRZ,rfl,zbm⟩⟩
    ·
     exact ⟨rfl,H3.out.b3,_,_,_,rfl,fun vs W hR => ⟨(zan (by kernel_rfl)).trans rfl,(ev_at (i:=1) (by kernel_rfl) rfl rfl).trans (hR 1 (.head _)),iDZ,rfl,zcv⟩⟩
    ·
     exact ⟨rfl,H3.out.b4,_,_,_,rfl,fun vs W hR => ⟨(zan (by kernel_rfl)).trans rfl,(ev_at (i:=2) (by kernel_rfl) rfl rfl).trans (hR 2 (.head _)),iZ8,rfl,zcu⟩⟩
    ·
     intro vs W _ _
     with_reducible refine zaq (x:=.const (Value.bool false)) ?_ ?_
     ·
      exact .inr rfl
     ·
      exact rfl
   ·
    intro vs W hI
    have e0 : vs 0 = .agg RZ:=hI.out.R 0 (by decide)
    have e1 : vs 1 = .agg DZ:=hI.out.R 1 (by decide)
    have e2 : vs 2 = .agg Z8:=hI.out.R 2 (by decide)
    have e6 : vs 6 = Value.bool false:=hI.out.R 6 (by decide)
    have o2 : W.heap[g2]? = some (.cells RZ 26 (0,0)):=hI.out.O (i:=3) (by decide) rfl
    have o3 : W.heap[g3]? = some (.cells DZ 23 (0,0)):=hI.out.O (i:=4) (by decide) rfl
    have o4 : W.heap[g4]? = some (.cells Z8 46 (0,0)):=hI.out.O (i:=5) (by decide) rfl
    have hE : Ext w W:=hI.out.chg.new H3.out.ext fun z hz h => by have h:=zay h; simp only [oldL,List.map_cons,List.map_nil,List.mem_cons,Option.some.injEq,List.not_mem_nil,reduceCtorEq,false_or,or_false] at h; omega
    simp only [putF,e0,e1,e2,e6,Nat.zero_add,Nat.reduceAdd,Act.put,List.setIfInBounds_toArray,List.set_cons_zero,List.set_cons_succ]
    have HZ:=veil (And.intro o2 (And.intro o3 (And.intro o4 hE)))
    clear hI o2 o3 o4 hE e0 e1 e2 e6
    go_wp2
    exact bodyPost_ret (zat rfl _ _ g2 g3 g4 26 23 46 RZ DZ Z8 (0,0) (0,0) (0,0) _ _ _ rfl HZ.out.1 Tryz.underlying26 rfl iRZ rfl HZ.out.2.1 Tryz.underlying23 rfl iDZ rfl HZ.out.2.2.1 Tryz.underlying46 rfl iZ8) rfl ⟨_,_,_,_,rfl,HZ.out.2.2.2,.inl ⟨HR.out,rfl,rfl,z8_gc,rfl⟩⟩
 ·
  have HR:=veil (openR_un hp)
  go_upto_region 4 with (go_at_call 41; refine KN.out.mono ?_; rintro e w3 ⟨hE3,⟨hn,rfl⟩ | ⟨fs,v,hn,hF,rfl⟩⟩)
  ·
   have H3:=veil (H2.out.1.more hE3)
   have HN:=veil (HR.out.trans (congrArg _ (unB_none hn)))
   clear hE3 hn hp HY KN HR
   go_upto_region 5 with (fail)
   refine zff [⟨[],.fix (.agg RZ)⟩,⟨[],.fix (.agg DZ)⟩,⟨[],.fix (.agg Z8)⟩,⟨[0],.old g2 26 RZ fun _ => RZ⟩,⟨[1],.old g3 23 DZ fun _ => DZ⟩,⟨[2],.old g4 46 Z8 fun _ => Z8⟩,⟨[],.fix (Value.bool false)⟩] (by kernel_rfl) (by kernel_rfl) (by unfold apartL; simp [oldL,n23,n24,n34]) (by unfold apartL; simp [stoL]) ?_ ?_
   ·
    refine ⟨?_,?_,?_,?_,?_,?_,?_,trivial⟩
    ·
     intro vs W _ _
     with_reducible refine zas (ty:=26) (parts:=[]) (vs:=[]) ?_ ?_ ?_
     ·
      rfl
     ·
      rfl
     ·
      exact bldRZ
    ·
     intro vs W hC _
     with_reducible refine zce (ty:=23) (x:=.tmp 6) (g:=g6) (t:=23) (C:=DZ) (fr:=(0,0)) ?_ ?_ ?_ Tryz.underlying23 ?_ ?_
     ·
      rfl
     ·
      exact (zan (by kernel_rfl)).trans rfl
     ·
      exact (hC.at H3.out.b6 fun h => by have h:=zay h; simp only [oldL,List.map_cons,List.map_nil,List.mem_cons,Option.some.injEq,List.not_mem_nil,reduceCtorEq,false_or,or_false] at h; omega)
     ·
      rfl
     ·
      exact iDZ
    ·
     intro vs W _ _
     with_reducible refine zas (ty:=46) (parts:=[]) (vs:=[]) ?_ ?_ ?_
     ·
      rfl
     ·
      rfl
     ·
      exact bldZ8
    ·
     exact ⟨rfl,H3.out.b2,_,_,_,rfl,fun vs W hR => ⟨(zan (by kernel_rfl)).trans rfl,(ev_at (i:=0) (by kernel_rfl) rfl rfl).trans (hR 0 (.head _)),iRZ,rfl,zbm⟩⟩
    ·
     exact ⟨rfl,H3.out.b3,_,_,_,rfl,fun vs W hR => ⟨(zan (by kernel_rfl)).trans rfl,(ev_at (i:=1) (by kernel_rfl) rfl rfl).trans (hR 1 (.head _)),iDZ,rfl,zcv⟩⟩
    ·
     exact ⟨rfl,H3.out.b4,_,_,_,rfl,fun vs W hR => ⟨(zan (by kernel_rfl)).trans rfl,(ev_at (i:=2) (by kernel_rfl) rfl rfl).trans (hR 2 (.head _)),iZ8,rfl,zcu⟩⟩
    ·
     intro vs W _ _
     with_reducible refine zaq (x:=.const (Value.bool false)) ?_ ?_
     ·
      exact .inr rfl
     ·
      exact rfl
   ·
    intro vs W hI
    have e0 : vs 0 = .agg RZ:=hI.out.R 0 (by decide)
    have e1 : vs 1 = .agg DZ:=hI.out.R 1 (by decide)
    have e2 : vs 2 = .agg Z8:=hI.out.R 2 (by decide)
    have e6 : vs 6 = Value.bool false:=hI.out.R 6 (by decide)
    have o2 : W.heap[g2]? = some (.cells RZ 26 (0,0)):=hI.out.O (i:=3) (by decide) rfl
    have o3 : W.heap[g3]? = some (.cells DZ 23 (0,0)):=hI.out.O (i:=4) (by decide) rfl
    have o4 : W.heap[g4]? = some (.cells Z8 46 (0,0)):=hI.out.O (i:=5) (by decide) rfl
    have hE : Ext w W:=hI.out.chg.new H3.out.ext fun z hz h => by have h:=zay h; simp only [oldL,List.map_cons,List.map_nil,List.mem_cons,Option.some.injEq,List.not_mem_nil,reduceCtorEq,false_or,or_false] at h; omega
    simp only [putF,e0,e1,e2,e6,Nat.zero_add,Nat.reduceAdd,Act.put,List.setIfInBounds_toArray,List.set_cons_zero,List.set_cons_succ]
    have HZ:=veil (And.intro o2 (And.intro o3 (And.intro o4 hE)))
    clear hI o2 o3 o4 hE e0 e1 e2 e6
    go_wp2
    exact bodyPost_ret (zat rfl _ _ g2 g3 g4 26 23 46 RZ DZ Z8 (0,0) (0,0) (0,0) _ _ _ rfl HZ.out.1 Tryz.underlying26 rfl iRZ rfl HZ.out.2.1 Tryz.underlying23 rfl iDZ rfl HZ.out.2.2.1 Tryz.underlying46 rfl iZ8) rfl ⟨_,_,_,_,rfl,HZ.out.2.2.2,.inl ⟨HN.out,rfl,rfl,z8_gc,rfl⟩⟩
  ·
   have H3:=veil (H2.out.1.more hE3)
   have hU:=HR.out.trans (congrArg _ (unB_get hn))
   have h8:=hE3.block H2.out.2.1
   have hB1:=H2.out.2.2.1.ext hE3
   have hsz:=H2.out.2.2.2
   obtain ⟨hBF,AL,cl,rfl,hcl,hx⟩:=hF
   have HU:=veil hU
   have HUN:=veil (unB_get hn)
   have H65:=veil (fun i (hi : i < fs.length) => (((of_decide_eq_true (zgz hn).2).2 i hi).2.2.1 : (bsF fs i).length ≤ 65535))
   obtain ⟨q,hq⟩ : ∃ q,q = fs.length:=⟨_,rfl⟩
   rw [← hq] at hx hcl ⊢
   by_cases hq10 : q = 10
   ·
    subst hq10
    obtain ⟨b,o,hAL,hb,hcells⟩:=hx.resolve_left (by omega)
    subst hAL
    obtain ⟨i8,hi8,hz0,hz1,hz2⟩:=info_parts infoI9
    have HI:=veil (And.intro hi8 (And.intro hz0 (And.intro hz1 hz2)))
    have HC:=veil (And.intro hb (And.intro hcells (And.intro hBF (And.intro hq.symm (And.intro h8 (And.intro hB1 hsz))))))
    clear hE3 hn hp HY KN HR hU h8 hB1 hsz hBF hq hcells hb hx H2 hi8 hz0 hz1 hz2
    go_upto_region 8 with (fail)
    go_loopw [12,13,14] (fun v u _ wr => ∃ i : Nat,i ≤ 10 ∧ u = .int .i64 (i : Int) ∧ Own wr w3.heap.size 3 v i (fun j => .int .i64 (ofB (bsF fs j))) ∧ (∀ j,j < i → tgF fs j = (j : Int) + 1 ∧ (j < 8 → 0 ≤ ofB (bsF fs j))) ∧ Ext w3 wr)
     (fun _ v _ _ => 10 - (intOf v).toNat)
    case atStart => exact ⟨0,by omega,rfl,Own.nil _ _ _ _,fun j hj => by omega,Ext.refl _⟩
    case round =>
     obtain ⟨i,hi,rfl,hO,hall,hE⟩:=hrel
     by_cases hlt : i < 10
     ·
      have hd1 : decide ((i : Int) < 10) = true:=by simp; omega
      have hii : (i : Int) < 10:=by omega
      have hb:=HC.out.1
      obtain ⟨h1,A',k',h2,h3,h4,_⟩:=HC.out.2.1 i hlt
      have c0:=(hE.cell hb).trans h1
      have c1:=(hE.cell hb).trans h2
      obtain ⟨T,hT⟩ : ∃ T,T = tgF fs i:=⟨_,rfl⟩
      obtain ⟨L,hL⟩ : ∃ L,L = (bsF fs i).length:=⟨_,rfl⟩
      obtain ⟨N,hN⟩ : ∃ N,N = ofB (bsF fs i):=⟨_,rfl⟩
      have KO:=veil (rof8_calls A' L k' (bsF fs i) hL wr (h4.ext hE))
      rw [← hT] at c0
      rw [← hL] at c1
      rw [← hN] at KO
      have HT:=veil (And.intro hT (And.intro hN (And.intro hO (And.intro hall hE))))
      have hno : ¬ (T = (i : Int) + 1 ∧ (i < 8 → 0 ≤ N)) → openR bs = none:=fun h => zji HU.out (by
       intro hk
       refine h ?_
       rw [HT.out.1,HT.out.2.1]
       exact ⟨hk.1.2.1 i hlt,fun h8 => hk.1.2.2.1 i h8⟩)
      have HNO:=veil hno
      have HW:=veil (H3.out.more hE)
      have hNr : -1 ≤ N ∧ N ≤ 9223372036854775807:=by
       have:=ofB_le h4.1
       rw [← hN] at this
       omega
      clear h1 h2 h3 h4 hT hL hN hO hall hno
      by_cases p2 : T = (i : Int) + 1
      ·
       have f1 : (T == (i : Int) + 1) = true:=by simp [p2]
       have HG:=veil p2
       subst p2
       go_upto_region 13 with (go_at_call 42; refine KO.out.mono ?_; rintro e w4 ⟨rfl,hE4⟩)
       have HE4:=veil (HT.out.2.2.2.2.trans hE4)
       have HO4:=veil (HT.out.2.2.1.below hE4 (Nat.le_refl _))
       have HW4:=veil (HW.out.more hE4)
       clear c0 c1 KO hE4 hE HW
       by_cases p1 : N < 0
       ·
        have hd : decide (N < 0) = true:=decide_eq_true p1
        by_cases p3 : i < 8
        ·
         have hd3 : decide ((i : Int) < 8) = true:=by simp; omega
         have HR:=veil (HNO.out (fun h => by have:=h.2 p3; omega))
         go_upto_region 14 with (fail)
         refine zff [⟨[],.fix (.agg RZ)⟩,⟨[],.fix (.agg DZ)⟩,⟨[],.fix (.agg Z8)⟩,⟨[0],.old g2 26 RZ fun _ => RZ⟩,⟨[1],.old g3 23 DZ fun _ => DZ⟩,⟨[2],.old g4 46 Z8 fun _ => Z8⟩,⟨[],.fix (Value.bool false)⟩] (by kernel_rfl) (by kernel_rfl) (by unfold apartL; simp [oldL,n23,n24,n34]) (by unfold apartL; simp [stoL]) ?_ ?_
         ·
          refine ⟨?_,?_,?_,?_,?_,?_,?_,trivial⟩
          ·
           intro vs W _ _
           with_reducible refine zas (ty:=26) (parts:=[]) (vs:=[]) ?_ ?_ ?_
           ·
            rfl
           ·
            rfl
           ·
            exact bldRZ
          ·
           intro vs W hC _
           with_reducible refine zce (ty:=23) (x:=.tmp 6) (g:=g6) (t:=23) (C:=DZ) (fr:=(0,0)) ?_ ?_ ?_ Tryz.underlying23 ?_ ?_
           ·
            rfl
           ·
            exact (zan (by kernel_rfl)).trans rfl
           ·
            exact (hC.at HW4.out.b6 fun h => by have h:=zay h; simp only [oldL,List.map_cons,List.map_nil,List.mem_cons,Option.some.injEq,List.not_mem_nil,reduceCtorEq,false_or,or_false] at h; omega)
           ·
            rfl
           ·
            exact iDZ
          ·
           intro vs W _ _
           with_reducible refine zas (ty:=46) (parts:=[]) (vs:=[]) ?_ ?_ ?_
           ·
            rfl
           ·
            rfl
           ·
            exact bldZ8
          ·
           exact ⟨rfl,HW4.out.b2,_,_,_,rfl,fun vs W hR => ⟨(zan (by kernel_rfl)).trans rfl,(ev_at (i:=0) (by kernel_rfl) rfl rfl).trans (hR 0 (.head _)),iRZ,rfl,zbm⟩⟩
          ·
           exact ⟨rfl,HW4.out.b3,_,_,_,rfl,fun vs W hR => ⟨(zan (by kernel_rfl)).trans rfl,(ev_at (i:=1) (by kernel_rfl) rfl rfl).trans (hR 1 (.head _)),iDZ,rfl,zcv⟩⟩
          ·
           exact ⟨rfl,HW4.out.b4,_,_,_,rfl,fun vs W hR => ⟨(zan (by kernel_rfl)).trans rfl,(ev_at (i:=2) (by kernel_rfl) rfl rfl).trans (hR 2 (.head _)),iZ8,rfl,zcu⟩⟩
          ·
           intro vs W _ _
           with_reducible refine zaq (x:=.const (Value.bool false)) ?_ ?_
           ·
            exact .inr rfl
           ·
            exact rfl
         ·
          intro vs W hI
          have e0 : vs 0 = .agg RZ:=hI.out.R 0 (by decide)
          have e1 : vs 1 = .agg DZ:=hI.out.R 1 (by decide)
          have e2 : vs 2 = .agg Z8:=hI.out.R 2 (by decide)
          have e6 : vs 6 = Value.bool false:=hI.out.R 6 (by decide)
          have o2 : W.heap[g2]? = some (.cells RZ 26 (0,0)):=hI.out.O (i:=3) (by decide) rfl
          have o3 : W.heap[g3]? = some (.cells DZ 23 (0,0)):=hI.out.O (i:=4) (by decide) rfl
          have o4 : W.heap[g4]? = some (.cells Z8 46 (0,0)):=hI.out.O (i:=5) (by decide) rfl
          have hE : Ext w W:=hI.out.chg.new HW4.out.ext fun z hz h => by have h:=zay h; simp only [oldL,List.map_cons,List.map_nil,List.mem_cons,Option.some.injEq,List.not_mem_nil,reduceCtorEq,false_or,or_false] at h; omega
          simp only [putF,e0,e1,e2,e6,Nat.zero_add,Nat.reduceAdd,Act.put,List.setIfInBounds_toArray,List.set_cons_zero,List.set_cons_succ]
          have HZ:=veil (And.intro o2 (And.intro o3 (And.intro o4 hE)))
          clear hI o2 o3 o4 hE e0 e1 e2 e6
          go_wp2
          exact bodyPost_ret (zat rfl _ _ g2 g3 g4 26 23 46 RZ DZ Z8 (0,0) (0,0) (0,0) _ _ _ rfl HZ.out.1 Tryz.underlying26 rfl iRZ rfl HZ.out.2.1 Tryz.underlying23 rfl iDZ rfl HZ.out.2.2.1 Tryz.underlying46 rfl iZ8) rfl ⟨_,_,_,_,rfl,HZ.out.2.2.2,.inl ⟨HR.out,rfl,rfl,z8_gc,rfl⟩⟩
        ·
         have hd3 : decide ((i : Int) < 8) = false:=by simp; omega
         go_wp2_with ((with_reducible refine zaa 76 ?_); refine zap _ rfl _ _ 72 rfl w3.heap.size 3 i8 (.int .i64 0) 8 Tryz.underlying72 HI.out.1 HI.out.2.1 HI.out.2.2.1 HI.out.2.2.2 rfl _ i _ rfl (HO4.out.alloc _) _ 1 1 rfl (fun _ => .int .i64 N) (zfu _ _ _) (fun _ => rfl) (by unfold maxLen; omega) (by omega) (Nat.le_trans (Below.size HE4.out) (by simp)) ?_; intro v6 w6 hO6 hg6 hat6; clear hat6)
         have hEa:=HE4.out.trans (Ext.alloc w4 (.cells #[.int .i64 N] 3))
         go_roundw
         case rel =>
          refine ⟨i + 1,by omega,by go_num,hO6.congr fun j hj => ?_,fun j hj => ?_,hEa.grown hg6 (Below.size hEa) fun j hj => (HO4.out.lt hj).1⟩
          ·
           by_cases e : j < i
           ·
            rw [if_pos e]
           ·
            rw [if_neg e,show j = i by omega,HT.out.2.1]
          ·
           by_cases e : j = i
           ·
            subst e
            refine ⟨HT.out.1.symm,fun h => ?_⟩
            rw [← HT.out.2.1]; omega
           ·
            exact HT.out.2.2.2.1 j (by omega)
         case measure => simp [intOf]; omega
       ·
        have hd : decide (N < 0) = false:=decide_eq_false p1
        go_wp2_with ((with_reducible refine zaa 76 ?_); refine zap _ rfl _ _ 72 rfl w3.heap.size 3 i8 (.int .i64 0) 8 Tryz.underlying72 HI.out.1 HI.out.2.1 HI.out.2.2.1 HI.out.2.2.2 rfl _ i _ rfl (HO4.out.alloc _) _ 1 1 rfl (fun _ => .int .i64 N) (zfu _ _ _) (fun _ => rfl) (by unfold maxLen; omega) (by omega) (Nat.le_trans (Below.size HE4.out) (by simp)) ?_; intro v6 w6 hO6 hg6 hat6; clear hat6)
        have hEa:=HE4.out.trans (Ext.alloc w4 (.cells #[.int .i64 N] 3))
        go_roundw
        case rel =>
         refine ⟨i + 1,by omega,by go_num,hO6.congr fun j hj => ?_,fun j hj => ?_,hEa.grown hg6 (Below.size hEa) fun j hj => (HO4.out.lt hj).1⟩
         ·
          by_cases e : j < i
          ·
           rw [if_pos e]
          ·
           rw [if_neg e,show j = i by omega,HT.out.2.1]
         ·
          by_cases e : j = i
          ·
           subst e
           refine ⟨HT.out.1.symm,fun h => ?_⟩
           rw [← HT.out.2.1]; omega
          ·
           exact HT.out.2.2.2.1 j (by omega)
        case measure => simp [intOf]; omega
      ·
       have f1 : (T == (i : Int) + 1) = false:=by simp [p2]
       have HR:=veil (HNO.out (fun h => p2 h.1))
       go_upto_region 11 with (fail)
       refine zff [⟨[],.fix (.agg RZ)⟩,⟨[],.fix (.agg DZ)⟩,⟨[],.fix (.agg Z8)⟩,⟨[0],.old g2 26 RZ fun _ => RZ⟩,⟨[1],.old g3 23 DZ fun _ => DZ⟩,⟨[2],.old g4 46 Z8 fun _ => Z8⟩,⟨[],.fix (Value.bool false)⟩] (by kernel_rfl) (by kernel_rfl) (by unfold apartL; simp [oldL,n23,n24,n34]) (by unfold apartL; simp [stoL]) ?_ ?_
       ·
        refine ⟨?_,?_,?_,?_,?_,?_,?_,trivial⟩
        ·
         intro vs W _ _
         with_reducible refine zas (ty:=26) (parts:=[]) (vs:=[]) ?_ ?_ ?_
         ·
          rfl
         ·
          rfl
         ·
          exact bldRZ
        ·
         intro vs W hC _
         with_reducible refine zce (ty:=23) (x:=.tmp 6) (g:=g6) (t:=23) (C:=DZ) (fr:=(0,0)) ?_ ?_ ?_ Tryz.underlying23 ?_ ?_
         ·
          rfl
         ·
          exact (zan (by kernel_rfl)).trans rfl
         ·
          exact (hC.at HW.out.b6 fun h => by have h:=zay h; simp only [oldL,List.map_cons,List.map_nil,List.mem_cons,Option.some.injEq,List.not_mem_nil,reduceCtorEq,false_or,or_false] at h; omega)
         ·
          rfl
         ·
          exact iDZ
        ·
         intro vs W _ _
         with_reducible refine zas (ty:=46) (parts:=[]) (vs:=[]) ?_ ?_ ?_
         ·
          rfl
         ·
          rfl
         ·
          exact bldZ8
        ·
         exact ⟨rfl,HW.out.b2,_,_,_,rfl,fun vs W hR => ⟨(zan (by kernel_rfl)).trans rfl,(ev_at (i:=0) (by kernel_rfl) rfl rfl).trans (hR 0 (.head _)),iRZ,rfl,zbm⟩⟩
        ·
         exact ⟨rfl,HW.out.b3,_,_,_,rfl,fun vs W hR => ⟨(zan (by kernel_rfl)).trans rfl,(ev_at (i:=1) (by kernel_rfl) rfl rfl).trans (hR 1 (.head _)),iDZ,rfl,zcv⟩⟩
        ·
         exact ⟨rfl,HW.out.b4,_,_,_,rfl,fun vs W hR => ⟨(zan (by kernel_rfl)).trans rfl,(ev_at (i:=2) (by kernel_rfl) rfl rfl).trans (hR 2 (.head _)),iZ8,rfl,zcu⟩⟩
        ·
         intro vs W _ _
         with_reducible refine zaq (x:=.const (Value.bool false)) ?_ ?_
         ·
          exact .inr rfl
         ·
          exact rfl
       ·
        intro vs W hI
        have e0 : vs 0 = .agg RZ:=hI.out.R 0 (by decide)
        have e1 : vs 1 = .agg DZ:=hI.out.R 1 (by decide)
        have e2 : vs 2 = .agg Z8:=hI.out.R 2 (by decide)
        have e6 : vs 6 = Value.bool false:=hI.out.R 6 (by decide)
        have o2 : W.heap[g2]? = some (.cells RZ 26 (0,0)):=hI.out.O (i:=3) (by decide) rfl
        have o3 : W.heap[g3]? = some (.cells DZ 23 (0,0)):=hI.out.O (i:=4) (by decide) rfl
        have o4 : W.heap[g4]? = some (.cells Z8 46 (0,0)):=hI.out.O (i:=5) (by decide) rfl
        have hE : Ext w W:=hI.out.chg.new HW.out.ext fun z hz h => by have h:=zay h; simp only [oldL,List.map_cons,List.map_nil,List.mem_cons,Option.some.injEq,List.not_mem_nil,reduceCtorEq,false_or,or_false] at h; omega
        simp only [putF,e0,e1,e2,e6,Nat.zero_add,Nat.reduceAdd,Act.put,List.setIfInBounds_toArray,List.set_cons_zero,List.set_cons_succ]
        have HZ:=veil (And.intro o2 (And.intro o3 (And.intro o4 hE)))
        clear hI o2 o3 o4 hE e0 e1 e2 e6
        go_wp2
        exact bodyPost_ret (zat rfl _ _ g2 g3 g4 26 23 46 RZ DZ Z8 (0,0) (0,0) (0,0) _ _ _ rfl HZ.out.1 Tryz.underlying26 rfl iRZ rfl HZ.out.2.1 Tryz.underlying23 rfl iDZ rfl HZ.out.2.2.1 Tryz.underlying46 rfl iZ8) rfl ⟨_,_,_,_,rfl,HZ.out.2.2.2,.inl ⟨HR.out,rfl,rfl,z8_gc,rfl⟩⟩
     ·
      obtain ⟨wq,hwq⟩ : ∃ W,W = wr:=⟨_,rfl⟩
      subst hwq
      have hd1 : decide ((i : Int) < 10) = false:=by simp; omega
      have hb:=HC.out.1
      obtain ⟨_,A8,k8,h82,h83,h84,_⟩:=HC.out.2.1 8 (by decide)
      obtain ⟨_,A9,k9,h92,h93,h94,h95⟩:=HC.out.2.1 9 (by decide)
      have c8 : wq.cell? ⟨b,o + 8 * 2 + 1,none⟩ = some (.slice A8 (bsF fs 8).length k8):=(hE.cell hb).trans h82
      have c9 : wq.cell? ⟨b,o + 9 * 2 + 1,none⟩ = some (.slice A9 (bsF fs 9).length k9):=(hE.cell hb).trans h92
      obtain ⟨L8,hL8⟩ : ∃ L,L = (bsF fs 8).length:=⟨_,rfl⟩
      obtain ⟨L9,hL9⟩ : ∃ L,L = (bsF fs 9).length:=⟨_,rfl⟩
      rw [← hL8] at c8
      rw [← hL9] at c9
      have HE:=veil (And.intro hE (And.intro hL8 (And.intro hL9 (And.intro (h84.ext hE) (And.intro (h94.ext hE) (And.intro h95 (And.intro h93 h83)))))))
      have HW:=veil (H3.out.more hE)
      have hi10 : i = 10:=by omega
      have HA:=veil (fun j (hj : j < 10) => hall j (by omega))
      obtain ⟨bn,cap,rfl,hnc,_,hp⟩:=hO.pre (by omega)
      have HP:=veil (fun j (hj : j < 10) => (show wq.cell? ⟨bn,j,none⟩ = some (.int .i64 (ofB (bsF fs j))) from hp.cell (by omega)))
      have i8k : (8 : Int) < ((10 : Nat) : Int):=by decide
      clear h82 h83 h84 h92 h93 h94 h95 hE hO hall hL8 hL9 hp hb
      by_cases p8 : L8 = 32
      ·
       have f1 : ((L8 : Int) == 32) = true:=by simp; omega
       have f2 : (L8 : Int) = 32:=by omega
       go_upto_region 18 with (fail)
       subst p8
       have j0 : (0 : Int) < (i : Int):=by omega
       have j1 : (1 : Int) < (i : Int):=by omega
       have j2 : (2 : Int) < (i : Int):=by omega
       have j3 : (3 : Int) < (i : Int):=by omega
       have j4 : (4 : Int) < (i : Int):=by omega
       have j5 : (5 : Int) < (i : Int):=by omega
       have j6 : (6 : Int) < (i : Int):=by omega
       have j7 : (7 : Int) < (i : Int):=by omega
       obtain ⟨R0,hR0⟩ : ∃ R : Rc,R = { rcOf fs with pv:=nilD }:=⟨_,rfl⟩
       obtain ⟨n0,hn0⟩ : ∃ n,n = ofB (bsF fs 0):=⟨_,rfl⟩
       obtain ⟨n1,hn1⟩ : ∃ n,n = ofB (bsF fs 1):=⟨_,rfl⟩
       obtain ⟨n2,hn2⟩ : ∃ n,n = ofB (bsF fs 2):=⟨_,rfl⟩
       obtain ⟨n3,hn3⟩ : ∃ n,n = ofB (bsF fs 3):=⟨_,rfl⟩
       obtain ⟨n4,hn4⟩ : ∃ n,n = ofB (bsF fs 4):=⟨_,rfl⟩
       obtain ⟨n5,hn5⟩ : ∃ n,n = ofB (bsF fs 5):=⟨_,rfl⟩
       obtain ⟨n6,hn6⟩ : ∃ n,n = ofB (bsF fs 6):=⟨_,rfl⟩
       obtain ⟨n7,hn7⟩ : ∃ n,n = ofB (bsF fs 7):=⟨_,rfl⟩
       have d0:=HP.out 0 (by decide)
       have d1:=HP.out 1 (by decide)
       have d2:=HP.out 2 (by decide)
       have d3:=HP.out 3 (by decide)
       have d4:=HP.out 4 (by decide)
       have d5:=HP.out 5 (by decide)
       have d6:=HP.out 6 (by decide)
       have d7:=HP.out 7 (by decide)
       rw [← hn0] at d0
       rw [← hn1] at d1
       rw [← hn2] at d2
       rw [← hn3] at d3
       rw [← hn4] at d4
       rw [← hn5] at d5
       rw [← hn6] at d6
       rw [← hn7] at d7
       have hRR : R0 = ⟨n0,n1,n2,n3,n4,n5,n6,n7,nilD,bsF fs 9⟩:=by rw [hR0,hn0,hn1,hn2,hn3,hn4,hn5,hn6,hn7]; rfl
       have HR0:=veil (And.intro hR0 hRR)
       clear hn0 hn1 hn2 hn3 hn4 hn5 hn6 hn7 hR0
       refine zem 30 [(true,[0,1,2,3,4,5,6,7,8,9,10,11,12,13,14,15,16,17,18,19,20,21,22,23,24,25,26,27,28]),(false,[29]),(false,[30])] (by kernel_rfl) (by kernel_rfl) fun Q' hQ' => ?_
       refine' zca (A:=_) _ rfl (by kernel_rfl) ?_ ?_
       rotate_left
       ·
        intro D hD hN
        have e0:=hD.cell d0
        have e1:=hD.cell d1
        have e2:=hD.cell d2
        have e3:=hD.cell d3
        have e4:=hD.cell d4
        have e5:=hD.cell d5
        have e6:=hD.cell d6
        have e7:=hD.cell d7
        have e9:=hD.cell c9
        simp only [pickI,consO,List.getElem?_cons_zero,List.getElem?_cons_succ]
        iterate 28 (go_big_quiet_step (fail))
        go_big_quiet_step (fail)
        exact zcx
       refine sched_alloc (C:=RZ) (t:=26) _ rfl rfl rfl (fun _ => rfl) ?_
       intro g15 w4 hg15 hb15 hE4
       simp only [aP,lA,lZ,lS]
       obtain ⟨X0,hX0⟩ : ∃ X,X = rcC R0 (.slice A9 L9 k9):=⟨_,rfl⟩
       have hX41 : X0.size = 41:=by rw [hX0]; rfl
       have hXi : (Tryz.prog.info? 26).map (·.size) = some X0.size:=by rw [hX0]; exact iRc _ _
       have hXo : X0.all (·.oneCell') = true:=by rw [hX0]; exact zjn _
       have hXl:=hX0
       rw [hRR] at hXl
       refine sched_store (cells:=X0) _ rfl rfl rfl rfl (by decide) rfl (by rw [hXl]; rfl) hb15 hXi (by rw [hX41]; rfl) hXo ?_
       intro w5 hB5 hb5
       refine zdr hQ' fun w6 hE6 => ?_
       have hE45 : Ext wq w5:=Below.trans hE4 (hB5.new hg15 (Below.size hE4))
       have hE46 : Ext wq w6:=hE45.trans hE6
       have hR0 : w6.rowIs g15 26 41 (cpF X0 (bsF fs 8) 0):=⟨X0,hE6.block hb5,hX41,fun j hj => cp_zero (by omega)⟩
       have H6:=veil (And.intro hE46 (And.intro hR0 (And.intro hg15 hX0)))
       clear hE4 hE45 hB5 hE6 hb5 hb15 hE46 hR0 hX0 hXl hX41 hXi hXo hRR d0 d1 d2 d3 d4 d5 d6 d7
       go_upto_region 20 with (fail)
       go_loopw [16] (fun u wr => ∃ k : Nat,k ≤ 32 ∧ u = .int .i64 (k : Int) ∧ wr.rowIs g15 26 41 (cpF X0 (bsF fs 8) k) ∧ Ext wq wr)
        (fun u _ => 32 - (intOf u).toNat)
       case atStart => exact ⟨0,by omega,rfl,H6.out.2.1,H6.out.1⟩
       case round =>
        obtain ⟨k,hk,rfl,hR,hE⟩:=hrel
        by_cases hlk : k < 32
        ·
         have hd2 : decide ((k : Int) < 32) = true:=by simp; omega
         have hkk : (k : Int) < 32:=by omega
         obtain ⟨b8,o8,hA8,hb8,x8⟩:=HE.out.2.2.2.1.cell (j:=k) (by have:=HE.out.2.1; omega)
         subst hA8
         have e8:=(hE.cell hb8).trans x8
         have cc:=(hE.cell (World.block_lt_of_cell? wq ⟨b,o + 8 * 2 + 1,none⟩ c8)).trans c8
         have c1:=hR.cell (i:=8 + k) (by omega)
         have fz:=hR.frozen (8 + k)
         have HS:=veil (And.intro hR hE)
         clear hR hE x8
         go_wp2
         go_roundw
         case rel =>
          refine ⟨k + 1,by omega,by go_num,(HS.out.1.set (8 + k) _).congr fun j _ => cp_set j,zae HS.out.2 H6.out.2.2.1 _⟩
         case measure => simp [intOf]; omega
        ·
         obtain ⟨wp,hwp⟩ : ∃ W,W = wr:=⟨_,rfl⟩
         subst hwp
         obtain rfl : k = 32:=by omega
         have hd2 : decide (((32 : Nat) : Int) < 32) = false:=by decide
         obtain ⟨X,hX⟩ : ∃ X,X = rcC (rcOf fs) (.slice A9 L9 k9):=⟨_,rfl⟩
         have h15:=blkOf hR
         rw [H6.out.2.2.2,cp_done R0 (rcOf fs) (.slice A9 L9 k9) (bsF fs 8) HR0.out.1 rfl,← hX] at h15
         have hXi : (Tryz.prog.info? 26).map (·.size) = some X.size:=by rw [hX]; exact iRc _ _
         have hXo : X.all (·.oneCell') = true:=by rw [hX]; exact zjn _
         have hXz : RZ.size = X.size:=by rw [hX]; rfl
         have hB9:=HE.out.2.2.2.2.1.ext hE
         have hW9 : WfC (rcOf fs):=⟨HE.out.2.1.symm,HE.out.2.2.2.1.1,hB9.1⟩
         have hRv : Rv17 wp X (rcOf fs):=⟨hW9,A9,k9,by rw [hX,HE.out.2.2.1]; rfl,HE.out.2.2.2.2.2.2.1,hB9⟩
         have KM:=veil (rmay17_calls X (rcOf fs) wp hRv (show (bsF fs 9).length ≤ 1000000000 by have:=H65.out 9 (by have:=HC.out.2.2.2.1; omega); omega))
         have HX:=veil (And.intro h15 (And.intro hXi (And.intro hXo (And.intro hXz (And.intro hX hW9)))))
         have H7:=veil (HW.out.more hE)
         have hq:=fun (g : Nat) (o : Obj) (h : wq.heap[g]? = some o) => (Array.getElem?_eq_some_iff.mp h).1
         have N15:=veil (And.intro (hq _ _ HW.out.b2) (And.intro (hq _ _ HW.out.b3) (And.intro (hq _ _ HW.out.b4) (And.intro H6.out.2.2.1 N8.out))))
         clear hq
         have h8:=hE.block (HE.out.1.block HC.out.2.2.2.2.1)
         have hB1:=HC.out.2.2.2.2.2.1.ext (HE.out.1.trans hE)
         have H8:=veil (And.intro h8 (And.intro hB1 hB9))
         clear hR h15 hXi hXo hXz hB9 hW9 hRv hX h8 hB1 hE H6 c8 c9
         go_upto_region 24 with (first
          | ((with_reducible refine zaa 129 ?_); refine wpList_load_row rfl 26 _ rfl g15 rfl 26 X (0,0) _ HX.out.1 Tryz.underlying26 rfl HX.out.2.1 ?_)
          | (go_at_call 8; refine KM.out.mono ?_; rintro e w7 ⟨rfl,hE7⟩))
         have H9:=veil (H7.out.more hE7)
         have HY:=veil (And.intro (hE7.block HX.out.1) (And.intro (hE7.block H8.out.1) (And.intro (H8.out.2.1.ext hE7) (H8.out.2.2.ext hE7))))
         clear hE7 H7 H8 KM
         cases hm : mayC (rcOf fs) with
         | false =>
          have HR:=veil (show openR bs = none from zji HU.out fun h => by rw [hm] at h; cases h.2)
          clear hm
          go_upto_region 25 with (fail)
          refine zff [⟨[],.fix (.agg RZ)⟩,⟨[],.fix (.agg DZ)⟩,⟨[],.fix (.agg Z8)⟩,⟨[0],.old g2 26 RZ fun _ => RZ⟩,⟨[1],.old g3 23 DZ fun _ => DZ⟩,⟨[2],.old g4 46 Z8 fun _ => Z8⟩,⟨[],.fix (Value.bool false)⟩] (by kernel_rfl) (by kernel_rfl) (by unfold apartL; simp [oldL,n23,n24,n34]) (by unfold apartL; simp [stoL]) ?_ ?_
          ·
           refine ⟨?_,?_,?_,?_,?_,?_,?_,trivial⟩
           ·
            intro vs W _ _
            with_reducible refine zas (ty:=26) (parts:=[]) (vs:=[]) ?_ ?_ ?_
            ·
             rfl
            ·
             rfl
            ·
             exact bldRZ
           ·
            intro vs W hC _
            with_reducible refine zce (ty:=23) (x:=.tmp 6) (g:=g6) (t:=23) (C:=DZ) (fr:=(0,0)) ?_ ?_ ?_ Tryz.underlying23 ?_ ?_
            ·
             rfl
            ·
             exact (zan (by kernel_rfl)).trans rfl
            ·
             exact (hC.at H9.out.b6 fun h => by have h:=zay h; simp only [oldL,List.map_cons,List.map_nil,List.mem_cons,Option.some.injEq,List.not_mem_nil,reduceCtorEq,false_or,or_false] at h; omega)
            ·
             rfl
            ·
             exact iDZ
           ·
            intro vs W _ _
            with_reducible refine zas (ty:=46) (parts:=[]) (vs:=[]) ?_ ?_ ?_
            ·
             rfl
            ·
             rfl
            ·
             exact bldZ8
           ·
            exact ⟨rfl,H9.out.b2,_,_,_,rfl,fun vs W hR => ⟨(zan (by kernel_rfl)).trans rfl,(ev_at (i:=0) (by kernel_rfl) rfl rfl).trans (hR 0 (.head _)),iRZ,rfl,zbm⟩⟩
           ·
            exact ⟨rfl,H9.out.b3,_,_,_,rfl,fun vs W hR => ⟨(zan (by kernel_rfl)).trans rfl,(ev_at (i:=1) (by kernel_rfl) rfl rfl).trans (hR 1 (.head _)),iDZ,rfl,zcv⟩⟩
           ·
            exact ⟨rfl,H9.out.b4,_,_,_,rfl,fun vs W hR => ⟨(zan (by kernel_rfl)).trans rfl,(ev_at (i:=2) (by kernel_rfl) rfl rfl).trans (hR 2 (.head _)),iZ8,rfl,zcu⟩⟩
           ·
            intro vs W _ _
            with_reducible refine zaq (x:=.const (Value.bool false)) ?_ ?_
            ·
             exact .inr rfl
            ·
             exact rfl
          ·
           intro vs W hI
           have e0 : vs 0 = .agg RZ:=hI.out.R 0 (by decide)
           have e1 : vs 1 = .agg DZ:=hI.out.R 1 (by decide)
           have e2 : vs 2 = .agg Z8:=hI.out.R 2 (by decide)
           have e6 : vs 6 = Value.bool false:=hI.out.R 6 (by decide)
           have o2 : W.heap[g2]? = some (.cells RZ 26 (0,0)):=hI.out.O (i:=3) (by decide) rfl
           have o3 : W.heap[g3]? = some (.cells DZ 23 (0,0)):=hI.out.O (i:=4) (by decide) rfl
           have o4 : W.heap[g4]? = some (.cells Z8 46 (0,0)):=hI.out.O (i:=5) (by decide) rfl
           have hE : Ext w W:=hI.out.chg.new H9.out.ext fun z hz h => by have h:=zay h; simp only [oldL,List.map_cons,List.map_nil,List.mem_cons,Option.some.injEq,List.not_mem_nil,reduceCtorEq,false_or,or_false] at h; omega
           simp only [putF,e0,e1,e2,e6,Nat.zero_add,Nat.reduceAdd,Act.put,List.setIfInBounds_toArray,List.set_cons_zero,List.set_cons_succ]
           have HZ:=veil (And.intro o2 (And.intro o3 (And.intro o4 hE)))
           clear hI o2 o3 o4 hE e0 e1 e2 e6
           go_wp2
           exact bodyPost_ret (zat rfl _ _ g2 g3 g4 26 23 46 RZ DZ Z8 (0,0) (0,0) (0,0) _ _ _ rfl HZ.out.1 Tryz.underlying26 rfl iRZ rfl HZ.out.2.1 Tryz.underlying23 rfl iDZ rfl HZ.out.2.2.1 Tryz.underlying46 rfl iZ8) rfl ⟨_,_,_,_,rfl,HZ.out.2.2.2,.inl ⟨HR.out,rfl,rfl,z8_gc,rfl⟩⟩
         | true =>
          have hten : tenOk fs:=⟨HC.out.2.2.2.1,fun j hj => (HA.out j hj).1,fun j hj => (HA.out j (by omega)).2 hj,HE.out.2.1.symm⟩
          have hu1 : unB body = some (rcOf fs):=by rw [HUN.out,if_pos ⟨hten,hm⟩]
          have hop : openR bs = some (rcOf fs,body,r,s):=by rw [HU.out,if_pos ⟨hten,hm⟩]; rfl
          have hh:=head_un HBB.out.1 hu1
          have NO:=veil (fun (b : Nat) (o : Nat) (e : A1 = some ⟨b,o,none⟩) => And.intro (bs_not HY.out.2.2.1 hh.1 hh.2 H9.out.b2 rz_no1 b o e) (And.intro (bs_not HY.out.2.2.1 hh.1 hh.2 H9.out.b3 dz_no1 b o e) (bs_not HY.out.2.2.1 hh.1 hh.2 H9.out.b4 (fun j => z8_u8 j 1) b o e)))
          have KS:=veil (fun W (h : Bs W A1 body) => R.sum A1 body.length c1 body W rfl (by have:=HBB.out.2.2; omega) h)
          have HOP:=veil hop
          have hlt4 : g4 < w2.heap.size:=by have:=HO.out; have:=HC.out.2.2.2.2.2.2; omega
          clear hten hu1 hop hh hm
          go_upto_region 26 with (fail)
          refine zff [⟨[],.fix (.agg X)⟩,⟨[],.fix (.slice A1 body.length c1)⟩,⟨[1],.fix (dgv (L.dg body))⟩,⟨[],.fix (.agg (gc r s))⟩,⟨[0],.old g2 26 RZ fun _ => X⟩,⟨[2],.old g3 23 DZ fun _ => dgc (L.dg body)⟩,⟨[3],.old g4 46 Z8 fun _ => gc r s⟩,⟨[],.fix (Value.bool true)⟩] (by kernel_rfl) (by kernel_rfl) (by unfold apartL; simp [oldL,n23,n24,n34]) (by unfold apartL; simp [stoL]) ?_ ?_
          ·
           refine ⟨?_,?_,?_,?_,?_,?_,?_,?_,trivial⟩
           ·
            intro vs W hC _
            with_reducible refine zce (ty:=26) (x:=.tmp 15) (g:=g15) (t:=26) (C:=X) (fr:=(0,0)) ?_ ?_ ?_ Tryz.underlying26 ?_ ?_
            ·
             rfl
            ·
             exact (zan (by kernel_rfl)).trans rfl
            ·
             exact (hC.at HY.out.1 fun h => by have h:=zay h; simp only [oldL,List.map_cons,List.map_nil,List.mem_cons,Option.some.injEq,List.not_mem_nil,reduceCtorEq,false_or,or_false] at h; have:=N15.out; omega)
            ·
             rfl
            ·
             exact HX.out.2.1
           ·
            intro vs W _ _
            with_reducible refine zaq (x:=.tmp 7) ?_ ?_
            ·
             exact .inl rfl
            ·
             exact (zan (by kernel_rfl)).trans rfl
           ·
            intro vs W hC hR
            with_reducible refine zbc (xs:=[.tmp 137]) (ts:=#[24]) (args:=[.slice A1 body.length c1]) ?_ (map1 ?_) (fun W => zaf Tryz.func36 rfl rfl _ W) fun W' hW => ?_
            ·
             rfl
            ·
             exact (ev_at (i:=1) (by kernel_rfl) rfl rfl).trans (hR 1 (.head _))
            ·
             exact KS.out W' ((bs_chg (fun b o e h => by have h:=zay h; simp only [oldL,List.map_cons,List.map_nil,List.mem_cons,Option.some.injEq,List.not_mem_nil,reduceCtorEq,false_or,or_false] at h; have:=NO.out b o e; omega) HY.out.2.2.1 hC).ext hW)
           ·
            intro vs W hC _
            with_reducible refine zce (ty:=46) (x:=.tmp 8) (g:=g8) (t:=46) (C:=(gc r s)) (fr:=(0,0)) ?_ ?_ ?_ Tryz.underlying46 ?_ ?_
            ·
             rfl
            ·
             exact (zan (by kernel_rfl)).trans rfl
            ·
             exact (hC.at HY.out.2.1 fun h => by have h:=zay h; simp only [oldL,List.map_cons,List.map_nil,List.mem_cons,Option.some.injEq,List.not_mem_nil,reduceCtorEq,false_or,or_false] at h; have:=N15.out; omega)
            ·
             rfl
            ·
             exact (iSg r s)
           ·
            exact ⟨rfl,H9.out.b2,_,_,_,rfl,fun vs W hR => ⟨(zan (by kernel_rfl)).trans rfl,(ev_at (i:=0) (by kernel_rfl) rfl rfl).trans (hR 0 (.head _)),HX.out.2.1,HX.out.2.2.2.1,HX.out.2.2.1⟩⟩
           ·
            exact ⟨rfl,H9.out.b3,_,_,_,rfl,fun vs W hR => ⟨(zan (by kernel_rfl)).trans rfl,(ev_at (i:=2) (by kernel_rfl) rfl rfl).trans (hR 2 (.head _)),(iDg _),(zai 32 _).symm,(zbn fun _ _ => rfl)⟩⟩
           ·
            exact ⟨rfl,H9.out.b4,_,_,_,rfl,fun vs W hR => ⟨(zan (by kernel_rfl)).trans rfl,(ev_at (i:=3) (by kernel_rfl) rfl rfl).trans (hR 3 (.head _)),(iSg r s),rfl,(zda r s)⟩⟩
           ·
            intro vs W _ _
            with_reducible refine zaq (x:=.const (Value.bool true)) ?_ ?_
            ·
             exact .inr rfl
            ·
             exact rfl
          ·
           intro vs W hI
           have e0 : vs 0 = .agg X:=hI.out.R 0 (by decide)
           have e1 : vs 1 = .slice A1 body.length c1:=hI.out.R 1 (by decide)
           have e2 : vs 2 = dgv (L.dg body):=hI.out.R 2 (by decide)
           have e3 : vs 3 = .agg (gc r s):=hI.out.R 3 (by decide)
           have e7 : vs 7 = Value.bool true:=hI.out.R 7 (by decide)
           have o2 : W.heap[g2]? = some (.cells X 26 (0,0)):=hI.out.O (i:=4) (by decide) rfl
           have o3 : W.heap[g3]? = some (.cells (dgc (L.dg body)) 23 (0,0)):=hI.out.O (i:=5) (by decide) rfl
           have o4 : W.heap[g4]? = some (.cells (gc r s) 46 (0,0)):=hI.out.O (i:=6) (by decide) rfl
           have hE : Ext w W:=hI.out.chg.new H9.out.ext fun z hz h => by have h:=zay h; simp only [oldL,List.map_cons,List.map_nil,List.mem_cons,Option.some.injEq,List.not_mem_nil,reduceCtorEq,false_or,or_false] at h; omega
           have hB9 : Bs W A9 (bsF fs 9):=NewB.chg HE.out.2.2.2.2.2.1 HY.out.2.2.2 hI.out.chg fun z h => by have h:=zay h; simp only [oldL,List.map_cons,List.map_nil,List.mem_cons,Option.some.injEq,List.not_mem_nil,reduceCtorEq,false_or,or_false] at h; omega
           have hRv : Rv17 W X (rcOf fs):=⟨HX.out.2.2.2.2.2,A9,k9,by rw [HX.out.2.2.2.2.1,HE.out.2.2.1]; rfl,HE.out.2.2.2.2.2.2.1,hB9⟩
           simp only [putF,e0,e1,e2,e3,e7,Nat.zero_add,Nat.reduceAdd,Act.put,List.setIfInBounds_toArray,List.set_cons_zero,List.set_cons_succ]
           have HZ:=veil (And.intro o2 (And.intro o3 (And.intro o4 (And.intro hE hRv))))
           clear hI o2 o3 o4 hE hB9 hRv e0 e1 e2 e3 e7
           go_wp2
           exact bodyPost_ret (zat rfl _ _ g2 g3 g4 26 23 46 X (dgc (L.dg body)) (gc r s) (0,0) (0,0) (0,0) _ _ _ rfl HZ.out.1 Tryz.underlying26 rfl HX.out.2.1 rfl HZ.out.2.1 Tryz.underlying23 rfl (iDg _) rfl HZ.out.2.2.1 Tryz.underlying46 rfl (iSg r s)) rfl ⟨_,_,_,_,rfl,HZ.out.2.2.2.1,.inr ⟨_,_,_,_,HOP.out,HZ.out.2.2.2.2,rfl,rfl,rfl⟩⟩
      ·
       have f1 : ((L8 : Int) == 32) = false:=by simp; omega
       have f2 : ¬ ((L8 : Int) = 32):=by omega
       have HR:=veil (show openR bs = none from zji HU.out fun h => p8 (HE.out.2.1.trans h.1.2.2.2))
       go_upto_region 17 with (fail)
       refine zff [⟨[],.fix (.agg RZ)⟩,⟨[],.fix (.agg DZ)⟩,⟨[],.fix (.agg Z8)⟩,⟨[0],.old g2 26 RZ fun _ => RZ⟩,⟨[1],.old g3 23 DZ fun _ => DZ⟩,⟨[2],.old g4 46 Z8 fun _ => Z8⟩,⟨[],.fix (Value.bool false)⟩] (by kernel_rfl) (by kernel_rfl) (by unfold apartL; simp [oldL,n23,n24,n34]) (by unfold apartL; simp [stoL]) ?_ ?_
       ·
        refine ⟨?_,?_,?_,?_,?_,?_,?_,trivial⟩
        ·
         intro vs W _ _
         with_reducible refine zas (ty:=26) (parts:=[]) (vs:=[]) ?_ ?_ ?_
         ·
          rfl
         ·
          rfl
         ·
          exact bldRZ
        ·
         intro vs W hC _
         with_reducible refine zce (ty:=23) (x:=.tmp 6) (g:=g6) (t:=23) (C:=DZ) (fr:=(0,0)) ?_ ?_ ?_ Tryz.underlying23 ?_ ?_
         ·
          rfl
         ·
          exact (zan (by kernel_rfl)).trans rfl
         ·
          exact (hC.at HW.out.b6 fun h => by have h:=zay h; simp only [oldL,List.map_cons,List.map_nil,List.mem_cons,Option.some.injEq,List.not_mem_nil,reduceCtorEq,false_or,or_false] at h; omega)
         ·
          rfl
         ·
          exact iDZ
        ·
         intro vs W _ _
         with_reducible refine zas (ty:=46) (parts:=[]) (vs:=[]) ?_ ?_ ?_
         ·
          rfl
         ·
          rfl
         ·
          exact bldZ8
        ·
         exact ⟨rfl,HW.out.b2,_,_,_,rfl,fun vs W hR => ⟨(zan (by kernel_rfl)).trans rfl,(ev_at (i:=0) (by kernel_rfl) rfl rfl).trans (hR 0 (.head _)),iRZ,rfl,zbm⟩⟩
        ·
         exact ⟨rfl,HW.out.b3,_,_,_,rfl,fun vs W hR => ⟨(zan (by kernel_rfl)).trans rfl,(ev_at (i:=1) (by kernel_rfl) rfl rfl).trans (hR 1 (.head _)),iDZ,rfl,zcv⟩⟩
        ·
         exact ⟨rfl,HW.out.b4,_,_,_,rfl,fun vs W hR => ⟨(zan (by kernel_rfl)).trans rfl,(ev_at (i:=2) (by kernel_rfl) rfl rfl).trans (hR 2 (.head _)),iZ8,rfl,zcu⟩⟩
        ·
         intro vs W _ _
         with_reducible refine zaq (x:=.const (Value.bool false)) ?_ ?_
         ·
          exact .inr rfl
         ·
          exact rfl
       ·
        intro vs W hI
        have e0 : vs 0 = .agg RZ:=hI.out.R 0 (by decide)
        have e1 : vs 1 = .agg DZ:=hI.out.R 1 (by decide)
        have e2 : vs 2 = .agg Z8:=hI.out.R 2 (by decide)
        have e6 : vs 6 = Value.bool false:=hI.out.R 6 (by decide)
        have o2 : W.heap[g2]? = some (.cells RZ 26 (0,0)):=hI.out.O (i:=3) (by decide) rfl
        have o3 : W.heap[g3]? = some (.cells DZ 23 (0,0)):=hI.out.O (i:=4) (by decide) rfl
        have o4 : W.heap[g4]? = some (.cells Z8 46 (0,0)):=hI.out.O (i:=5) (by decide) rfl
        have hE : Ext w W:=hI.out.chg.new HW.out.ext fun z hz h => by have h:=zay h; simp only [oldL,List.map_cons,List.map_nil,List.mem_cons,Option.some.injEq,List.not_mem_nil,reduceCtorEq,false_or,or_false] at h; omega
        simp only [putF,e0,e1,e2,e6,Nat.zero_add,Nat.reduceAdd,Act.put,List.setIfInBounds_toArray,List.set_cons_zero,List.set_cons_succ]
        have HZ:=veil (And.intro o2 (And.intro o3 (And.intro o4 hE)))
        clear hI o2 o3 o4 hE e0 e1 e2 e6
        go_wp2
        exact bodyPost_ret (zat rfl _ _ g2 g3 g4 26 23 46 RZ DZ Z8 (0,0) (0,0) (0,0) _ _ _ rfl HZ.out.1 Tryz.underlying26 rfl iRZ rfl HZ.out.2.1 Tryz.underlying23 rfl iDZ rfl HZ.out.2.2.1 Tryz.underlying46 rfl iZ8) rfl ⟨_,_,_,_,rfl,HZ.out.2.2.2,.inl ⟨HR.out,rfl,rfl,z8_gc,rfl⟩⟩
   ·
    have HQ:=veil (show openR bs = none from zji HU.out fun h => hq10 (hq.trans h.1.1))
    have f1 : ((q : Int) == 10) = false:=by simp; omega
    have f2 : ¬ ((q : Int) = 10):=by omega
    clear hE3 hn hp HY KN HR hU h8 hB1 hsz hBF hq hx H2 HU hcl
    go_upto_region 5 with (fail)
    refine zff [⟨[],.fix (.agg RZ)⟩,⟨[],.fix (.agg DZ)⟩,⟨[],.fix (.agg Z8)⟩,⟨[0],.old g2 26 RZ fun _ => RZ⟩,⟨[1],.old g3 23 DZ fun _ => DZ⟩,⟨[2],.old g4 46 Z8 fun _ => Z8⟩,⟨[],.fix (Value.bool false)⟩] (by kernel_rfl) (by kernel_rfl) (by unfold apartL; simp [oldL,n23,n24,n34]) (by unfold apartL; simp [stoL]) ?_ ?_
    ·
     refine ⟨?_,?_,?_,?_,?_,?_,?_,trivial⟩
     ·
      intro vs W _ _
      with_reducible refine zas (ty:=26) (parts:=[]) (vs:=[]) ?_ ?_ ?_
      ·
       rfl
      ·
       rfl
      ·
       exact bldRZ
     ·
      intro vs W hC _
      with_reducible refine zce (ty:=23) (x:=.tmp 6) (g:=g6) (t:=23) (C:=DZ) (fr:=(0,0)) ?_ ?_ ?_ Tryz.underlying23 ?_ ?_
      ·
       rfl
      ·
       exact (zan (by kernel_rfl)).trans rfl
      ·
       exact (hC.at H3.out.b6 fun h => by have h:=zay h; simp only [oldL,List.map_cons,List.map_nil,List.mem_cons,Option.some.injEq,List.not_mem_nil,reduceCtorEq,false_or,or_false] at h; omega)
      ·
       rfl
      ·
       exact iDZ
     ·
      intro vs W _ _
      with_reducible refine zas (ty:=46) (parts:=[]) (vs:=[]) ?_ ?_ ?_
      ·
       rfl
      ·
       rfl
      ·
       exact bldZ8
     ·
      exact ⟨rfl,H3.out.b2,_,_,_,rfl,fun vs W hR => ⟨(zan (by kernel_rfl)).trans rfl,(ev_at (i:=0) (by kernel_rfl) rfl rfl).trans (hR 0 (.head _)),iRZ,rfl,zbm⟩⟩
     ·
      exact ⟨rfl,H3.out.b3,_,_,_,rfl,fun vs W hR => ⟨(zan (by kernel_rfl)).trans rfl,(ev_at (i:=1) (by kernel_rfl) rfl rfl).trans (hR 1 (.head _)),iDZ,rfl,zcv⟩⟩
     ·
      exact ⟨rfl,H3.out.b4,_,_,_,rfl,fun vs W hR => ⟨(zan (by kernel_rfl)).trans rfl,(ev_at (i:=2) (by kernel_rfl) rfl rfl).trans (hR 2 (.head _)),iZ8,rfl,zcu⟩⟩
     ·
      intro vs W _ _
      with_reducible refine zaq (x:=.const (Value.bool false)) ?_ ?_
      ·
       exact .inr rfl
      ·
       exact rfl
    ·
     intro vs W hI
     have e0 : vs 0 = .agg RZ:=hI.out.R 0 (by decide)
     have e1 : vs 1 = .agg DZ:=hI.out.R 1 (by decide)
     have e2 : vs 2 = .agg Z8:=hI.out.R 2 (by decide)
     have e6 : vs 6 = Value.bool false:=hI.out.R 6 (by decide)
     have o2 : W.heap[g2]? = some (.cells RZ 26 (0,0)):=hI.out.O (i:=3) (by decide) rfl
     have o3 : W.heap[g3]? = some (.cells DZ 23 (0,0)):=hI.out.O (i:=4) (by decide) rfl
     have o4 : W.heap[g4]? = some (.cells Z8 46 (0,0)):=hI.out.O (i:=5) (by decide) rfl
     have hE : Ext w W:=hI.out.chg.new H3.out.ext fun z hz h => by have h:=zay h; simp only [oldL,List.map_cons,List.map_nil,List.mem_cons,Option.some.injEq,List.not_mem_nil,reduceCtorEq,false_or,or_false] at h; omega
     simp only [putF,e0,e1,e2,e6,Nat.zero_add,Nat.reduceAdd,Act.put,List.setIfInBounds_toArray,List.set_cons_zero,List.set_cons_succ]
     have HZ:=veil (And.intro o2 (And.intro o3 (And.intro o4 hE)))
     clear hI o2 o3 o4 hE e0 e1 e2 e6
     go_wp2
     exact bodyPost_ret (zat rfl _ _ g2 g3 g4 26 23 46 RZ DZ Z8 (0,0) (0,0) (0,0) _ _ _ rfl HZ.out.1 Tryz.underlying26 rfl iRZ rfl HZ.out.2.1 Tryz.underlying23 rfl iDZ rfl HZ.out.2.2.1 Tryz.underlying46 rfl iZ8) rfl ⟨_,_,_,_,rfl,HZ.out.2.2.2,.inl ⟨HQ.out,rfl,rfl,z8_gc,rfl⟩⟩
abbrev Tv:=Value × List Nat
def tvC (x : Tv) : List Value:=[x.1]
def TvAt (w : World) (x : Tv) : Prop:=∃ A c,x.1 = .slice A x.2.length c ∧ x.2.length ≤ c ∧ Bs w A x.2
theorem TvAt.ext {w w' : World} {x : Tv} (h : TvAt w x) (k : Ext w w') : TvAt w' x:=by
 obtain ⟨A,c,e,hc,hb⟩:=h
 exact ⟨A,c,e,hc,hb.ext k⟩
def Tx (w : World) (v : Value) (l : List Tv) : Prop:=Ls 1 tvC w v l ∧ ∀ x ∈ l,TvAt w x
theorem Tx.ext {w w' : World} {v : Value} {l : List Tv} (h : Tx w v l) (k : Ext w w') : Tx w' v l:=⟨h.1.ext k,fun x hx => (h.2 x hx).ext k⟩
def txs (l : List Tv) : List (List Nat):=l.map (·.2)
theorem txs_len (l : List Tv) : (txs l).length = l.length:=List.length_map ..
def noTv : Tv:=(.slice none 0 0,[])
theorem tv_get {l : List Tv} {i : Nat} (h : i < l.length) : l[i]? = some (l.getD i noTv):=by rw [List.getD_eq_getElem?_getD,List.getElem?_eq_getElem h]; rfl
theorem txt_cell {w w' : World} {b o i : Nat} {l : List Tv} (hE : Ext w w') (hb : b < w.heap.size) (h : ∀ i x,l[i]? = some x → w.rangeAt b (o + i * 1) (tvC x)) (hi : i < l.length) : w'.cell? ⟨b,o + i,none⟩ = some (l.getD i noTv).1:=by
 have:=range_ext hE hb (h i _ (tv_get hi)) 0 _ rfl
 simpa using this
theorem ziw : Tryz.prog.cellsOf 46 = 8:=by kernel_rfl
theorem lits_sig9 (X Y : Nat) (D : Nat) : Tryz.prog.keyLits (D + 3) 46 (gc X Y).toList = some [.int .u64 (wd X 0),.int .u64 (wd X 1),.int .u64 (wd X 2),.int .u64 (wd X 3),.int .u64 (wd Y 0),.int .u64 (wd Y 1),.int .u64 (wd Y 2),.int .u64 (wd Y 3)]:=by
 unfold Program.keyLits gc
 simp [Tryz.underlying46,ziw,zfv,lits_num]
theorem eqG9 (X Y : Nat) (w : World) : (binOp .eql 46 (gv X Y) (gv X Y)).run Tryz.prog w = .ok (.bool true) w:=by
 unfold gv
 rw [run_eql_struct]
 obtain ⟨r,hr,hiff⟩:=run_equalIn_deep (P:=Tryz.prog) 9990 10 46 (by kernel_rfl) w 10000 10000 (.agg (gc X Y)) (.agg (gc X Y)) _ _ (by simp [Value.formed,Tryz.underlying46,ziw,gc]) (by simp [Value.formed,Tryz.underlying46,ziw,gc]) (lits_sig9 X Y 9997) (lits_sig9 X Y 9997)
 rw [hr,Result.andThen_ok,hiff.2 rfl]
theorem neG9 (X Y : Nat) (w : World) : (binOp .neq 46 (gv X Y) (gv X Y)).run Tryz.prog w = .ok (.bool false) w:=neq_of (eqG9 X Y w) rfl
theorem gG9 (X Y X' Y' : Nat) (op : BinOp) (x y : Operand) (W : World) : (eqGuard op 46 x y (gv X Y) (gv X' Y')).run Tryz.prog W = .ok () W:=by
 unfold gv gc
 cases op <;> simp [eqGuard,go_sem]
theorem zbv {P : Program} {ops : Array Oper} {rest : List Oper} {o : Oper} {a : Act} {w : World} {Q : Exit → Act → World → Prop} (hgd : Region.wanted o (yielded ops a.tmps) = true) (ty : TypeId) (x : Operand) (ho : o.op = .load ty x)
  (g : Nat) (hx : a.eval x = .pointer (some ⟨g,0,none⟩)) (t : TypeId) (cs : Array Value) (fr : Nat × Nat) (d : TypeDesc) (hg : w.heap[g]? = some (.cells cs t fr))
  (hu : P.underlying ty = some d) (hd : (match d with | .struct _ | .array _ _ => true | _ => false) = true) (hi : (P.info? ty).map (·.size) = some cs.size)
  (h : wpList P ops Q rest (a.put o.dst (.agg cs)) w) : wpList P ops Q (o :: rest) a w :=
 wpList_step fun K hK => by
  rw [if_pos hgd]
  exact wp_load_row ty x ho g hx t cs fr d hg hu hd hi (hK _ _ h)
/-! ### what the laws ask of the landed package -/
theorem eqCode22 (w : World) : (binOp .eql 33 (.iface 37 (.int .i64 2)) (.iface 37 (.int .i64 2))).run Tryz.prog w = .ok (.bool true) w:=by kernel_rfl
def dgP (p : List Nat) : Array Value:=dgc fun j => p.getD j 0
theorem dgP_map (f : Nat → Nat) : dgP ((List.range 32).map f) = dgc f:=arrOf_congr fun i hi => by
 show Value.int .u8 ((((List.range 32).map f).getD i 0 : Nat) : Int) = _
 rw [List.getD_eq_getElem?_getD,List.getElem?_map,List.getElem?_range hi]
 rfl
theorem run_items17 (d : Nat) (xs ys : Array Value) (A B : Nat → Int) (w : World) : ∀ is : List Nat,(∀ i ∈ is,xs[i]? = some (.int .u8 (A i))) → (∀ i ∈ is,ys[i]? = some (.int .u8 (B i))) →
  (Op.eqItems (d + 1) 5 1 xs ys is).run Tryz.prog w = .ok (is.all fun i => A i == B i) w
 | [],_,_ => by simp [Op.eqItems]
 | i :: is,hx,hy => by
  have e1:=run_part_plain (P:=Tryz.prog) w (e:=5) (by kernel_rfl) (xs:=xs) (off:=i * 1) (v:=.int .u8 (A i)) (by rw [Nat.mul_one]; exact hx i (by simp))
  have e2:=run_part_plain (P:=Tryz.prog) w (e:=5) (by kernel_rfl) (xs:=ys) (off:=i * 1) (v:=.int .u8 (B i)) (by rw [Nat.mul_one]; exact hy i (by simp))
  have e3:=run_equalIn_int (P:=Tryz.prog) w d 5 .u8 .u8 (A i) (B i) Tryz.underlying5
  have ih:=run_items17 d xs ys A B w is (fun j hj => hx j (by simp [hj])) (fun j hj => hy j (by simp [hj]))
  simp only [Op.eqItems,Sem.run_bind,e1,e2,e3,Result.andThen_ok]
  by_cases h : A i = B i
  ·
   simp [h,ih]
  ·
   simp [h]
theorem dgP_get (p : List Nat) {j : Nat} (hj : j < 32) : (dgP p)[j]? = some (.int .u8 ((p.getD j 0 : Nat) : Int)):=zcb _ hj
theorem all_same {p q : List Nat} (hp : p.length = 32) (hq : q.length = 32) : ((List.range 32).all fun i => ((p.getD i 0 : Nat) : Int) == ((q.getD i 0 : Nat) : Int)) = decide (p = q):=by
 by_cases h : p = q
 ·
  subst h
  simp
 ·
  rw [decide_eq_false h,Bool.eq_false_iff]
  intro hA
  rw [List.all_eq_true] at hA
  refine h (List.ext_getElem (by omega) fun i h1 h2 => ?_)
  have:=hA i (by simp; omega)
  simp only [beq_iff_eq,List.getD_eq_getElem?_getD,List.getElem?_eq_getElem h1,List.getElem?_eq_getElem h2,Option.getD_some] at this
  omega
theorem eql_dgP {p q : List Nat} (hp : p.length = 32) (hq : q.length = 32) (w : World) : (binOp .eql 23 (.agg (dgP p)) (.agg (dgP q))).run Tryz.prog w = .ok (.bool (decide (p = q))) w:=by
 obtain ⟨i,hi⟩ : ∃ i,Tryz.prog.info? 5 = some i:=Option.isSome_iff_exists.1 (by kernel_rfl)
 have hc : Tryz.prog.cellsOf 5 = 1:=by kernel_rfl
 rw [run_eql_struct,run_equalIn_array (P:=Tryz.prog) w 9999 _ _ Tryz.underlying23 hi,hc]
 have h:=run_items17 9998 (dgP p) (dgP q) (fun j => ((p.getD j 0 : Nat) : Int)) (fun j => ((q.getD j 0 : Nat) : Int)) w (List.range 32) (fun j hj => dgP_get p (by simpa using hj)) (fun j hj => dgP_get q (by simpa using hj))
 rw [h,all_same hp hq]
 rfl
theorem gDg (D D' : Array Value) (op : BinOp) (x y : Operand) (W : World) : (eqGuard op 23 x y (.agg D) (.agg D')).run Tryz.prog W = .ok () W:=by
 cases op <;> simp [eqGuard,go_sem]
theorem zgm {P : Program} {ops : Array Oper} {rest : List Oper} {o : Oper} {a : Act} {w : World} {Q : Exit → Act → World → Prop} (hgd : Region.wanted o (yielded ops a.tmps) = true) (ty : TypeId) (x : Operand) (ho : o.op = .load ty x)
  (g off : Nat) (hx : a.eval x = .pointer (some ⟨g,off,none⟩)) (cs : Array Value) (d : TypeDesc) (hc : ∀ j v,cs[j]? = some v → w.cell? ⟨g,off + j,none⟩ = some v)
  (hu : P.underlying ty = some d) (hd : d.isRow = true) (hi : (P.info? ty).map (·.size) = some cs.size)
  (h : wpList P ops Q rest (a.put o.dst (.agg cs)) w) : wpList P ops Q (o :: rest) a w :=
 wpList_step fun K hK => by
  rw [if_pos hgd]
  have hl : (loadVar ty ⟨g,off,none⟩).run P w = .ok (.agg cs) w:=run_loadVar_mid w g off ty cs.toList d (fun j v hv => hc j v (by simpa using hv)) hu hd (by simpa using hi)
  unfold Oper.wp execOp
  simp only [ho,hx,Instr.loadAt,Instr.sureAddr,Sem.run_bind,Sem.run_pure,Result.andThen_ok,hl]
  exact hK _ _ h
/-! ### three blocks -/
def stored3 (w : World) (X D G : Array Value) : World:=(((((w.alloc (.cells RZ 26)).alloc (.cells DZ 23)).alloc (.cells Z8 46)).setRow w.heap.size X).setRow (w.heap.size + 1) D).setRow (w.heap.size + 1 + 1) G
theorem zbe (w : World) (o o2 o3 : Obj) : (((w.alloc o).alloc o2).alloc o3).heap[w.heap.size]? = some o ∧ (((w.alloc o).alloc o2).alloc o3).heap[w.heap.size + 1]? = some o2 ∧ (((w.alloc o).alloc o2).alloc o3).heap[w.heap.size + 1 + 1]? = some o3:=by
 have h1:=zfy w o o2
 have h3:=zab ((w.alloc o).alloc o2) o3
 have e : ((w.alloc o).alloc o2).heap.size = w.heap.size + 1 + 1:=by rw [World.size_alloc,World.size_alloc]
 rw [e] at h3
 have hE:=Ext.alloc ((w.alloc o).alloc o2) o3
 exact ⟨hE.block h1.1,hE.block h1.2,h3⟩
theorem zdi (w : World) (X D G : Array Value) : Ext w (stored3 w X D G) ∧ (stored3 w X D G).heap[w.heap.size]? = some (.cells X 26 (0,0)) ∧ (stored3 w X D G).heap[w.heap.size + 1]? = some (.cells D 23 (0,0)) ∧ (stored3 w X D G).heap[w.heap.size + 1 + 1]? = some (.cells G 46 (0,0)):=by
 have h:=zbe w (.cells RZ 26) (.cells DZ 23) (.cells Z8 46)
 have hE:=(zey w (.cells RZ 26) (.cells DZ 23)).trans (Ext.alloc _ (.cells Z8 46))
 have h2:=two_rows (T:=X) (G:=D) hE h.1 h.2.1 ⟨Nat.le_refl _,Nat.lt_succ_self _⟩
 refine ⟨zak h2.1 (by omega) G,(zaz _ G (by omega)).trans h2.2.1,(zaz _ G (by omega)).trans h2.2.2,?_⟩
 exact setRow_heap _ _ Z8 G 46 (0,0) (zax D (zax X h.2.2 (by omega)) (by omega))
theorem zbr {L : Low} {w : World} {bs : List Nat} {X D G : Array Value} {y : Bool} (h : OpenA17 L w bs X D G y) : ((Tryz.prog.info? 26).map (·.size) = some X.size ∧ RZ.size = X.size ∧ X.all (·.oneCell') = true) ∧ ((Tryz.prog.info? 23).map (·.size) = some D.size ∧ DZ.size = D.size ∧ D.all (·.oneCell') = true) ∧
  ((Tryz.prog.info? 46).map (·.size) = some G.size ∧ Z8.size = G.size ∧ G.all (·.oneCell') = true):=by
 rcases h with ⟨_,rfl,rfl,rfl,_⟩ | ⟨r,body,x,s,_,hR,rfl,rfl,_⟩
 ·
  exact ⟨⟨iRZ,rfl,zbm⟩,⟨iDZ,rfl,zcv⟩,⟨iSg _ _,rfl,zda _ _⟩⟩
 ·
  exact ⟨⟨hR.info,hR.size.symm,hR.one⟩,⟨iDg _,(zai 32 _).symm,zbn fun _ _ => rfl⟩,⟨iSg _ _,rfl,zda _ _⟩⟩
section
variable {dg : List Nat → Nat → Nat} {vf : (Nat → Nat) → Nat → Nat → Bool} {dev : Int} {i : Nat} {last bs body : List Nat} {r : Rc} {x y : Nat}
theorem link_off (h : openR bs = none) : linkR dg vf dev i last bs = none:=by
 unfold linkR
 rw [h]
theorem link_if (h : openR bs = some (r,body,x,y)) : linkR dg vf dev i last bs = if r.dv = dev ∧ r.sq = (i : Int) ∧ r.pv = last ∧ vf (dg body) x y = true then some ((List.range 32).map (dg body)) else none:=by
 unfold linkR
 rw [h]
theorem link_no (h : openR bs = some (r,body,x,y)) (hn : ¬ (r.dv = dev ∧ r.sq = (i : Int) ∧ r.pv = last ∧ vf (dg body) x y = true)) : linkR dg vf dev i last bs = none:=by
 rw [link_if h,if_neg hn]
theorem link_yes (h : openR bs = some (r,body,x,y)) (hn : r.dv = dev ∧ r.sq = (i : Int) ∧ r.pv = last ∧ vf (dg body) x y = true) : linkR dg vf dev i last bs = some ((List.range 32).map (dg body)):=by
 rw [link_if h,if_pos hn]
end
theorem txs_get {l : List Tv} {k : Nat} (h : k < l.length) : (txs l)[k]? = some (l.getD k noTv).2:=by
 unfold txs
 rw [List.getElem?_map,tv_get h]
 rfl
theorem zdx (X Y : Array Value) (r : Rc) (w : World) (hF : Rv17 w X r) (hG : Rv17 w Y r) :
  Calls Tryz.prog 18 #[.agg X,.agg Y] w fun e w' => e = .returned (.bool true) ∧ Ext w w':=by
 have h2:=zfy w (.cells X 26) (.cells Y 26)
 have hE0:=zey w (.cells X 26) (.cells Y 26)
 obtain ⟨w2,hw2⟩ : ∃ W,W = (w.alloc (.cells X 26)).alloc (.cells Y 26):=⟨_,rfl⟩
 rw [← hw2] at h2 hE0
 obtain ⟨hW,A,c,hX,hc,hB⟩:=hF
 obtain ⟨_,A',c',hY,hc',hB'⟩:=hG
 have hA : RcAt w2 w.heap.size (rcC r (.slice A r.bs.length c)):=by rw [← hX]; exact h2.1
 have hA' : RcAt w2 (w.heap.size + 1) (rcC r (.slice A' r.bs.length c')):=by rw [← hY]; exact h2.2
 obtain ⟨c0,c1,c2,c3,c4,c5,c6,c7,c8⟩:=hA.cells
 obtain ⟨d0,d1,d2,d3,d4,d5,d6,d7,d8⟩:=hA'.cells
 have hmid:=fun (j : Nat) (hj : j < 32) => hA.cell (rcC_pv r (.slice A r.bs.length c) hj)
 have hmid':=fun (j : Nat) (hj : j < 32) => hA'.cell (rcC_pv r (.slice A' r.bs.length c') hj)
 have k1:=str_of (hB.ext hE0) rfl (c:=c)
 have k2:=str_of (hB'.ext hE0) rfl (c:=c')
 obtain ⟨P,hP⟩ : ∃ P,P = dgP r.pv:=⟨_,rfl⟩
 have hi : (Tryz.prog.info? 23).map (·.size) = some P.size:=by rw [hP]; exact iDg _
 have kq : ∀ W,(binOp .eql 23 (.agg P) (.agg P)).run Tryz.prog W = .ok (.bool true) W:=fun W => by
  rw [hP,eql_dgP hW.1 hW.1 W,decide_eq_true rfl]
 have kg : ∀ op x y W,(eqGuard op 23 x y (.agg P) (.agg P)).run Tryz.prog W = .ok () W:=fun op x y W => gDg P P op x y W
 have hget : ∀ (j : Nat) (v : Value),P[j]? = some v → j < 32 ∧ v = pb r j:=fun j v hv => by
  rw [hP] at hv
  have hj : j < 32:=by
   have:=(Array.getElem?_eq_some_iff.1 hv).1
   unfold dgP dgc at this
   rw [zai] at this
   exact this
  rw [dgP_get _ hj] at hv
  exact ⟨hj,by injection hv with hv; exact hv.symm⟩
 have HM:=veil (And.intro (fun (j : Nat) (v : Value) (hv : P[j]? = some v) => (hget j v hv).2 ▸ hmid j (hget j v hv).1) (And.intro (fun (j : Nat) (v : Value) (hv : P[j]? = some v) => (hget j v hv).2 ▸ hmid' j (hget j v hv).1) (And.intro hi hE0)))
 clear hX hY hA hA' hmid hmid' hget hP hW hB hB' hc hc' h2 hE0 hi
 obtain ⟨dv,sq,mi,kd,st,zn,sr,vd,pv,bs⟩:=r
 simp only at c0 c1 c2 c3 c4 c5 c6 c7 c8 d0 d1 d2 d3 d4 d5 d6 d7 d8 k1 k2
 obtain ⟨n,hn⟩ : ∃ n,n = bs.length:=⟨_,rfl⟩
 obtain ⟨S,hS⟩ : ∃ S,S = strL bs:=⟨_,rfl⟩
 rw [← hn] at c8 d8 k1 k2
 rw [← hS] at k1 k2
 clear hn hS
 go_enter Tryz.func18,Tryz.ntmps18
 go_upto_region 1 with (fail)
 obtain ⟨g2,hg2⟩ : ∃ g,g = w.heap.size:=⟨_,rfl⟩
 obtain ⟨g3,hg3⟩ : ∃ g,g = w.heap.size + 1:=⟨_,rfl⟩
 rw [← hg3] at d0 d1 d2 d3 d4 d5 d6 d7 d8
 rw [← hg3,← hg2] at HM
 rw [← hg2] at c0 c1 c2 c3 c4 c5 c6 c7 c8
 rw [← hg3,← hg2]
 rw [← hw2]
 clear hg2 hg3 hw2
 go_wp2_with (first
  | ((with_reducible refine zaa 63 ?_); refine zgm rfl 23 _ rfl g2 8 rfl P _ HM.out.1 Tryz.underlying23 rfl HM.out.2.2.1 ?_)
  | ((with_reducible refine zaa 65 ?_); refine zgm rfl 23 _ rfl g3 8 rfl P _ HM.out.2.1 Tryz.underlying23 rfl HM.out.2.2.1 ?_))
 go_ret
 exact ⟨rfl,HM.out.2.2.2⟩
end Go.Proofs.YtihophdbkjhopaaGreatDoor
