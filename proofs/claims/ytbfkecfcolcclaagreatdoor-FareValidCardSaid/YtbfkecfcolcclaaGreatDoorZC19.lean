/-
  Of Rn Rh NS1 NS2.
-/
import Derived.Deep.RegionHeld3
import Derived.Deep.Matrix
import Derived.Laws.CopyOwn
import Derived.Deep.CutBlock
import Derived.Test.YtbfkecfcolcclaaGreatDoorZC15
import Derived.Test.YtbfkecfcolcclaaGreatDoorZC7
set_option maxRecDepth 1000000
set_option maxHeartbeats 20000000
namespace Go.Proofs.YtbfkecfcolcclaaGreatDoor
open Go.RowKit Go.Shelf Go.Lib Go.Sort
open Go.Value renaming int → vI
open Go.IntKind renaming u64 → vU
open Go.Act renaming put → aP
open List renaming setIfInBounds_toArray → lA, set_cons_zero → lZ, set_cons_succ → lS
theorem swoR : SWO (ltOf cfR) where
 irrefl x:=by unfold ltOf; rw [decide_eq_false]; rw [cfR_lt]; unfold ltR; omega
 trans x y z h1 h2:=by
  unfold ltOf at *
  rw [decide_eq_true_iff,cfR_lt] at *
  unfold ltR at *
  omega
 ntrans x y z h1 h2:=by
  unfold ltOf at *
  rw [decide_eq_false_iff_not,cfR_lt] at *
  unfold ltR at *
  omega
theorem flat_rv (d : Array Rv) : (flatK rvC 2 d).toList = d.toList.flatMap rvC:=by
 apply List.ext_getElem?
 intro t
 by_cases h : t < d.size * 2
 ·
  have hq : t / 2 < d.toList.length:=by rw [Array.length_toList]; omega
  have hj : t % 2 < (rvC d.toList[t / 2]).length:=by rw [zat]; omega
  have h1:=flat_at (sz:=2) (cs:=rvC) (l:=d.toList) (fun x => zat x) (List.getElem?_eq_getElem hq) (List.getElem?_eq_getElem hj)
  rw [show t / 2 * 2 + t % 2 = t by omega] at h1
  rw [h1]
  have h2:=get_flatK rvC 2 d t h
  have h3 : t < (flatK rvC 2 d).size:=by rw [size_flatK]; exact h
  rw [getElem!_pos _ t h3] at h2
  rw [Array.getElem?_toList,Array.getElem?_eq_getElem h3,h2]
  have hq' : t / 2 < d.size:=by omega
  rw [getElem!_pos d (t / 2) hq']
  have e : d.toList[t / 2] = d[t / 2]:=by simp
  rw [e] at hj ⊢
  rw [getElem!_pos _ (t % 2) hj]
 ·
  rw [List.getElem?_eq_none (by rw [Array.length_toList,size_flatK]; omega),List.getElem?_eq_none (by rw [zfd (fun x => zat x),Array.length_toList]; omega)]
theorem putCells_take (F cur : Array Value) (h : F.size ≤ cur.size) : (putCells id 0 F cur).toList.take F.size = F.toList:=by
 apply List.ext_getElem?
 intro t
 by_cases ht : t < F.size
 ·
  rw [List.getElem?_take_of_lt ht,Array.getElem?_toList,Array.getElem?_toList]
  unfold putCells
  rw [Array.getElem?_mapIdx,Array.getElem?_eq_getElem (show t < cur.size by omega),Array.getElem?_eq_getElem ht,Option.map_some,if_pos ⟨by omega,by omega⟩]
  simp only [id,Nat.sub_zero]
  rw [getElem!_pos F t ht]
 ·
  rw [List.getElem?_eq_none (by rw [List.length_take]; omega),List.getElem?_eq_none (by rw [Array.length_toList]; omega)]
theorem perm_list {d d' : Array Rv} (h : PermIn 0 d.size d d') : d'.toList.Perm d.toList:=by
 obtain ⟨hs,_,hp⟩:=h
 have e1 : d.extract 0 d.size = d:=by simp
 have e2 : d'.extract 0 d.size = d':=by rw [← hs]; simp
 rwa [e1,e2] at hp
theorem srt_list {d : Array Rv} (h : SortedIn (ltOf cfR) 0 d.size d) : Srt d.toList:=by
 unfold Srt
 rw [List.pairwise_iff_getElem]
 intro i j hi hj hij
 have h1:=h i j (Nat.zero_le _) hij (by simpa using hj)
 unfold ltOf at h1
 rw [decide_eq_false_iff_not,cfR_lt,getElem!_pos d j (by simpa using hj),getElem!_pos d i (by simpa using hi)] at h1
 simpa using h1
theorem sortWorld_own {w : World} {base g cap n m : Nat} {cur : Array Value} {d : Array Rv} {os : Array Obj} (hb : base ≤ g) (hh : w.heap[g]? = some (.cells cur 65 (0,0))) (hn : n ≤ cap) (hm : cap ≤ maxLen) (hs : cur.size = cap * 2) (hd : d.size = n) :
  OwnL 2 rvC (sortWorldK rvC 2 w g 0 m d os) base 65 (.slice (some ⟨g,0,none⟩) n cap) d.toList ∧ w.grownBy (sortWorldK rvC 2 w g 0 m d os) (some g):=by
 have hg : g < w.heap.size:=(Array.getElem?_eq_some_iff.1 hh).1
 have hsz : (putRowK rvC 2 (Sort.ahead w m) g 0 d).heap.size = w.heap.size:=by rw [size_putRowK]; rfl
 have hold : ∀ k,k < w.heap.size → (sortWorldK rvC 2 w g 0 m d os).heap[k]? = (putRowK rvC 2 (Sort.ahead w m) g 0 d).heap[k]?:=fun k hk => by
  show ((putRowK rvC 2 (Sort.ahead w m) g 0 d).heap ++ os)[k]? = _
  rw [Array.getElem?_append_left (by rw [hsz]; exact hk)]
 have hput : ∀ k,(putRowK rvC 2 (Sort.ahead w m) g 0 d).heap[k]? = if g = k then (w.heap[k]?).map (onCells (putCells id 0 (flatK rvC 2 d))) else w.heap[k]?:=fun k => by
  show ((Sort.ahead w m).heap.modify g _)[k]? = _
  rw [Array.getElem?_modify]
  rfl
 have hl : d.toList.length = n:=by rw [Array.length_toList]; exact hd
 refine ⟨⟨?_,.inr ⟨g,cap,putCells id 0 (flatK rvC 2 d) cur,by rw [hl],hb,?_,by rw [hl]; exact hn,hm,?_,?_⟩⟩,rfl,rfl,rfl,?_,?_⟩
 ·
  rw [zfd (fun x => zat x)]
 ·
  rw [hold g hg,hput,if_pos rfl,hh]
  rfl
 ·
  rw [← hs]; simp [putCells]
 ·
  have h2:=putCells_take (flatK rvC 2 d) cur (by rw [size_flatK,hs,hd]; omega)
  rw [size_flatK,hd,flat_rv] at h2
  rw [hl]
  exact h2
 ·
  exact size_sortWorldK_c rvC 2 w g 0 m d os
 ·
  intro k hk hne
  rw [hold k hk,hput,if_neg fun e => hne (by rw [e])]
section
variable (p : Option Addr) (cap : Nat) (fv : Value) (w : World)
theorem ins_none : Calls Tryz.prog 105 #[.slice p 0 cap,.int .i64 0,.int .i64 0,fv] w fun e w' => e = .returned (.tuple #[]) ∧ w' = w:=by
 go_enter Tryz.func105,Tryz.ntmps105
 go_wp2
 refine wp_loop_rounds 1 ?_
 rw [rounds_succ]
 go_wp2
 go_end0
 exact ⟨rfl,rfl⟩
theorem pdq_none (lim : Int) : Calls Tryz.prog 70 #[.slice p 0 cap,.int .i64 0,.int .i64 0,.int .i64 lim,fv] w fun e w' => e = .returned (.tuple #[]) ∧ w' = w:=by
 have K:=fun W => ins_none p cap fv W
 go_enter Tryz.func70,Tryz.ntmps70
 go_wp2
 refine wp_loop_rounds 1 ?_
 rw [rounds_succ]
 go_wp2_with (go_at_call 105; refine (K _).mono ?_; rintro e w' ⟨rfl,rfl⟩)
 (try simp only [Exit.inBlock,Exit.then]); refine bodyPost_ret (results_none rfl _ _ _) rfl ?_
 exact ⟨rfl,rfl⟩
theorem sort_none : Calls Tryz.prog 38 #[.slice p 0 cap,fv] w fun e w' => e = .returned (.tuple #[]) ∧ w' = w:=by
 have K:=fun lim W => pdq_none p cap fv W lim
 have KL : ∀ W,Calls Tryz.prog 71 #[vI vU 0] W fun e w' => e = .returned (.int .i64 (Lib.bitLen 0 : Nat)) ∧ w' = W:=fun W =>
  Any.bits_Len (SlLaysF0.n15.bits (P:=Tryz.prog) (ρ:=sortR_ren) { sortR with }) 0 W (by omega) (by omega)
 go_enter Tryz.func38,Tryz.ntmps38
 go_wp2_with (first
  | (go_at_call 71; refine (KL _).mono ?_; rintro e w' ⟨rfl,rfl⟩)
  | (go_at_call 70; refine (K _ _).mono ?_; rintro e w' ⟨rfl,rfl⟩))
 go_end0
 exact ⟨rfl,rfl⟩
end
theorem sortRv_calls (v : Value) (l : List Rv) (base : Nat) (w : World) (hO : OwnL 2 rvC w base 65 v l) (hl : l.length ≤ 1000000) :
  Calls Tryz.prog 38 #[v,.func (.func 39) #[] #[]] w fun e w' => e = .returned (.tuple #[]) ∧ ∃ d : List Rv,Srt d ∧ d.Perm l ∧ OwnL 2 rvC w' base 65 v d ∧ w.grownBy w' v.ownBlock:=by
 obtain ⟨hlen,hO⟩:=hO
 rcases hO with ⟨rfl,h0⟩ | ⟨g,cap,cur,rfl,hb,hh,hn,hm,hs,ht⟩
 ·
  obtain rfl : l = []:=List.length_eq_zero_iff.1 h0
  refine (sort_none none 0 _ w).mono ?_
  rintro e w' ⟨rfl,rfl⟩
  exact ⟨rfl,[],List.Pairwise.nil,List.Perm.refl _,OwnL.nil _ _ _,World.grownBy.refl _ _⟩
 ·
  have eg : ∀ args w,(callFunc 39 args).run Tryz.prog w = .ok (.enter 39 args) w:=enters_of Tryz.func39 (by kernel_rfl) rfl
  have hH : HoldsK rvC 2 w g 0 l.toArray:=by
   intro j hj
   rw [size_flatK,List.size_toArray] at hj
   have hf:=flat_rv l.toArray
   have e : (flatK rvC 2 l.toArray)[j]? = cur[j]?:=by
    rw [← Array.getElem?_toList,hf,← Array.getElem?_toList]
    show (l.flatMap rvC)[j]? = _
    rw [← ht,List.getElem?_take_of_lt hj]
   have h3 : j < (flatK rvC 2 l.toArray).size:=by rw [size_flatK,List.size_toArray]; exact hj
   refine ⟨?_,?_⟩
   ·
    rw [Nat.zero_add,cell_of_row w g j _ _ _ hh,← e,Array.getElem?_eq_getElem h3,getElem!_pos _ j h3]
    rfl
   ·
    simp [World.frozen?,hh]
  have hcon:=AnyQ.slices_SortFunc (P:=Tryz.prog) (ρ:=sortR_ren) sortR 2 Tryz.isAgg65 Tryz.sizeOf65 rvC zat rvC_one cfR swoR 39 #[] g 0 cap l.toArray w eg (fun _ _ _ _ x y => inOrderR_calls x y _) hH (Array.getElem?_eq_some_iff.1 hh).1 (by rw [List.size_toArray]; omega)
  rw [List.size_toArray] at hcon
  refine Calls.mono hcon ?_
  rintro e w' ⟨rfl,d',n,os,hp,hsd,rfl⟩
  have hds : d'.size = l.length:=by rw [hp.1,List.size_toArray]
  obtain ⟨h1,h2⟩:=sortWorld_own (m:=n) (os:=os) hb hh hn hm hs hds
  exact ⟨rfl,d'.toList,srt_list (by rw [hds]; exact hsd),by simpa using perm_list (d:=l.toArray) (by rw [List.size_toArray]; exact hp),h1,h2⟩
end Go.Proofs.YtbfkecfcolcclaaGreatDoor
namespace Go.Proofs.YtbfkecfcolcclaaGreatDoor
open Go.RowKit
open Go.Value renaming int → vI
open Go.IntKind renaming u64 → vU
open Go.Act renaming put → aP
open List renaming setIfInBounds_toArray → lA, set_cons_zero → lZ, set_cons_succ → lS
def MergeA (w' : World) (a b : List Rv) (x ev : Value) : Prop :=
 ((mayRs a && mayRs b) = false ∧ x = .slice none 0 0 ∧ ev = .iface 38 (.int .i64 1)) ∨
 ((mayRs a && mayRs b) = true ∧ 200 < (mergeR a b).length ∧ x = .slice none 0 0 ∧ ev = .iface 38 (.int .i64 3)) ∨
 ((mayRs a && mayRs b) = true ∧ (mergeR a b).length ≤ 200 ∧ ev = .nilIface ∧ Rs w' x (mergeR a b))
theorem merge11_calls (va vb : Value) (a b : List Rv) (w : World) (hA : Rs w va a) (hB : Rs w vb b) (hla : a.length ≤ 1000) (hlb : b.length ≤ 1000) :
  Calls Tryz.prog 19 #[va,vb] w fun e w' => ∃ x ev,e = .returned (.tuple #[x,ev]) ∧ Ext w w' ∧ MergeA w' a b x ev:=by
 have hA':=hA
 have hB':=hB
 obtain ⟨Aa,ca,hva,_,_⟩:=hA'
 obtain ⟨Ab,cb,hvb,_,_⟩:=hB'
 obtain ⟨ma,hma0⟩ : ∃ m,m = a.length:=⟨_,rfl⟩
 obtain ⟨mb,hmb0⟩ : ∃ m,m = b.length:=⟨_,rfl⟩
 rw [← hma0] at hva
 rw [← hmb0] at hvb
 clear hma0 hmb0
 subst hva hvb
 have KA:=veil (fun W (h : Ext w W) => zcp (.slice Aa ma ca) a W (hA.ext h) (by omega))
 have KB:=veil (fun W (h : Ext w W) => zcp (.slice Ab mb cb) b W (hB.ext h) (by omega))
 have HV:=veil (And.intro hA (And.intro hB (And.intro hla hlb)))
 clear hA hB hla hlb
 cases hma : mayRs a with
 | false =>
  rw [hma] at KA
  have HM:=veil hma
  clear hma
  go_enter Tryz.func19,Tryz.ntmps19
  go_wp2_with (go_at_call 27; refine (KA.out _ (Ext.refl _)).mono ?_; rintro e w1 ⟨rfl,hE1⟩)
  go_ret2
  exact ⟨_,_,rfl,hE1,.inl ⟨by rw [HM.out]; rfl,rfl,rfl⟩⟩
 | true =>
  rw [hma] at KA
  cases hmb : mayRs b with
  | false =>
   rw [hmb] at KB
   have HM:=veil hmb
   clear hma hmb
   go_enter Tryz.func19,Tryz.ntmps19
   go_wp2_with (first
    | (go_at_call 27; refine (KA.out _ (Ext.refl _)).mono ?_; clear KA; rintro e w1 ⟨rfl,hE1⟩)
    | (go_at_call 27; refine (KB.out _ hE1).mono ?_; rintro e w2 ⟨rfl,hE2⟩))
   go_ret2
   exact ⟨_,_,rfl,hE1.trans hE2,.inl ⟨by rw [HM.out,Bool.and_false],rfl,rfl⟩⟩
  | true =>
   rw [hmb] at KB
   have HM:=veil (And.intro hma hmb)
   clear hma hmb
   go_enter Tryz.func19,Tryz.ntmps19
   go_upto_region 3 with (first
    | (go_at_call 27; refine (KA.out _ (Ext.refl _)).mono ?_; clear KA; rintro e w1 ⟨rfl,hE1⟩)
    | (go_at_call 27; refine (KB.out _ hE1).mono ?_; rintro e w2 ⟨rfl,hE2⟩))
   have hE:=hE1.trans hE2
   have hE3:=hE.trans (Ext.alloc w2 (.cells #[.slice Aa ma ca,.slice Ab mb cb] 29))
   have KC:=veil (concatR_calls (.slice Aa ma ca) (.slice Ab mb cb) a b w2.heap.size _ (HV.out.1.ext hE3) (HV.out.2.1.ext hE3) HV.out.2.2.1 HV.out.2.2.2 (zab w2 (.cells #[.slice Aa ma ca,.slice Ab mb cb] 29)))
   have HE3:=veil (And.intro hE3 (Below.size hE3))
   clear hE1 hE2 hE hE3 KB
   go_upto_region 4 with (go_at_call 37; refine KC.out.mono ?_; rintro e w4 ⟨v,rfl,hO4,hE4⟩)
   have hab : (a ++ b).length ≤ 2000:=by rw [List.length_append]; have:=HV.out.2.2; omega
   have KS:=veil (sortRv_calls v (a ++ b) _ w4 hO4 (by omega))
   have HE4:=veil (And.intro (HE3.out.1.trans hE4) (And.intro (show ∀ k,v.ownBlock = some k → w.heap.size ≤ k from fun k hk => Nat.le_trans HE3.out.2 (hO4.lt hk).1) hab))
   clear hO4 hE4 KC hab
   go_upto_region 5 with (go_at_call 38; refine KS.out.mono ?_; rintro e w5 ⟨rfl,d,hsrt,hperm,hO5,hG5⟩)
   have hE5:=HE4.out.1.grown hG5 (Below.size HE4.out.1) HE4.out.2.1
   have hcm : cpt d = mergeR a b:=cpt_merge (zcz HM.out.1) (zcz HM.out.2) hsrt hperm
   have KP:=veil (compactR_calls v d _ w5 hO5 (by rw [hperm.length_eq]; have:=HE4.out.2.2; omega))
   rw [hcm] at KP
   have HE5:=veil hE5
   clear hE5 hcm hO5 hG5 hsrt hperm KS
   go_upto_region 6 with (go_at_call 40; refine KP.out.mono ?_; rintro e w6 ⟨⟨v',rfl,hR6⟩,hG6⟩)
   have hE6:=HE5.out.grown hG6 (Below.size HE5.out) HE4.out.2.1
   have hR6':=hR6
   obtain ⟨A6,c6,hv6,_,_⟩:=hR6'
   subst hv6
   have HR:=veil (And.intro hR6 hE6)
   obtain ⟨L,hL⟩ : ∃ L,L = (mergeR a b).length:=⟨_,rfl⟩
   rw [← hL] at HR ⊢
   have HL:=veil hL
   clear hR6 hG6 hE6 hL KP
   by_cases hbig : 200 < L
   ·
    have hd : decide (200 < (L : Int)) = true:=by simp; omega
    have HB:=veil hbig
    clear hbig
    go_wp2
    go_ret2
    exact ⟨_,_,rfl,HR.out.2,.inr (.inl ⟨by rw [HM.out.1,HM.out.2]; rfl,by rw [← HL.out]; exact HB.out,rfl,rfl⟩)⟩
   ·
    have hd : decide (200 < (L : Int)) = false:=by simp; omega
    have HB:=veil hbig
    clear hbig
    go_wp2
    go_ret2
    exact ⟨_,_,rfl,HR.out.2,.inr (.inr ⟨by rw [HM.out.1,HM.out.2]; rfl,by rw [← HL.out]; have:=HB.out; omega,rfl,HR.out.1⟩)⟩
def sb (s : KV) (j : Nat) : Value:=.int .u8 ((if j < 32 then s.k j else s.v (j - 32) : Nat) : Int)
section
variable {w w' : World} {g : Nat} {s : KV}
end
def pY (v : Nat → Nat) (b : Nat) (Y : Nat → Nat → Nat) (r : Nat) : Nat → Nat:=if r = 0 then v else if r = 1 then cat (fun _ => b) 1 none0 else Y (r - 2)
end Go.Proofs.YtbfkecfcolcclaaGreatDoor
