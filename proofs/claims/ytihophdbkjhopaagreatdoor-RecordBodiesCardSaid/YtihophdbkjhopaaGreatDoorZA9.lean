/-
  Of HWrite HPad HSum SOwn SConst SSumA M1 HLaid HLaw HParts MDef M2 N1 Parts Top.
-/
import Derived.Laws.CopyOwn
import Derived.WalkKit
import Derived.WalkSpells
import Derived.WalkLawsBesides
import Derived.Deep.LoopGhost
import Derived.Deep.Cut
import Derived.Deep.CutRange
import Derived.Deep.OwnRows
import Derived.Test.YtihophdbkjhopaaGreatDoorRows
import Derived.BigQuiet
import Derived.Deep.RegionHeld3
import Derived.IntWalk
import Derived.Deep.QuietTactic
import Derived.StillTailTactics
import Derived.Deep.CutBlock
import Derived.ProofKit
import Derived.LaidMore
import Derived.OpenShut
import Derived.Stop.Joined
import Derived.MakeChecks
import Derived.Carry
import Derived.ChangeKeysEq
import Derived.Laws.BytesString
import Derived.BigFrame
import Derived.Deep.Matrix
import Derived.Deep.MidRow
import Derived.Test.YtihophdbkjhopaaGreatDoorZA8
import Derived.Test.YtihophdbkjhopaaGreatDoorZA2
import Derived.Test.YtihophdbkjhopaaGreatDoorZA1
set_option maxRecDepth 1000000
set_option maxHeartbeats 20000000
namespace Go.Proofs.YtihophdbkjhopaaGreatDoor
open Go.RowKit
open Go.Value renaming int → vI
open Go.IntKind renaming u64 → vU
open Go.Act renaming put → aP
open List renaming setIfInBounds_toArray → lA, set_cons_zero → lZ, set_cons_succ → lS
theorem zcz {P : Program} {w : World} {ops : Array Oper} {rest : List Oper} {o : Oper} {a : Act} {Q : Exit → Act → World → Prop} (hgd : o.guard = none) (d s : Operand) (dT sT : TypeId)
  (ho : o.op = .call { callee:=.builtin .copy,args:=#[d,s],argTypes:=#[dT,sT] }) (elem : TypeId) (hu : P.underlying dT = some (.slice elem)) (hsz : (P.info? elem).map (·.size) = some 1)
  (g off dLen dCap : Nat) (ad : Addr) (sLen sCap : Nat) (hd : a.eval d = .slice (some ⟨g,off,none⟩) dLen dCap) (hs : a.eval s = .slice (some ad) sLen sCap)
  (t n : Nat) (f : Nat → Value) (hrow : w.rowIs g t n f) (m : Nat) (hm : m = Nat.min sLen dLen) (v : Nat → Value) (hsrc : ∀ j,j < m → w.cell? (ad.add j) = some (v j)) (hfit : off + m ≤ n)
  (h1 : ∀ j,j < m → (v j).oneCell' = true)
  (h : ∀ w',But g w w' → w'.rowIs g t n (fun j => if off ≤ j ∧ j < off + m then v (j - off) else f j) → wpList P ops Q rest (a.put o.dst (goInt (m : Nat))) w') : wpList P ops Q (o :: rest) a w:=by
 have hcs : ((List.range m).map v).length = m:=by simp
 have hk:=wpList_copy_own (P:=P) (w:=w) (ops:=ops) (rest:=rest) (o:=o) (a:=a) (Q:=Q) hgd d s dT sT ho elem hu hsz g off dLen dCap ad sLen sCap hd hs (arrOf n f) t (blkOf hrow) ((List.range m).map v) (by rw [hcs,hm])
  (fun j u hu => by
   have hj : j < m:=by have:=(List.getElem?_eq_some_iff.1 hu).1; simpa using this
   rw [hsrc j hj,← hu]; simp [hj]) (by rw [hcs,zan]; exact hfit) (fun u hu => by
   simp at hu; obtain ⟨j,hj,rfl⟩:=hu; exact h1 j hj)
 rw [hcs] at hk
 refine hk (h _ ⟨rfl,rfl,rfl,by simp [World.setRow],fun k _ hne => zar w _ (by simpa using hne)⟩ ?_)
 refine row_setRow hrow (by simp [zan]; omega) fun i hi => ?_
 have hl : (arrOf n f).toList.length = n:=by simp [zan]
 by_cases c1 : i < off
 ·
  rw [if_neg (by omega)]
  simp only [List.getElem?_toArray]
  rw [List.getElem?_append_left (by simp [hl]; omega),List.getElem?_take_of_lt c1]
  simpa using zbt f hi
 ·
  by_cases c2 : i < off + m
  ·
   rw [if_pos ⟨by omega,c2⟩]
   simp only [List.getElem?_toArray]
   rw [List.getElem?_append_right (by simp [hl]; omega),List.getElem?_append_left (by simp [hl]; omega)]
   simp [hl,show min off n = off by omega,show i - off < m by omega]
  ·
   rw [if_neg (by omega)]
   simp only [List.getElem?_toArray]
   rw [List.getElem?_append_right (by simp [hl]; omega),List.getElem?_append_right (by simp [hl]; omega),List.getElem?_drop]
   rw [show off + m + (i - (List.take off (arrOf n f).toList).length - ((List.range m).map v).length) = i by simp [hl]; omega]
   simpa using zbt f hi
theorem blockN_congr {m m' : Nat → Nat} (h : ∀ t,t < 16 → m t = m' t) (s : St) : blockN m s = blockN m' s:=by
 have hs : ∀ k,sched m k = sched m' k:=by
  intro k
  induction k with
  | zero => simp only [sched]
  | succ k ihk =>
   simp only [sched]
   rw [ihk]
   by_cases hk : k < 16
   ·
    simp only [if_pos hk]; rw [h k hk]
   ·
    simp only [if_neg hk]
 have hr : ∀ k,roundsN m s k = roundsN m' s k:=by
  intro k
  induction k with
  | zero => simp only [roundsN]
  | succ k ihk =>
   simp only [roundsN]
   rw [ihk]; unfold wt; rw [hs]
 unfold blockN; rw [hr]
structure HOk (b : Nat → Nat) (L : Nat) (s : St) (blk : Nat → Nat) : Prop where
 s : s = blocksN b (L / 64)
 pre : ∀ j,j < L % 64 → blk j = b (64 * (L / 64) + j)
 lt : ∀ j,blk j < 256
theorem HOk.part {b : Nat → Nat} {L m : Nat} {s : St} {blk : Nat → Nat} (h : HOk b L s blk) (hm : L % 64 + m < 64) (hb : ∀ i,L ≤ i → i < L + m → b i < 256) :
  HOk b (L + m) s (fun j => if L % 64 ≤ j ∧ j < L % 64 + m then b (L + (j - L % 64)) else blk j):=by
 have e1 : (L + m) / 64 = L / 64:=by omega
 refine ⟨by rw [e1]; exact h.s,fun j hj => ?_,fun j => ?_⟩
 ·
  rw [e1]
  by_cases c : j < L % 64
  ·
   rw [if_neg (by omega),h.pre j c]
  ·
   rw [if_pos (by omega)]; congr 1; omega
 ·
  show (if _ then _ else _) < 256
  split
  ·
   exact hb _ (by omega) (by omega)
  ·
   exact h.lt j
theorem HOk.full {b : Nat → Nat} {L m : Nat} {s : St} {blk : Nat → Nat} (h : HOk b L s blk) (hm : L % 64 + m = 64) (hb : ∀ i,L ≤ i → i < L + m → b i < 256) :
  HOk b (L + m) (blockN (fun t => word (fun j => if L % 64 ≤ j ∧ j < L % 64 + m then b (L + (j - L % 64)) else blk j) (4 * t)) s) (fun j => if L % 64 ≤ j ∧ j < L % 64 + m then b (L + (j - L % 64)) else blk j):=by
 have e1 : (L + m) / 64 = L / 64 + 1:=by omega
 have e2 : ∀ j,j < 64 → (if L % 64 ≤ j ∧ j < L % 64 + m then b (L + (j - L % 64)) else blk j) = b (64 * (L / 64) + j):=fun j hj => by
  by_cases c : j < L % 64
  ·
   rw [if_neg (by omega),h.pre j c]
  ·
   rw [if_pos (by omega)]; congr 1; omega
 refine ⟨?_,fun j hj => by omega,fun j => ?_⟩
 ·
  rw [e1]
  show _ = blockN (fun t => word b (64 * (L / 64) + 4 * t)) (blocksN b (L / 64))
  rw [← h.s]
  refine blockN_congr (fun t ht => ?_) s
  show word _ (4 * t) = word b (64 * (L / 64) + 4 * t)
  unfold word
  dsimp only
  rw [e2 _ (by omega),e2 _ (by omega),e2 _ (by omega),e2 _ (by omega)]
  rfl
 ·
  show (if _ then _ else _) < 256
  split
  ·
   exact hb _ (by omega) (by omega)
  ·
   exact h.lt j
theorem HOk.congr {b b' : Nat → Nat} {L : Nat} {s : St} {blk : Nat → Nat} (h : HOk b L s blk) (e : ∀ i,i < L → b i = b' i) : HOk b' L s blk :=
 ⟨by rw [h.s]; exact zje _ (fun i hi => e i (by omega)),fun j hj => by rw [h.pre j hj,e _ (by omega)],h.lt⟩
def HashIs (w : World) (g : Nat) (b : Nat → Nat) (L : Nat) : Prop:=∃ s blk,HOk b L s blk ∧ HRow w g s blk L
section
variable {w w' : World} {g B L : Nat} {b b' : Nat → Nat}
theorem HashIs.lt (h : HashIs w g b L) : g < w.heap.size:=by obtain ⟨_,_,_,h⟩:=h; exact h.lt
theorem HashIs.of_block (h : HashIs w g b L) (e : w'.heap[g]? = w.heap[g]?) : HashIs w' g b L:=by obtain ⟨s,k,o,h⟩:=h; exact ⟨s,k,o,h.of_block e⟩
theorem HashIs.call (h : HashIs w g b L) (hb : Below w.heap.size w w') : HashIs w' g b L:=h.of_block (hb.block g h.lt)
theorem HashIs.below (h : HashIs w g b L) (hb : Below B w w') (hlt : g < B) : HashIs w' g b L:=h.of_block (hb.block g hlt)
theorem HashIs.but {r : Nat} (h : HashIs w g b L) (k : But r w w') (hne : g ≠ r) : HashIs w' g b L:=h.of_block (k.block g h.lt (by simpa using hne))
theorem HashIs.alloc (h : HashIs w g b L) (o : Obj) : HashIs (w.alloc o) g b L:=h.of_block (Below.heap_alloc _ _ _ h.lt)
theorem HashIs.drew (h : HashIs w g b L) : HashIs w.drew g b L:=h
theorem HashIs.congr (h : HashIs w g b L) (e : ∀ i,i < L → b i = b' i) : HashIs w g b' L:=by obtain ⟨s,k,o,h⟩:=h; exact ⟨s,k,o.congr e,h⟩
theorem HashIs.len (h : HashIs w g b L) : w.cell? ⟨g,72,none⟩ = some (.int .i64 (L : Int)):=by obtain ⟨_,_,_,h⟩:=h; exact h.length
end
def cat (b : Nat → Nat) (len : Nat) (y : Nat → Nat) : Nat → Nat:=fun i => if i < len then b i else y (i - len)
def Src (w : World) (A : Option Addr) (n : Nat) (y : Nat → Nat) (g : Nat) : Prop:=n = 0 ∨ ∃ b o,A = some ⟨b,o,none⟩ ∧ b < w.heap.size ∧ b ≠ g ∧ ∀ j,j < n → w.cell? ⟨b,o + j,none⟩ = some (.int .u8 (y j : Nat))
section
variable {w w' : World} {A : Option Addr} {n g B : Nat} {y : Nat → Nat}
theorem Src.below (h : Src w A n y g) (hb : Below w.heap.size w w') : Src w' A n y g:=by
 rcases h with h | ⟨b,o,ha,hlt,hne,hc⟩
 ·
  exact .inl h
 ·
  exact .inr ⟨b,o,ha,Nat.lt_of_lt_of_le hlt hb.size,hne,fun j hj => (hb.cell (p:=⟨b,o + j,none⟩) hlt).trans (hc j hj)⟩
theorem Src.but (h : Src w A n y g) (hb : But g w w') : Src w' A n y g:=by
 rcases h with h | ⟨b,o,ha,hlt,hne,hc⟩
 ·
  exact .inl h
 ·
  exact .inr ⟨b,o,ha,Nat.lt_of_lt_of_le hlt hb.size,hne,fun j hj => (World.cell?_of_block (w:=w) (a:=⟨b,o + j,none⟩) (hb.block b hlt (by simpa using hne))).trans (hc j hj)⟩
theorem Src.congr {y' : Nat → Nat} (h : Src w A n y g) (e : ∀ j,j < n → y j = y' j) : Src w A n y' g:=by
 rcases h with h | ⟨b,o,ha,hlt,hne,hc⟩
 ·
  exact .inl h
 ·
  exact .inr ⟨b,o,ha,hlt,hne,fun j hj => by rw [hc j hj,e j hj]⟩
end
theorem sliceAt_arr (g fl : Nat) (hf : fl < 64) (w : World) : (Instr.sliceAt 158 (.pointer (some ⟨g,8,none⟩)) (some (.int .i64 (fl : Int))) none none).run Tryz.prog w = .ok (.slice (some ⟨g,8 + fl,none⟩) (64 - fl) (64 - fl)) w:=by
 have e1 : Tryz.prog.arrayLen 158 = 64:=by kernel_rfl
 have e2 : ((sizeOf (Tryz.prog.elem 158)).run Tryz.prog w) = .ok 1 w:=by kernel_rfl
 rw [run_sliceAt_array_l w 158 ⟨g,8,none⟩ (by kernel_rfl) .i64 (fl : Int) (by omega) (by rw [e1]; omega),e2,e1]
 have h64 : ¬ 64 = fl:=by omega
 simp [slicedAt,Result.andThen,h64,Addr.add_mid]
def tailAt (b o m c : Nat) : Option Addr:=if c = m then some ⟨b,o,none⟩ else some ⟨b,o + m,none⟩
theorem slice_from (b o r c m : Nat) (hm : m ≤ r) (w : World) : (Instr.slice 24 (.slice (some ⟨b,o,none⟩) r c) (some (.int .i64 (m : Int))) none none).run Tryz.prog w = .ok (.slice (tailAt b o m c) (r - m) (c - m)) w:=by
 have e2 : ((sizeOf (Tryz.prog.elem 24)).run Tryz.prog w) = .ok 1 w:=by kernel_rfl
 rw [run_slice_l w 24 (some ⟨b,o,none⟩) r c (by kernel_rfl) .i64 (m : Int) (by omega) (by omega),e2]
 by_cases h : c = m
 ·
  simp [sliced,Result.andThen,tailAt,h]
 ·
  simp [sliced,Result.andThen,tailAt,h,Addr.add_mid]
theorem sliceAt_from (b o r c m : Nat) (hm : m ≤ r) (w : World) : (Instr.sliceAt 24 (.slice (some ⟨b,o,none⟩) r c) (some (.int .i64 (m : Int))) none none).run Tryz.prog w = .ok (.slice (tailAt b o m c) (r - m) (c - m)) w:=by
 rw [run_sliceAt_slice w 24 _ _ _ _ (by kernel_rfl)]
 exact slice_from b o r c m hm w
theorem Src.tail {w : World} {b o r c m g : Nat} {y : Nat → Nat} (h : Src w (some ⟨b,o,none⟩) r y g) (hm : m ≤ r) (hc : r ≤ c) : Src w (tailAt b o m c) (r - m) (fun j => y (m + j)) g:=by
 by_cases h0 : r - m = 0
 ·
  exact .inl h0
 ·
  rcases h with h | ⟨b',o',e,hlt,hne,hcl⟩
  ·
   omega
  ·
   simp only [Option.some.injEq,Addr.mk.injEq] at e
   obtain ⟨rfl,rfl,_⟩:=e
   refine .inr ⟨b,o + m,by unfold tailAt; rw [if_neg (by omega)],hlt,hne,fun j hj => ?_⟩
   rw [Nat.add_assoc]
   exact hcl (m + j) (by omega)
def lenOf : Value → Nat | .slice _ r _ => r | _ => 0
theorem infoB : (Tryz.prog.info? 5).map (·.size) = some 1:=by kernel_rfl
theorem zfe (g : Nat) (b : Nat → Nat) (L : Nat) (A : Option Addr) (n c : Nat) (y : Nat → Nat) (hy : ∀ j,y j < 256) (hnc : n ≤ c) (hLn : L + n ≤ 4611686018427387904) (hg : g ≠ 0)
  (w : World) (hK : KT w) (hH : HashIs w g b L) (hS : Src w A n y g) :
  Calls Tryz.prog 61 #[.pointer (some ⟨g,0,none⟩),.slice A n c] w fun e w' => e = .returned (.tuple #[]) ∧ HashIs w' g (cat b L y) (L + n) ∧ But g w w':=by
 obtain ⟨T,hT⟩ : ∃ T,T = cat b L y:=⟨_,rfl⟩
 have hH : HashIs w g T L:=hH.congr fun i hi => by rw [hT]; unfold cat; rw [if_pos hi]
 have hTy : ∀ i,T (L + i) = y i:=fun i => by rw [hT]; unfold cat; rw [if_neg (by omega),Nat.add_sub_cancel_left]
 have HT:=veil hT
 have HTy:=veil hTy
 have HY:=veil hy
 have HG:=veil hg
 clear hT hTy hy hg
 go_enter Tryz.func61,Tryz.ntmps61
 go_wp2
 go_loopw [1] (fun v wr => ∃ (A : Option Addr) (k r c : Nat),k + r = n ∧ r ≤ c ∧ v = .slice A r c ∧ Src wr A r (fun j => y (k + j)) g ∧ HashIs wr g T (L + k) ∧ But g w wr ∧ KT wr)
  (fun v _ => lenOf v)
 case atStart => exact ⟨A,0,n,c,by omega,hnc,rfl,hS.congr fun j _ => by rw [Nat.zero_add],hH,But.refl _ _,hK⟩
 case round =>
  obtain ⟨A,k,r,c,hkr,hrc,rfl,hS,hH,hB,hK⟩:=hrel
  by_cases h0 : r = 0
  ·
   subst h0
   go_wp2
   go_end0
   exact ⟨rfl,by rw [← HT.out,show n = k by omega]; exact hH,hB⟩
  ·
   obtain ⟨bb,o,rfl,hlt,hne,hc⟩ : ∃ b o,A = some ⟨b,o,none⟩ ∧ b < wr.heap.size ∧ b ≠ g ∧ ∀ j,j < r → wr.cell? ⟨b,o + j,none⟩ = some (.int .u8 (y (k + j) : Nat)):=hS.resolve_left h0
   obtain ⟨s,blk,hok,hrow⟩:=hH
   obtain ⟨N,hN⟩ : ∃ N,N = L + k:=⟨_,rfl⟩
   rw [← hN] at hok hrow
   obtain ⟨fl,hfl⟩ : ∃ fl,fl = N % 64:=⟨_,rfl⟩
   have hfi : (N : Int) % 64 = (fl : Int):=by omega
   have hf64 : fl < 64:=by omega
   obtain ⟨m,hm⟩ : ∃ m,m = Nat.min r (64 - fl):=⟨_,rfl⟩
   have hm0 : 0 < m:=by rw [hm]; show 0 < min r (64 - fl); omega
   have hmr : m ≤ r:=by rw [hm]; exact Nat.min_le_left _ _
   have hmf : fl + m ≤ 64:=by rw [hm]; show fl + min r (64 - fl) ≤ 64; omega
   have cL:=hrow.length
   have fL:=World.rowIs.frozen hrow 72
   have hr0 : (0 : Int) < (r : Int):=by omega
   have hN0 : N ≤ 4611686018427387904:=by omega
   have hNm : N + m ≤ 4611686018427387904:=by omega
   have HR:=veil hrow
   have HC:=veil hc
   have HM:=veil hm
   have HF:=veil hfl
   have HN:=veil hN
   have HK:=veil hok
   have HB2:=veil hne
   clear hrow hc hm hfl hN hok hne h0
   have q1:=fun W => sliceAt_arr g fl hf64 W
   have q2:=fun W => slice_from bb o r c m hmr W
   have q3:=fun W => sliceAt_from bb o r c m hmr W
   clear cL fL
   have hsrc : ∀ j,j < m → wr.cell? ((⟨bb,o,none⟩ : Addr).add j) = some (.int .u8 (y (k + j) : Nat)):=fun j hj => by
    rw [Addr.add_mid]; exact HC.out j (by omega)
   have HSRC:=veil hsrc
   have cL:=HR.out.length
   clear hsrc
   go_upto_region 3 with ((with_reducible refine zac 20 ?_); refine zcz rfl _ _ 24 24 rfl 5 Tryz.underlying24 infoB g (8 + fl) (64 - fl) (64 - fl) ⟨bb,o,none⟩ r c rfl rfl 160 73 _ HR.out m HM.out (fun j => .int .u8 (y (k + j) : Nat)) HSRC.out (by omega) (fun _ _ => rfl) ?_; intro w2 hb2 hr2)
   have hTn : ∀ j,T (N + j) = y (k + j):=fun j => by rw [HN.out,Nat.add_assoc]; exact HTy.out _
   obtain ⟨blk',hblk'⟩ : ∃ blk' : Nat → Nat,blk' = fun j => if N % 64 ≤ j ∧ j < N % 64 + m then T (N + (j - N % 64)) else blk j:=⟨_,rfl⟩
   have hr2 : HRow w2 g s blk' N:=hr2.congr fun j hj => by
    unfold hcells
    rw [hblk',← HF.out]
    dsimp only
    by_cases c1 : 8 + fl ≤ j ∧ j < 8 + fl + m
    ·
     rw [if_pos c1,if_neg (by omega),if_pos (by omega),if_pos (by omega),hTn,show j - 8 - fl = j - (8 + fl) by omega]
    ·
     rw [if_neg c1]
     by_cases c2 : j < 8
     ·
      rw [if_pos c2,if_pos c2]
     ·
      rw [if_neg c2,if_neg c2]
      by_cases c3 : j < 72
      ·
       rw [if_pos c3,if_pos c3,if_neg (by omega)]
      ·
       rw [if_neg c3,if_neg c3]
   have HBLK:=veil hblk'
   have hS2:=hS.but hb2
   have hK2:=hK.grown hb2 HG.out.symm
   have hB2:=But.trans hB hb2
   have cL:=hr2.length
   have fL:=World.rowIs.frozen hr2 72
   clear hb2 hblk' hTn hS hK hB HSRC HR HC
   have hNi : (N : Int) + (m : Int) = ((N + m : Nat) : Int):=by omega
   obtain ⟨N2,hN2⟩ : ∃ N2,N2 = N + m:=⟨_,rfl⟩
   rw [← hN2] at hNi hNm
   have HN2:=veil hN2
   clear hN2
   have hr3 : HRow (w2.setCell ⟨g,72,none⟩ (.int .i64 (N2 : Int))) g s blk' N2:=(World.rowIs.set hr2 72 _).congr fun j hj => by
    unfold hcells
    by_cases h : j = 72
    ·
     subst h; rfl
    ·
     rw [if_neg h]
     by_cases c2 : j < 8
     ·
      rw [if_pos c2,if_pos c2]
     ·
      rw [if_neg c2,if_neg c2,if_pos (by omega),if_pos (by omega)]
   have hbs : But g w2 (w2.setCell ⟨g,72,none⟩ (.int .i64 (N2 : Int))):=But.set (But.refl _ _) _ _
   have hS3:=(hS2.but hbs).tail hmr hrc
   have hK3:=hK2.grown hbs HG.out.symm
   have hB3:=But.trans hB2 hbs
   have hTb : ∀ i,N ≤ i → i < N + m → T i < 256:=fun i h1 h2 => by
    obtain ⟨d,rfl⟩ : ∃ d,i = N + d:=⟨i - N,by omega⟩
    rw [HN.out,Nat.add_assoc,HTy.out]; exact HY.out _
   have HTB:=veil hTb
   have HH3:=veil (And.intro hS3 (And.intro hK3 (And.intro hB3 hr3)))
   clear hTb hS3 hK3 hB3 hr3 hbs hS2 hK2 hB2
   have HSZ:=veil (show lenOf (.slice (tailAt bb o m c) (r - m) (c - m)) < lenOf (.slice (some ⟨bb,o,none⟩) r c) by show r - m < r; omega)
   by_cases hful : fl + m = 64
   ·
    have hq : (fl : Int) + (m : Int) = 64:=by omega
    have hok2:=HK.out.full (m:=m) (by rw [← HF.out]; exact hful) HTB.out
    rw [← HBLK.out,← HN2.out] at hok2
    have HO:=veil hok2
    clear hok2
    go_upto_region 6 with (fail)
    clear cL fL hr2 q1 q2 q3
    generalize w2.setCell ⟨g,72,none⟩ (.int .i64 (N2 : Int)) = w3 at *
    go_wp2_with ((with_reducible refine (mix_calls g s blk' N2 (HK.out.s ▸ zjv _ _) HO.out.lt _ HH3.out.2.1 HH3.out.2.2.2).mono ?_); rintro e w4 ⟨rfl,hr4,hb4⟩)
    go_roundw
    case rel =>
     refine ⟨_,k + m,r - m,c - m,by omega,by omega,rfl,((HH3.out.1).but hb4).congr fun j _ => by rw [Nat.add_assoc],⟨blockN (fun t => word blk' (4 * t)) s,blk',?_,?_⟩,But.trans HH3.out.2.2.1 hb4,HH3.out.2.1.grown hb4 HG.out.symm⟩
     ·
      rw [← Nat.add_assoc,← HN.out,← HN2.out]; exact HO.out
     ·
      rw [← Nat.add_assoc,← HN.out,← HN2.out]; exact hr4
    case measure => exact HSZ.out
   ·
    have hq : ¬ ((fl : Int) + (m : Int) = 64):=by omega
    have hok2:=HK.out.part (m:=m) (by rw [← HF.out]; omega) HTB.out
    rw [← HBLK.out,← HN2.out] at hok2
    have HO:=veil hok2
    clear hok2
    go_wp2
    go_roundw
    case rel =>
     refine ⟨_,k + m,r - m,c - m,by omega,by omega,rfl,(HH3.out.1).congr fun j _ => by rw [Nat.add_assoc],⟨s,blk',?_,?_⟩,HH3.out.2.2.1,HH3.out.2.1⟩
     ·
      rw [← Nat.add_assoc,← HN.out,← HN2.out]; exact HO.out
     ·
      rw [← Nat.add_assoc,← HN.out,← HN2.out]; exact HH3.out.2.2.2
    case measure => exact HSZ.out
theorem infoB3 : (Tryz.prog.info? 5).map (fun i => (i.zero,i.size,i.bytes)) = some (some (.int .u8 0),1,1):=by kernel_rfl
def padB (len : Nat) (i : Nat) : Nat:=padded (fun _ => 0) len (len + i)
def padN (len : Nat) : Nat:=64 * nBlocks len - len
theorem padN_eq (len : Nat) : padN len = 9 + (64 - (len + 9) % 64) % 64:=by unfold padN nBlocks; omega
theorem padN_all (len : Nat) : len + padN len = 64 * nBlocks len:=by unfold padN nBlocks; omega
theorem padB_lt (len i : Nat) : padB len i < 256:=by
 unfold padB padded
 rw [if_neg (by omega)]
 split
 ·
  omega
 ·
  split
  ·
   omega
  ·
   exact Nat.mod_lt _ (by omega)
theorem cat_pad (b : Nat → Nat) (len : Nat) : cat b len (padB len) = padded b len:=by
 funext i
 unfold cat padB
 by_cases h : i < len
 ·
  rw [if_pos h]; unfold padded; rw [if_pos h]
 ·
  rw [if_neg h,show len + (i - len) = i by omega]; unfold padded; rw [if_neg h,if_neg h]
def padK (len k : Nat) (j : Nat) : Nat:=if j = 0 then 128 else if j + k < padN len then 0 else padB len j
theorem padK_all (len j : Nat) (hj : j < padN len) : padK len 8 j = padB len j:=by
 unfold padK
 by_cases h : j = 0
 ·
  subst h; rw [if_pos rfl]; unfold padB padded; rw [if_neg (by omega),if_pos (by omega)]
 ·
  rw [if_neg h]
  by_cases h2 : j + 8 < padN len
  ·
   rw [if_pos h2]; unfold padB padded
   have:=padN_all len
   rw [if_neg (by omega),if_neg (by omega),if_pos (by omega)]
  ·
   rw [if_neg h2]
theorem padB_last {len k : Nat} (hk : k < 8) : padB len (padN len - 1 - k) = 8 * len / 256 ^ k % 256:=by
 have h1:=padN_eq len
 have h2:=padN_all len
 unfold padB padded
 rw [if_neg (by omega),if_neg (by omega),if_neg (by omega),show 64 * nBlocks len - 1 - (len + (padN len - 1 - k)) = k by omega]
theorem byte_shift (x k : Nat) : (x : Int) / 2 ^ (8 * k) % 256 = ((x / 256 ^ k % 256 : Nat) : Int):=by
 rw [Int.natCast_emod,Int.natCast_ediv,Int.natCast_pow,Nat.mul_comm 8 k,Nat.mul_comm k 8,Int.pow_mul]
 rfl
theorem padding_calls (len : Nat) (hl : len ≤ 288230376151711744) (w : World) :
  Calls Tryz.prog 118 #[.int .i64 (len : Int)] w fun e w' => e = .returned (.slice (some ⟨w.heap.size,0,none⟩) (padN len) (padN len)) ∧ w'.rowIs w.heap.size 5 (padN len) (fun j => .int .u8 (padB len j : Nat)) ∧ Below w.heap.size w w':=by
 have hP:=padN_eq len
 obtain ⟨P,hPP⟩ : ∃ P,P = padN len:=⟨_,rfl⟩
 rw [← hPP] at hP
 obtain ⟨o,ho⟩ : ∃ o,o = (len + 9) % 64:=⟨_,rfl⟩
 obtain ⟨z,hz⟩ : ∃ z,z = (64 - o) % 64:=⟨_,rfl⟩
 have e1 : ((len : Int) + 9) % 64 = (o : Int):=by omega
 have e2 : (64 - (o : Int)) % 64 = (z : Int):=by omega
 have e3 : 9 + (z : Int) = (P : Int):=by omega
 have ho64 : o < 64:=by omega
 have hz64 : z < 64:=by omega
 have hP9 : 9 ≤ P:=by omega
 have hP72 : P ≤ 72:=by omega
 have hmk:=fun W => run_make_row' (P:=Tryz.prog) 24 5 (.int .u8 0) 1 Tryz.underlying24 infoB3 rfl .i64 .i64 P (by omega) (by omega) W
 have HP:=veil hPP
 clear hP hz ho hPP
 go_enter Tryz.func118,Tryz.ntmps118
 go_upto_region 5 with (fail)
 have hR:=World.rowIs_made w (.int .u8 0) P 5
 have hb : Below w.heap.size w (w.alloc (.cells (madeCells #[.int .u8 0] P) 5)):=(Below.refl _ _).alloc (Nat.le_refl _) _
 generalize w.alloc (.cells (madeCells #[.int .u8 0] P) 5) = w1 at *
 generalize hgz : w.heap.size = g at *
 have HGZ:=veil hgz
 clear hgz hmk
 have c0:=hR.cell (show 0 < P by omega)
 have f0:=hR.frozen 0
 have hP0 : 0 < P:=by omega
 go_upto_region 6 with (fail)
 have hR1 : (w1.setCell ⟨g,0,none⟩ (.int .u8 128)).rowIs g 5 P (fun j => .int .u8 (padK len 0 j : Nat)):=(hR.set 0 _).congr fun j hj => by
  unfold padK
  by_cases h : j = 0
  ·
   rw [if_pos h,if_pos h]; rfl
  ·
   rw [if_neg h,if_neg h,if_pos (by rw [← HP.out]; omega)]; rfl
 have hb1 : Below g w (w1.setCell ⟨g,0,none⟩ (.int .u8 128)):=zai hb (Nat.le_refl _) _
 generalize w1.setCell ⟨g,0,none⟩ (.int .u8 128) = w2 at *
 have e4 : (len : Int) * 8 = ((8 * len : Nat) : Int):=by omega
 obtain ⟨bc,hbc⟩ : ∃ bc,bc = 8 * len:=⟨_,rfl⟩
 have hbl : bc ≤ 2305843009213693952:=by omega
 rw [← hbc] at e4
 have HBC:=veil hbc
 clear c0 f0 hR hb hbc
 go_wp2
 go_loopw [25] (fun v wr => ∃ k : Nat,k ≤ 8 ∧ v = .int .i64 (k : Int) ∧ wr.rowIs g 5 P (fun j => .int .u8 (padK len k j : Nat)) ∧ Below g w wr)
  (fun v _ => 8 - (intOf v).toNat)
 case atStart => exact ⟨0,by omega,rfl,hR1,hb1⟩
 case round =>
  obtain ⟨k,hk,rfl,hR,hb⟩:=hrel
  by_cases hlt : k < 8
  ·
   obtain ⟨d,hd⟩ : ∃ d,d = P - 1 - k:=⟨_,rfl⟩
   have hdP : d < P:=by omega
   have hdi : (P : Int) - 1 - (k : Int) = (d : Int):=by omega
   have c0:=hR.cell hdP
   have f0:=hR.frozen d
   have HD:=veil hd
   clear hd
   go_wp2
   go_roundw
   case rel =>
    refine ⟨k + 1,by omega,by go_num,(hR.set d _).congr fun j hj => ?_,zai hb (Nat.le_refl _) _⟩
    by_cases h : j = d
    ·
     rw [if_pos h,byte_shift]
     have hd:=HD.out
     unfold padK
     rw [if_neg (by omega),← HP.out,if_neg (by omega),h,hd,HP.out,padB_last hlt,HBC.out]
    ·
     rw [if_neg h]
     have hd:=HD.out
     unfold padK
     rw [← HP.out]
     by_cases h0 : j = 0
     ·
      rw [if_pos h0,if_pos h0]
     ·
      rw [if_neg h0,if_neg h0]
      by_cases h1 : j + k < P
      ·
       rw [if_pos h1,if_pos (by omega)]
      ·
       rw [if_neg h1,if_neg (by omega)]
   case measure => simp [intOf]; omega
  ·
   obtain rfl : k = 8:=by omega
   go_wp2
   go_ret
   exact ⟨by rw [HP.out,HGZ.out]; rfl,by rw [HGZ.out,← HP.out]; exact hR.congr (fun j hj => by rw [padK_all len j (by rw [← HP.out]; exact hj)]),by rw [HGZ.out]; exact hb⟩
/-! ### New,Len,Clone -/
def zH : Array Value:=arrOf 73 (hcells ⟨0,0,0,0,0,0,0,0⟩ (fun _ => 0) 0)
theorem zH_size : zH.size = 73:=zan _ _
theorem zero_hash (w : World) : (zeroValue 160).run Tryz.prog w = .ok (.agg zH) w:=(zero_of_info (P:=Tryz.prog) (t:=160) (v:=.agg zH) (n:=73) (by kernel_rfl)).1 w
theorem hok_none (b : Nat → Nat) : HOk b 0 (blocksN (fun _ => 0) 0) (fun _ => 0):=⟨rfl,fun _ h => by omega,fun _ => by decide⟩
theorem new_calls (w : World) :
  Calls Tryz.prog 60 #[] w fun e w' => e = .returned (.pointer (some ⟨w.heap.size,0,none⟩)) ∧ (∀ b,HashIs w' w.heap.size b 0) ∧ Below w.heap.size w w':=by
 have z1:=zero_hash
 have z2:=zH_size
 go_enter Tryz.func60,Tryz.ntmps60
 go_wp2
 generalize hX : Obj.cells _ 160 = X
 have hX2 : X = .cells (arrOf 73 (hcells (blocksN (fun _ => 0) 0) (fun _ => 0) 0)) 160:=by rw [← hX]; rfl
 clear hX
 subst hX2
 have hr : HRow (w.alloc (.cells (arrOf 73 (hcells (blocksN (fun _ => 0) 0) (fun _ => 0) 0)) 160)) w.heap.size (blocksN (fun _ => 0) 0) (fun _ => 0) 0:=zav w 73 160 _ rfl
 have hb : Below w.heap.size w (w.alloc (.cells (arrOf 73 (hcells (blocksN (fun _ => 0) 0) (fun _ => 0) 0)) 160)):=(Below.refl _ _).alloc (Nat.le_refl _) _
 go_ret
 exact ⟨rfl,fun b => ⟨_,_,hok_none b,hr⟩,hb⟩
theorem infoH : (Tryz.prog.info? 160).map (·.size) = some 73:=by kernel_rfl
theorem hone (s : St) (blk : Nat → Nat) (len : Nat) : (arrOf 73 (hcells s blk len)).all (·.oneCell') = true:=zau fun j _ => by
 unfold hcells
 split
 ·
  rfl
 ·
  split <;> rfl
theorem clone_calls (g L : Nat) (b : Nat → Nat) (w : World) (hH : HashIs w g b L) :
  Calls Tryz.prog 117 #[.pointer (some ⟨g,0,none⟩)] w fun e w' => e = .returned (.pointer (some ⟨w.heap.size,0,none⟩)) ∧ HashIs w' w.heap.size b L ∧ Below w.heap.size w w':=by
 obtain ⟨s,blk,hok,hrow⟩:=hH
 have hg:=blkOf hrow
 obtain ⟨X,hX⟩ : ∃ X,X = arrOf 73 (hcells s blk L):=⟨_,rfl⟩
 rw [← hX] at hg
 have HG:=veil hg
 have HX:=veil (show X.size = 73 ∧ X.all (·.oneCell') = true from ⟨by rw [hX,zan],by rw [hX]; exact hone s blk L⟩)
 have HI:=veil (show (Tryz.prog.info? 160).map (·.size) = some X.size by rw [HX.out.1]; exact infoH)
 have HXX:=veil hX
 have z1:=zero_hash
 have HO:=veil hok
 clear hg hX hok hrow
 go_enter Tryz.func117,Tryz.ntmps117
 go_wp2_with (first
  | ((with_reducible refine zac 6 ?_); refine wpList_load_row rfl 160 _ rfl g rfl 160 X (0,0) _ HG.out Tryz.underlying160 rfl HI.out ?_)
  | ((with_reducible refine zak ?_); refine wpList_store_row rfl 160 _ _ rfl w.heap.size X rfl rfl 160 _ (heap_alloc_last w _) HI.out (by rw [HX.out.1,zH_size]) HX.out.2 ?_; rw [World.setRow_alloc_new]))
 go_ret
 refine ⟨rfl,⟨s,blk,HO.out,?_⟩,(Below.refl _ _).alloc (Nat.le_refl _) _⟩
 rw [HXX.out]
 exact zav w 73 160 _ rfl
def dByte (s : St) (i : Nat) : Nat:=s.at (i / 4) / 256 ^ (3 - i % 4) % 256
def dgst (b : Nat → Nat) (len : Nat) : Array Value:=arrOf 32 fun i => .int .u8 (dByte (shaSt b len) i : Nat)
theorem infoD : (Tryz.prog.info? 23).map (·.size) = some 32:=by kernel_rfl
theorem zeros32 : (#[.int .u8 0,.int .u8 0,.int .u8 0,.int .u8 0,.int .u8 0,.int .u8 0,.int .u8 0,.int .u8 0,.int .u8 0,.int .u8 0,.int .u8 0,.int .u8 0,.int .u8 0,.int .u8 0,.int .u8 0,.int .u8 0,.int .u8 0,.int .u8 0,.int .u8 0,.int .u8 0,.int .u8 0,.int .u8 0,.int .u8 0,.int .u8 0,.int .u8 0,.int .u8 0,.int .u8 0,.int .u8 0,.int .u8 0,.int .u8 0,.int .u8 0,.int .u8 0] : Array Value) = arrOf 32 (fun _ => .int .u8 0):=rfl
theorem shaSt_of {b : Nat → Nat} {L : Nat} {s : St} {blk : Nat → Nat} (h : HOk (cat b L (padB L)) (L + padN L) s blk) : s = shaSt b L:=by
 rw [h.s,padN_all,cat_pad,Nat.mul_div_cancel_left _ (by decide : 0 < 64)]
 rfl
theorem hsum_calls (g L : Nat) (b : Nat → Nat) (hL : L ≤ 1048576) (w : World) (hK : KT w) (hH : HashIs w g b L) :
  Calls Tryz.prog 62 #[.pointer (some ⟨g,0,none⟩)] w fun e w' => e = .returned (.agg (dgst b L)) ∧ Below w.heap.size w w':=by
 go_enter Tryz.func62,Tryz.ntmps62
 go_upto_region 1 with (fail)
 rw [zeros32]
 have hR0 : (w.alloc (.cells (arrOf 32 (fun _ => .int .u8 0)) 23)).rowIs w.heap.size 23 32 (fun _ => .int .u8 0):=zav w 32 23 _ rfl
 have hb0 : Below w.heap.size w (w.alloc (.cells (arrOf 32 (fun _ => .int .u8 0)) 23)):=(Below.refl _ _).alloc (Nat.le_refl _) _
 have hK0:=hK.alloc (.cells (arrOf 32 (fun _ => .int .u8 0)) 23)
 have hH0:=hH.alloc (.cells (arrOf 32 (fun _ => .int .u8 0)) 23)
 have hg0 : 0 < w.heap.size:=hK.lt
 generalize w.alloc (.cells (arrOf 32 (fun _ => .int .u8 0)) 23) = w1 at *
 generalize hgr : w.heap.size = gR at *
 have HGR:=veil hgr
 clear hgr hK hH
 go_wp2_with fail
 refine (clone_calls g L b w1 hH0).mono ?_
 rintro e w2 ⟨rfl,hC,hb2⟩
 have hR2:=zad hR0 hb2 hR0.lt
 have hK2:=hK0.call hb2
 have hH2:=hH0.call hb2
 have hB2:=hb0.trans (hb2.mono (Nat.le_of_lt hR0.lt))
 have hgC : gR < w1.heap.size:=hR0.lt
 have hz2:=hC.lt
 generalize w1.heap.size = gC at *
 have cL:=hH2.len
 clear hR0 hK0 hH0 hb0 hb2
 go_wp2_with fail
 refine (padding_calls L (by omega) w2).mono ?_
 rintro e w3 ⟨rfl,hP,hb3⟩
 have hC3:=hC.call hb3
 have hK3:=hK2.call hb3
 have hR3:=zad hR2 hb3 hR2.lt
 have hB3:=hB2.trans (hb3.mono (by omega))
 have hS3 : Src w3 (some ⟨w2.heap.size,0,none⟩) (padN L) (padB L) gC:=.inr ⟨_,0,rfl,hP.lt,by omega,fun j hj => by rw [Nat.zero_add]; exact hP.cell hj⟩
 clear hC hK2 hR2 hB2 hb3 cL hH2 hP
 go_wp2_with fail
 refine (zfe gC b L _ (padN L) (padN L) (padB L) (padB_lt L) (Nat.le_refl _) (by have:=padN_eq L; omega) (by omega) w3 hK3 hC3 hS3).mono ?_
 rintro e w4 ⟨rfl,⟨s,blk,hok,hrow⟩,hb4⟩
 have hR4:=zef hR3 hb4 (by omega)
 have hB4:=hB3.trans (But.new hb4 (B:=gR) (by omega) (by have:=hR3.lt; omega))
 obtain rfl:=shaSt_of hok
 clear hR3 hB3 hS3 hC3 hK3 hb4 hok
 obtain ⟨sh,hsh⟩ : ∃ sh,sh = shaSt b L:=⟨_,rfl⟩
 rw [← hsh] at hrow
 have HSH:=veil hsh
 clear hsh
 have hlt4 : gR < w4.heap.size:=hR4.lt
 go_upto_region 4 with (fail)
 rw [zeros32]
 have hO5 : (w4.alloc (.cells (arrOf 32 (fun _ => .int .u8 0)) 23)).rowIs w4.heap.size 23 32 (fun _ => .int .u8 0):=zav w4 32 23 _ rfl
 have hR5:=hR4.alloc (.cells (arrOf 32 (fun _ => .int .u8 0)) 23)
 have hB5:=hB4.alloc (by omega) (.cells (arrOf 32 (fun _ => .int .u8 0)) 23)
 have hw5:=veil (hrow.alloc (.cells (arrOf 32 (fun _ => .int .u8 0)) 23)).words
 generalize w4.alloc (.cells (arrOf 32 (fun _ => .int .u8 0)) 23) = w5 at *
 generalize hgo : w4.heap.size = gO at *
 have hgRO : gR < gO:=by omega
 clear hrow hR4 hB4 hgo
 have kx : ∀ j : Nat,j < 8 → ∀ W,(Instr.index 157 (.agg (stArr sh)) (.int .i64 (j : Int))).run Tryz.prog W = .ok (.int .u32 (sh.at j : Nat)) W:=fun j hj W =>
  zcx (P:=Tryz.prog) (t:=157) (v:=.int .u32 (sh.at j : Nat)) Tryz.underlying157 (by kernel_rfl) (fun W => run_part_plain (P:=Tryz.prog) W (e:=120) (by kernel_rfl) (off:=j) (zbt (n:=8) (fun i => .int .u32 (sh.at i : Nat)) hj)) hj .i64 W
 have KX:=veil kx
 have HSL:=veil (stList sh)
 clear kx
 go_wp2_with ((with_reducible refine zac 20 ?_); refine wpList_load_mid rfl 157 _ rfl gC 0 rfl _ _ hw5.out Tryz.underlying157 rfl (by simpa using infoS) ?_; rw [HSL.out]; generalize hSA : stArr sh = SA at *; have HSA:=veil hSA; clear hSA)
 clear hw5
 go_loopw [21] (fun v wr => ∃ i : Nat,i ≤ 8 ∧ v = .int .i64 (i : Int) ∧ wr.rowIs gO 23 32 (fun p => .int .u8 ((if p < 4 * i then dByte sh p else 0 : Nat) : Int)) ∧ wr.rowIs gR 23 32 (fun _ => .int .u8 0) ∧ Below gR w wr)
  (fun v _ => 8 - (intOf v).toNat)
 case atStart => exact ⟨0,by omega,rfl,hO5,hR5,hB5⟩
 case round =>
  obtain ⟨i,hi,rfl,hO,hR,hB⟩:=hrel
  by_cases hlt : i < 8
  ·
   have ki:=KX.out i hlt
   obtain ⟨x,hx⟩ : ∃ x,x = sh.at i:=⟨_,rfl⟩
   rw [← hx] at ki
   have HX:=veil hx
   have hd : decide ((i : Int) < 8) = true:=by simp; omega
   clear hx
   go_wp2
   go_loopw [25] (fun v wr => ∃ j : Nat,j ≤ 4 ∧ v = .int .i64 (j : Int) ∧ wr.rowIs gO 23 32 (fun p => .int .u8 ((if p < 4 * i + j then dByte sh p else 0 : Nat) : Int)) ∧ wr.rowIs gR 23 32 (fun _ => .int .u8 0) ∧ Below gR w wr)
    (fun v _ => 4 - (intOf v).toNat)
   case atStart => exact ⟨0,by omega,rfl,hO,hR,hB⟩
   case round =>
    obtain ⟨j,hj,rfl,hO,hR,hB⟩:=hrel
    by_cases hlj : j < 4
    ·
     obtain ⟨p,hp⟩ : ∃ p,p = 4 * i + j:=⟨_,rfl⟩
     have hp32 : p < 32:=by omega
     have hpi : (i : Int) * 4 + (j : Int) = (p : Int):=by omega
     have c0:=hO.cell hp32
     have f0:=hO.frozen p
     have HP:=veil hp
     clear hp
     go_wp2
     go_roundw
     case rel =>
      refine ⟨j + 1,by omega,by go_num,(hO.set p _).congr fun q hq => ?_,zat hR (by omega) _,zai hB (by omega) _⟩
      have hp:=HP.out
      by_cases h : q = p
      ·
       rw [if_pos h,if_pos (by omega),byte_shift]
       unfold dByte
       rw [show q / 4 = i by omega,show 3 - q % 4 = 3 - j by omega,← HX.out]
      ·
       rw [if_neg h]
       by_cases h2 : q < 4 * i + j
       ·
        rw [if_pos h2,if_pos (by omega)]
       ·
        rw [if_neg h2,if_neg (by omega)]
     case measure => simp [intOf]; omega
    ·
     have e4 : j = 4:=by omega
     have hjf : decide ((j : Int) < 4) = false:=by simp; omega
     have hO : wr.rowIs gO 23 32 (fun p => .int .u8 ((if p < 4 * (i + 1) then dByte sh p else 0 : Nat) : Int)):=hO.congr fun p _ => by rw [e4,show 4 * (i + 1) = 4 * i + 4 by omega]
     clear e4 hlj hj
     go_wp2
     go_roundw
     case rel => exact ⟨i + 1,by omega,by go_num,hO,hR,hB⟩
     case measure => simp [intOf]; omega
  ·
   have e8 : i = 8:=by omega
   have hif : decide ((i : Int) < 8) = false:=by simp; omega
   have hO : wr.rowIs gO 23 32 (fun p => .int .u8 (dByte sh p : Nat)):=hO.congr fun p hp => by rw [if_pos (by omega)]
   have HA:=veil (blkOf hO)
   have HN:=veil (blkOf hR)
   obtain ⟨D,hD⟩ : ∃ D,D = arrOf 32 (fun p => .int .u8 (dByte sh p : Nat)):=⟨_,rfl⟩
   rw [← hD] at HA
   have hs : D.size = 32:=by rw [hD,zan]
   have h1 : D.all (·.oneCell') = true:=by rw [hD]; exact zau fun _ _ => rfl
   have HZ:=veil (And.intro hs (And.intro h1 (show (Tryz.prog.info? 23).map (·.size) = some D.size by rw [hs]; exact infoD)))
   have HD:=veil (show D = dgst b L by rw [hD,HSH.out]; rfl)
   clear hs h1 hD e8 hlt hi hO hR
   go_wp2_with (first
    | ((with_reducible refine zac 41 ?_); refine wpList_load_row rfl 23 _ rfl gO rfl 23 D (0,0) _ HA.out Tryz.underlying23 rfl HZ.out.2.2 ?_)
    | ((with_reducible refine zak ?_); refine wpList_store_row rfl 23 _ _ rfl gR D rfl rfl 23 _ HN.out HZ.out.2.2 (by rw [HZ.out.1,zan]) HZ.out.2.1 ?_))
   exact bodyPost_ret (results_cell_row rfl _ _ gR 23 D (0,0) _ rfl (setRow_heap wr gR _ D 23 (0,0) HN.out) Tryz.underlying23 rfl HZ.out.2.2) rfl ⟨by rw [HD.out],by rw [HGR.out]; exact zcc hB (Nat.le_refl _) _⟩
theorem zaw (b : Nat → Nat) (n : Nat) : (dgst b n).size = 32:=zan _ _
theorem Src.at {w : World} {A : Option Addr} {n g g' : Nat} {y : Nat → Nat} (h : Src w A n y g) (hg : w.heap.size ≤ g') : Src w A n y g':=by
 rcases h with h | ⟨b,o,ha,hlt,_,hc⟩
 ·
  exact .inl h
 ·
  exact .inr ⟨b,o,ha,hlt,by omega,hc⟩
theorem zid (b y : Nat → Nat) : cat b 0 y = y:=by funext i; unfold cat; rw [if_neg (by omega),Nat.sub_zero]
theorem sum_calls (A : Option Addr) (n c : Nat) (y : Nat → Nat) (hy : ∀ j,y j < 256) (hnc : n ≤ c) (hn : n ≤ 1048576) (w : World) (hK : KT w) (hS : Src w A n y w.heap.size) :
  Calls Tryz.prog 27 #[.slice A n c] w fun e w' => e = .returned (.agg (dgst y n)) ∧ Below w.heap.size w w':=by
 have hS0:=hS.at (Nat.le_refl w.heap.size)
 go_enter Tryz.func27,Tryz.ntmps27
 go_upto_region 1 with (fail)
 rw [zeros32]
 have hR0 : (w.alloc (.cells (arrOf 32 (fun _ => .int .u8 0)) 23)).rowIs w.heap.size 23 32 (fun _ => .int .u8 0):=zav w 32 23 _ rfl
 have hb0 : Below w.heap.size w (w.alloc (.cells (arrOf 32 (fun _ => .int .u8 0)) 23)):=(Below.refl _ _).alloc (Nat.le_refl _) _
 have hK0:=hK.alloc (.cells (arrOf 32 (fun _ => .int .u8 0)) 23)
 have hg0 : 0 < w.heap.size:=hK.lt
 have hS1:=(hS.at (g':=w.heap.size + 1) (by omega)).below hb0
 have hsz : (w.alloc (.cells (arrOf 32 (fun _ => .int .u8 0)) 23)).heap.size = w.heap.size + 1:=by simp
 generalize w.alloc (.cells (arrOf 32 (fun _ => .int .u8 0)) 23) = w1 at *
 generalize hgr : w.heap.size = gR at *
 have HGR:=veil hgr
 have HY:=veil hy
 clear hgr hK hS hS0 hy
 go_wp2_with fail
 refine (new_calls w1).mono ?_
 rintro e w2 ⟨rfl,hC,hb2⟩
 have hR2:=zad hR0 hb2 hR0.lt
 have hK2:=hK0.call hb2
 have hB2:=hb0.trans (hb2.mono (by omega))
 have hS2:=hS1.below hb2
 rw [hsz] at hC ⊢
 have HC:=veil (hC (fun _ => 0))
 clear hR0 hK0 hb0 hb2 hS1 hC hsz
 go_wp2_with fail
 refine (zfe (gR + 1) (fun _ => 0) 0 A n c y HY.out hnc (by omega) (by omega) w2 hK2 HC.out hS2).mono ?_
 rintro e w3 ⟨rfl,hH3,hb3⟩
 rw [Nat.zero_add,zid] at hH3
 have hR3:=zef hR2 hb3 (by omega)
 have hK3:=hK2.grown hb3 (by omega)
 have hB3:=hB2.trans (But.new hb3 (B:=gR) (by omega) (by have:=hR2.lt; omega))
 clear hR2 hK2 hB2 hS2 HC hb3
 go_wp2_with fail
 refine (hsum_calls (gR + 1) n y hn w3 hK3 hH3).mono ?_
 rintro e w4 ⟨rfl,hb4⟩
 have hR4:=zad hR3 hb4 hR3.lt
 have hB4:=hB3.trans (hb4.mono (by have:=hR3.lt; omega))
 have HN:=veil (blkOf hR4)
 have HZ:=veil (And.intro (zaw y n) (And.intro (show (dgst y n).all (·.oneCell') = true from zau fun _ _ => rfl) (show (Tryz.prog.info? 23).map (·.size) = some (dgst y n).size by rw [zaw]; exact infoD)))
 obtain ⟨D,hD⟩ : ∃ D,D = dgst y n:=⟨_,rfl⟩
 rw [← hD] at HZ ⊢
 have HD:=veil hD
 clear hR3 hK3 hB3 hH3 hb4 hR4 hD
 go_wp2_with ((with_reducible refine zak ?_); refine wpList_store_row rfl 23 _ _ rfl gR D rfl rfl 23 _ HN.out HZ.out.2.2 (by rw [HZ.out.1,zan]) HZ.out.2.1 ?_)
 exact bodyPost_ret (results_cell_row rfl _ _ gR 23 D (0,0) _ rfl (setRow_heap w4 gR _ D 23 (0,0) HN.out) Tryz.underlying23 rfl HZ.out.2.2) rfl ⟨by rw [HD.out],by rw [HGR.out]; exact zcc hB4 (Nat.le_refl _) _⟩
theorem infoU32 : (Tryz.prog.info? 120).map (fun i => (i.zero,i.size,i.bytes)) = some (some (.int .u32 0),1,4):=by kernel_rfl
def kCells : Array Value:=(kList.map fun (k : Nat) => Value.int .u32 (k : Int)).toArray
theorem constants_calls (w : World) :
  Calls Tryz.prog 69 #[] w fun e w' => e = .returned (.slice (some ⟨w.heap.size,0,none⟩) 64 64) ∧ w' = w.alloc (.cells kCells 120):=by
 go_enter Tryz.func69,Tryz.ntmps69
 go_wp2
 go_ret
 exact ⟨rfl,congrArg (fun c => w.alloc (.cells c 120)) (by unfold kCells kList; rfl)⟩
theorem kRow {w : World} {g : Nat} (hg : g = w.heap.size) : (w.alloc (.cells kCells 120)).rowIs g 120 64 (fun j => .int .u32 (kc j : Nat)):=by
 refine zaj hg (by unfold kCells kList; rfl) fun i hi => ?_
 unfold kCells kc
 have hl : kList.length = 64:=by decide
 simp [List.getD,hl,hi]
theorem src_from {w : World} {A : Option Addr} {n g : Nat} {y : Nat → Nat} (h : Src w A n y g) : From w A n (fun j => .int .u8 (y j : Nat)):=by
 rcases h with h | ⟨b,o,rfl,_,_,hc⟩
 ·
  exact .inl h
 ·
  exact .inr ⟨_,rfl,fun j hj => by rw [Addr.add_mid]; exact hc j hj⟩
def txv (y : Nat → Nat) (n : Nat) (j : Nat) : Value:=.int .u8 (padded y n j : Nat)
theorem txv_lo {y : Nat → Nat} {n j : Nat} (h : j < n) : txv y n j = .int .u8 (y j : Nat):=by unfold txv padded; rw [if_pos h]
theorem txv_at {y : Nat → Nat} {n : Nat} : txv y n n = .int .u8 128:=by unfold txv padded; rw [if_neg (by omega),if_pos rfl]; rfl
theorem txv_mid {y : Nat → Nat} {n j : Nat} (h1 : n < j) (h2 : j < 64 * nBlocks n - 8) : txv y n j = .int .u8 0:=by unfold txv padded; rw [if_neg (by omega),if_neg (by omega),if_pos h2]; rfl
theorem txv_hi {y : Nat → Nat} {n j : Nat} (h1 : 64 * nBlocks n - 8 ≤ j) (h2 : n < j) : txv y n j = .int .u8 ((8 * n / 256 ^ (64 * nBlocks n - 1 - j) % 256 : Nat) : Int):=by unfold txv padded; rw [if_neg (by omega),if_neg (by omega),if_neg (by omega)]
theorem own_one (w : World) (e : Nat) (x : Value) : Own (w.alloc (.cells #[x] e)) w.heap.size e (.slice (some ⟨w.heap.size,0,none⟩) 1 1) 1 (fun _ => x) :=
 Own.made w (cs:=#[x]) (Nat.le_refl _) (show 1 ≤ maxLen by decide) fun j hj => by
  have : j = 0:=by simpa using hj
  subst this
  rfl
structure RF (w wr : World) (gR gT gH gK N : Nat) (tx : Nat → Value) (st : Nat → Value) : Prop where
 text : Pre wr gT 5 N tx
 h : wr.rowIs gH 120 8 st
 k : wr.rowIs gK 120 64 (fun j => .int .u32 (kc j : Nat))
 r : wr.rowIs gR 23 32 (fun _ => .int .u8 0)
 b : Below gR w wr
 o1 : gR < gT
 o2 : gT < gH
 o3 : gH < gK
section
variable {w wr w' : World} {gR gT gH gK N : Nat} {tx : Nat → Value} {st st' : Nat → Value}
theorem RF.lt (f : RF w wr gR gT gH gK N tx st) : gK < wr.heap.size:=f.k.lt
theorem RF.of (f : RF w wr gR gT gH gK N tx st) (hk : ∀ b,b ≤ gK → w'.heap[b]? = wr.heap[b]?) (hb : Below gR wr w') : RF w w' gR gT gH gK N tx st:=by
 have:=f.o1; have:=f.o2; have:=f.o3
 exact ⟨f.text.of_block (hk gT (by omega)),f.h.of_block (hk gH (by omega)),f.k.of_block (hk gK (by omega)),f.r.of_block (hk gR (by omega)),f.b.trans hb,f.o1,f.o2,f.o3⟩
theorem RF.drewN (f : RF w wr gR gT gH gK N tx st) (k : Nat) : RF w (wr.drewN k) gR gT gH gK N tx st:=⟨f.text,f.h,f.k,f.r,zaz f.b k,f.o1,f.o2,f.o3⟩
theorem RF.drew (f : RF w wr gR gT gH gK N tx st) : RF w wr.drew gR gT gH gK N tx st:=⟨f.text,f.h,f.k,f.r,f.b.drew,f.o1,f.o2,f.o3⟩
theorem RF.alloc (f : RF w wr gR gT gH gK N tx st) (o : Obj) : RF w (wr.alloc o) gR gT gH gK N tx st:=by
 have:=f.o1; have:=f.o2; have:=f.o3; have:=f.lt
 exact f.of (fun b hb => Below.heap_alloc _ _ _ (by omega)) ((Below.refl _ _).alloc (by omega) o)
theorem RF.grown (f : RF w wr gR gT gH gK N tx st) {row : Option Nat} (hg : wr.grownBy w' row) (hr : ∀ k,row = some k → gK < k) : RF w w' gR gT gH gK N tx st:=by
 have:=f.o1; have:=f.o2; have:=f.o3; have:=f.lt
 exact f.of (fun b hb => hg.block b (by omega) (fun e => by have:=hr b e.symm; omega)) ((Below.refl _ _).grown hg (by omega) (fun k e => by have:=hr k e; omega))
theorem RF.far (f : RF w wr gR gT gH gK N tx st) {b i : Nat} (hb : gK < b) (v : Value) : RF w (wr.setCell ⟨b,i,none⟩ v) gR gT gH gK N tx st:=by
 have:=f.o1; have:=f.o2; have:=f.o3
 exact f.of (fun c hc => Below.heap_setCell _ _ _ _ (by show c ≠ b; omega)) ((Below.refl _ _).setCell (p:=⟨b,i,none⟩) (by show gR ≤ b; omega) v)
end
theorem RF.setH {w wr : World} {gR gT gH gK N : Nat} {tx st : Nat → Value} (f : RF w wr gR gT gH gK N tx st) (i : Nat) (v : Value) : RF w (wr.setCell ⟨gH,i,none⟩ v) gR gT gH gK N tx (fun j => if j = i then v else st j):=by
 have:=f.o1; have:=f.o2; have:=f.o3
 exact ⟨f.text.far (by omega) v,f.h.set i v,zat f.k (by omega) v,zat f.r (by omega) v,zai f.b (by omega) v,f.o1,f.o2,f.o3⟩
theorem RF.congrH {w wr : World} {gR gT gH gK N : Nat} {tx st st' : Nat → Value} (f : RF w wr gR gT gH gK N tx st) (h : ∀ j,j < 8 → st j = st' j) : RF w wr gR gT gH gK N tx st' :=
 ⟨f.text,f.h.congr h,f.k,f.r,f.b,f.o1,f.o2,f.o3⟩
def hst (s : St) : Nat → Value:=fun j => .int .u32 (s.at j : Nat)
theorem keep_step {w W W' : World} {gR : Nat} {o : Obj} {row : Option Nat} (hR : W.rowIs gR 23 32 (fun _ => .int .u8 0)) (hB : Below gR w W) (hg : (W.alloc o).grownBy W' row) (hr : ∀ k,row = some k → gR + 1 ≤ k) :
  W'.rowIs gR 23 32 (fun _ => .int .u8 0) ∧ Below gR w W' ∧ gR < W'.heap.size:=by
 have hz:=hR.lt
 have h1:=zir (hR.alloc o) hg (fun e => by have:=hr gR e.symm; omega)
 exact ⟨h1,(hB.alloc (by omega) o).grown hg (by simp; omega) (fun k e => by have:=hr k e; omega),h1.lt⟩
theorem wrap8 (n : Int) : IntKind.u8.wrap n = n % 256:=by simp [IntKind.wrap,IntKind.signed,IntKind.bits]
theorem xor8 (a b : Nat) (ha : a < 256) (hb : b < 256) : bits .xor .u8 (a : Int) (b : Int) = ((a ^^^ b : Nat) : Int):=by
 have hx : a ^^^ b < 2 ^ 8:=Nat.xor_lt_two_pow (by omega) (by omega)
 have e1 : (BitVec.ofInt 8 (a : Int)).toNat = a:=by rw [BitVec.ofInt_natCast,BitVec.toNat_ofNat]; exact Nat.mod_eq_of_lt (by omega)
 have e2 : (BitVec.ofInt 8 (b : Int)).toNat = b:=by rw [BitVec.ofInt_natCast,BitVec.toNat_ofNat]; exact Nat.mod_eq_of_lt (by omega)
 show IntKind.u8.wrap ((BitVec.ofInt 8 (a : Int) ^^^ BitVec.ofInt 8 (b : Int)).toNat : Int) = _
 rw [BitVec.toNat_xor,e1,e2,wrap8]
 omega
theorem xor8_lt {a b : Nat} (ha : a < 256) (hb : b < 256) : a ^^^ b < 256:=Nat.xor_lt_two_pow (n:=8) (by omega) (by omega)
def upTo (y : Nat → Nat) (n j : Nat) : Nat:=if j < n then y j else 0
def kb (y : Nat → Nat) (n : Nat) : Nat → Nat:=if n > 64 then upTo (fun j => dByte (shaSt y n) j) 32 else upTo y n
theorem upTo_lt {y : Nat → Nat} (hy : ∀ j,y j < 256) (n j : Nat) : upTo y n j < 256:=by
 unfold upTo
 split
 ·
  exact hy j
 ·
  omega
theorem zib (s : St) (i : Nat) : dByte s i < 256:=Nat.mod_lt _ (by omega)
theorem kb_lt {y : Nat → Nat} (hy : ∀ j,y j < 256) (n j : Nat) : kb y n j < 256:=by
 unfold kb
 split
 ·
  exact upTo_lt (fun j => zib _ j) _ _
 ·
  exact upTo_lt hy _ _
def kx (k : Nat → Nat) (x : Nat) (j : Nat) : Value:=.int .u8 ((k j ^^^ x : Nat) : Int)
theorem src_cell {w w' : World} {A : Option Addr} {n g B : Nat} {y : Nat → Nat} (h : Src w A n y g) (hb : Below B w w') (hB : w.heap.size ≤ B) {i : Nat} (hi : i < n) :
  ∃ b o,A = some ⟨b,o,none⟩ ∧ w'.cell? ⟨b,o + i,none⟩ = some (.int .u8 (y i : Nat)):=by
 rcases h with h | ⟨b,o,rfl,hlt,_,hc⟩
 ·
  omega
 ·
  exact ⟨b,o,rfl,(hb.cell (by show b < B; omega)).trans (hc i hi)⟩
theorem block_calls (A : Option Addr) (n c : Nat) (y : Nat → Nat) (hy : ∀ j,y j < 256) (hn : n ≤ 1048576) (x : Nat) (hx : x < 256) (w : World) (hS : Src w A n y w.heap.size)
  (K : Calls Tryz.prog 36 #[.slice A n c] w fun e w' => e = .returned (.agg (dgst y n)) ∧ Below w.heap.size w w') :
  Calls Tryz.prog 165 #[.slice A n c,.int .u8 (x : Int)] w fun e w' => ∃ g cap,e = .returned (.slice (some ⟨g,0,none⟩) 64 cap) ∧ Own w' w.heap.size 5 (.slice (some ⟨g,0,none⟩) 64 cap) 64 (kx (kb y n) x) ∧ Below w.heap.size w w':=by
 obtain ⟨i8,hi8,hz0,hz1,hz2⟩:=info_parts infoB3
 have HI:=veil (And.intro hi8 (And.intro hz0 (And.intro hz1 hz2)))
 have HX:=veil hx
 have HK0:=veil K
 clear hi8 hz0 hz1 hz2 hx K
 go_enter Tryz.func165,Tryz.ntmps165
 by_cases hlong : n > 64
 ·
  have HSZ:=veil (And.intro (zaw y n) (And.intro (show (dgst y n).all (·.oneCell') = true from zau fun _ _ => rfl) (show (Tryz.prog.info? 23).map (·.size) = some (dgst y n).size by rw [zaw]; exact infoD)))
  obtain ⟨y',hy'⟩ : ∃ y' : Nat → Nat,y' = fun j => dByte (shaSt y n) j:=⟨_,rfl⟩
  have HK:=veil (show ∀ j,j < 64 → kb y n j = upTo y' 32 j from fun j _ => by unfold kb; rw [if_pos hlong,hy'])
  have HYw:=veil (show ∀ j,y' j < 256 from fun j => by rw [hy']; exact zib _ j)
  obtain ⟨D,hD⟩ : ∃ D,D = dgst y n:=⟨_,rfl⟩
  rw [← hD] at HSZ HK0
  have HD:=veil hD
  clear hD hS hy
  go_upto_region 3 with (first
   | ((with_reducible refine (HK0.out).mono ?_); rintro e w1 ⟨rfl,hb1⟩)
   | ((with_reducible refine zak ?_); refine wpList_store_row rfl 23 _ _ rfl w1.heap.size D rfl rfl 23 _ (heap_alloc_last w1 _) HSZ.out.2.2 (by rw [HSZ.out.1]; rfl) HSZ.out.2.1 ?_; rw [World.setRow_alloc_new]))
  have hr1 : (w1.alloc (.cells D 23)).rowIs w1.heap.size 23 32 (fun j => .int .u8 (dByte (shaSt y n) j : Nat)):=by rw [HD.out]; exact zav w1 32 23 _ rfl
  have hb2 : Below w.heap.size w (w1.alloc (.cells D 23)):=hb1.alloc hb1.size _
  have hs2:=hb2.size
  obtain ⟨gD,hgD⟩ : ∃ gD,gD = w1.heap.size:=⟨_,rfl⟩
  rw [← hgD] at hr1
  generalize w1.alloc (.cells D 23) = ws at *
  have hgl:=hr1.lt
  have HSw : Hid (Src ws (some ⟨gD,0,none⟩) 32 y' ws.heap.size):=veil (.inr ⟨gD,0,rfl,hgl,by omega,fun j hj => by rw [Nat.zero_add,hy']; exact hr1.cell hj⟩)
  obtain ⟨bs,hbs⟩ : ∃ bs,bs = ws.heap.size:=⟨_,rfl⟩
  have HBS:=veil (show ws.heap.size ≤ bs by omega)
  have HB0:=veil hb2
  have hbw : w.heap.size ≤ bs:=by omega
  clear hr1 hb1 HK0 hy'
  rw [← hgD]
  clear hgD
  go_upto_region 6 with (fail)
  go_loopw [6,7] (fun v6 v7 wr => ∃ i : Nat,i ≤ 64 ∧ v7 = .int .i64 (i : Int) ∧ Own wr bs 5 v6 i (kx (kb y n) x) ∧ Below bs ws wr ∧ bs ≤ wr.heap.size)
   (fun _ v7 _ => 64 - (intOf v7).toNat)
  case atStart => exact ⟨0,by omega,rfl,Own.nil _ _ _ _,Below.refl _ _,by omega⟩
  case round =>
   obtain ⟨i,hi,rfl,hO,hB,hzr⟩:=hrel
   by_cases hlt : i < 64
   ·
    by_cases hin : i < 32
    ·
     obtain ⟨b0,o0,hA0,hcell⟩:=src_cell HSw.out hB HBS.out hin
     obtain ⟨Y,hY⟩ : ∃ Y,Y = y' i:=⟨_,rfl⟩
     rw [← hY] at hcell
     have hYl : Y < 256:=by rw [hY]; exact HYw.out i
     have HYi:=veil hY
     clear hY
     obtain ⟨rfl,rfl⟩ : gD = b0 ∧ 0 = o0:=by injection hA0 with e; injection e with e1 e2; exact ⟨e1,e2⟩
     rw [Nat.zero_add] at hcell
     have hxor:=xor8 Y x hYl HX.out
     have HA:=veil (And.intro (hO.alloc (.cells #[.int .u8 ((Y ^^^ x : Nat) : Int)] 5)) (zcy wr (.int .u8 ((Y ^^^ x : Nat) : Int)) 5))
     have HBr:=veil hB
     have HOr:=veil hO
     clear hO hB
     go_wp2_with ((with_reducible refine zac 32 ?_); refine zae _ rfl _ _ 24 rfl bs 5 i8 (.int .u8 0) 1 Tryz.underlying24 HI.out.1 HI.out.2.1 HI.out.2.2.1 HI.out.2.2.2 rfl u6 i _ rfl HA.out.1 (some ⟨wr.heap.size,0,none⟩) 1 1 rfl _ HA.out.2 (fun _ => rfl) (by unfold maxLen; omega) (by omega) (by simp; omega) ?_; intro v4 w3 hO3 hg3 hat3)
     have hB3 : Below bs ws w3:=(HBr.out.alloc (by omega) _).grown hg3 (by simp; omega) (fun k e => (HOr.out.lt e).1)
     have hz3 : bs ≤ w3.heap.size:=by have:=hg3.size; simp at this; omega
     replace hO3 : Own w3 bs 5 v4 (i + 1) (kx (kb y n) x):=hO3.congr fun j hj => by
      by_cases h : j < i
      ·
       rw [if_pos h]
      ·
       obtain rfl : j = i:=by omega
       rw [if_neg h]
       show _ = Value.int .u8 _
       rw [HK.out j (by omega)]
       unfold upTo
       rw [if_pos hin,HYi.out]
     clear hg3 hat3 HA HOr HBr
     go_roundw
     case rel => exact ⟨i + 1,by omega,by go_num,hO3,hB3,hz3⟩
     case measure => simp [intOf]; omega
    ·
     obtain ⟨Z,hZ⟩ : ∃ Z : Nat,Z = 0 ^^^ x:=⟨_,rfl⟩
     have HZ:=veil hZ
     have hxor : bits .xor .u8 0 (x : Int) = (Z : Int):=by rw [hZ]; exact xor8 0 x (by decide) HX.out
     clear hZ
     have HA:=veil (And.intro (hO.alloc (.cells #[.int .u8 (Z : Int)] 5)) (zcy wr (.int .u8 (Z : Int)) 5))
     have HBr:=veil hB
     have HOr:=veil hO
     clear hO hB
     go_wp2_with ((with_reducible refine zac 32 ?_); refine zae _ rfl _ _ 24 rfl bs 5 i8 (.int .u8 0) 1 Tryz.underlying24 HI.out.1 HI.out.2.1 HI.out.2.2.1 HI.out.2.2.2 rfl u6 i _ rfl HA.out.1 (some ⟨wr.heap.size,0,none⟩) 1 1 rfl _ HA.out.2 (fun _ => rfl) (by unfold maxLen; omega) (by omega) (by simp; omega) ?_; intro v4 w3 hO3 hg3 hat3)
     have hB3 : Below bs ws w3:=(HBr.out.alloc (by omega) _).grown hg3 (by simp; omega) (fun k e => (HOr.out.lt e).1)
     have hz3 : bs ≤ w3.heap.size:=by have:=hg3.size; simp at this; omega
     replace hO3 : Own w3 bs 5 v4 (i + 1) (kx (kb y n) x):=hO3.congr fun j hj => by
      by_cases h : j < i
      ·
       rw [if_pos h]
      ·
       obtain rfl : j = i:=by omega
       rw [if_neg h]
       show _ = Value.int .u8 _
       rw [HK.out j (by omega)]
       unfold upTo
       rw [if_neg hin,HZ.out]
     clear hg3 hat3 HA HOr HBr
     go_roundw
     case rel => exact ⟨i + 1,by omega,by go_num,hO3,hB3,hz3⟩
     case measure => simp [intOf]; omega
   ·
    obtain rfl : i = 64:=by omega
    go_wp2
    go_ret
    obtain ⟨g,cap,rfl,_,_,_⟩:=hO.pre (by omega)
    exact ⟨g,cap,rfl,hO.base_le (by omega),HB0.out.trans (hB.mono (by omega))⟩
 ·
  have HSw:=veil hS
  have HYw:=veil hy
  have HK:=veil (show ∀ j,j < 64 → kb y n j = upTo y n j from fun j _ => by unfold kb; rw [if_neg hlong])
  obtain ⟨ws,hws⟩ : ∃ ws,ws = w:=⟨_,rfl⟩
  obtain ⟨bs,hbs⟩ : ∃ bs,bs = ws.heap.size:=⟨_,rfl⟩
  subst hws
  have HBS:=veil (show ws.heap.size ≤ bs by omega)
  have HB0:=veil (Below.refl ws.heap.size ws)
  clear hS hy HK0
  go_upto_region 6 with (fail)
  go_loopw [6,7] (fun v6 v7 wr => ∃ i : Nat,i ≤ 64 ∧ v7 = .int .i64 (i : Int) ∧ Own wr bs 5 v6 i (kx (kb y n) x) ∧ Below bs ws wr ∧ bs ≤ wr.heap.size)
   (fun _ v7 _ => 64 - (intOf v7).toNat)
  case atStart => exact ⟨0,by omega,rfl,Own.nil _ _ _ _,Below.refl _ _,by omega⟩
  case round =>
   obtain ⟨i,hi,rfl,hO,hB,hzr⟩:=hrel
   by_cases hlt : i < 64
   ·
    by_cases hin : i < n
    ·
     obtain ⟨b0,o0,hA0,hcell⟩:=src_cell HSw.out hB HBS.out hin
     obtain ⟨Y,hY⟩ : ∃ Y,Y = y i:=⟨_,rfl⟩
     rw [← hY] at hcell
     have hYl : Y < 256:=by rw [hY]; exact HYw.out i
     have HYi:=veil hY
     clear hY
     subst hA0
     have hxor:=xor8 Y x hYl HX.out
     have HA:=veil (And.intro (hO.alloc (.cells #[.int .u8 ((Y ^^^ x : Nat) : Int)] 5)) (zcy wr (.int .u8 ((Y ^^^ x : Nat) : Int)) 5))
     have HBr:=veil hB
     have HOr:=veil hO
     clear hO hB
     go_wp2_with ((with_reducible refine zac 32 ?_); refine zae _ rfl _ _ 24 rfl bs 5 i8 (.int .u8 0) 1 Tryz.underlying24 HI.out.1 HI.out.2.1 HI.out.2.2.1 HI.out.2.2.2 rfl u6 i _ rfl HA.out.1 (some ⟨wr.heap.size,0,none⟩) 1 1 rfl _ HA.out.2 (fun _ => rfl) (by unfold maxLen; omega) (by omega) (by simp; omega) ?_; intro v4 w3 hO3 hg3 hat3)
     have hB3 : Below bs ws w3:=(HBr.out.alloc (by omega) _).grown hg3 (by simp; omega) (fun k e => (HOr.out.lt e).1)
     have hz3 : bs ≤ w3.heap.size:=by have:=hg3.size; simp at this; omega
     replace hO3 : Own w3 bs 5 v4 (i + 1) (kx (kb y n) x):=hO3.congr fun j hj => by
      by_cases h : j < i
      ·
       rw [if_pos h]
      ·
       obtain rfl : j = i:=by omega
       rw [if_neg h]
       show _ = Value.int .u8 _
       rw [HK.out j (by omega)]
       unfold upTo
       rw [if_pos hin,HYi.out]
     clear hg3 hat3 HA HOr HBr
     go_roundw
     case rel => exact ⟨i + 1,by omega,by go_num,hO3,hB3,hz3⟩
     case measure => simp [intOf]; omega
    ·
     obtain ⟨Z,hZ⟩ : ∃ Z : Nat,Z = 0 ^^^ x:=⟨_,rfl⟩
     have HZ:=veil hZ
     have hxor : bits .xor .u8 0 (x : Int) = (Z : Int):=by rw [hZ]; exact xor8 0 x (by decide) HX.out
     clear hZ
     have HA:=veil (And.intro (hO.alloc (.cells #[.int .u8 (Z : Int)] 5)) (zcy wr (.int .u8 (Z : Int)) 5))
     have HBr:=veil hB
     have HOr:=veil hO
     clear hO hB
     go_wp2_with ((with_reducible refine zac 32 ?_); refine zae _ rfl _ _ 24 rfl bs 5 i8 (.int .u8 0) 1 Tryz.underlying24 HI.out.1 HI.out.2.1 HI.out.2.2.1 HI.out.2.2.2 rfl u6 i _ rfl HA.out.1 (some ⟨wr.heap.size,0,none⟩) 1 1 rfl _ HA.out.2 (fun _ => rfl) (by unfold maxLen; omega) (by omega) (by simp; omega) ?_; intro v4 w3 hO3 hg3 hat3)
     have hB3 : Below bs ws w3:=(HBr.out.alloc (by omega) _).grown hg3 (by simp; omega) (fun k e => (HOr.out.lt e).1)
     have hz3 : bs ≤ w3.heap.size:=by have:=hg3.size; simp at this; omega
     replace hO3 : Own w3 bs 5 v4 (i + 1) (kx (kb y n) x):=hO3.congr fun j hj => by
      by_cases h : j < i
      ·
       rw [if_pos h]
      ·
       obtain rfl : j = i:=by omega
       rw [if_neg h]
       show _ = Value.int .u8 _
       rw [HK.out j (by omega)]
       unfold upTo
       rw [if_neg hin,HZ.out]
     clear hg3 hat3 HA HOr HBr
     go_roundw
     case rel => exact ⟨i + 1,by omega,by go_num,hO3,hB3,hz3⟩
     case measure => simp [intOf]; omega
   ·
    obtain rfl : i = 64:=by omega
    go_wp2
    go_ret
    obtain ⟨g,cap,rfl,_,_,_⟩:=hO.pre (by omega)
    exact ⟨g,cap,rfl,hO.base_le (by omega),HB0.out.trans (hB.mono (by omega))⟩
end Go.Proofs.YtihophdbkjhopaaGreatDoor
namespace Go.Proofs.YtihophdbkjhopaaGreatDoor
open Go.ChangeShapes Go.WideShapes Go.ChangeAt Go.RowKit
open Go.Value renaming int → vI
open Go.IntKind renaming u64 → vU
open Go.Act renaming put → aP
open List renaming setIfInBounds_toArray → lA, set_cons_zero → lZ, set_cons_succ → lS
theorem own : ownKnob Tryz.prog.godebug = none:=by kernel_rfl
def laidL : List (String × DataW Unit):=[("clapper/sha.roundWords",Rows.laid_clapper_sha_roundWords)]
theorem gRound : Tryz.prog.globalNamed "clapper/sha.roundWords" = some 0:=by kernel_rfl
theorem tRound : (Tryz.prog.globals[0]?).map (·.type) = some 178:=by kernel_rfl
theorem cellsU32 : Tryz.prog.cellsOf 120 = 1:=by kernel_rfl
theorem laid_list : Rows.laid_clapper_sha_roundWords (H:=Unit) = .agg (kList.map fun (k : Nat) => (.lit (.int .u32 (k : Int)) : DataW Unit)):=rfl
theorem kc_get {j : Nat} (hj : j < 64) : kList[j]? = some (kc j):=by
 have hl : kList.length = 64:=by decide
 unfold kc
 simp [List.getD,hl,hj]
theorem kt_of_laid {W : World} (h : laidMetH Tryz.prog laidL W) : KT W:=by
 unfold laidL at h
 rw [MakeChecks.laidMetH_plain _ _ _ (by kernel_rfl)] at h
 obtain ⟨ps,⟨g0,t0,cs0,f0,p0,q0,hg0,ht0,hv0,hd0,_⟩,_,_⟩:=h
 obtain rfl:=Option.some.inj (gRound.symm.trans hg0)
 obtain rfl:=Option.some.inj (tRound.symm.trans ht0)
 obtain ⟨xs,m1,rfl,hx1,hlen,hn,hel⟩:=DataW.trod_array Tryz.underlying178 hd0
 have hx2 : xs.map (·.1) = kList.map fun (k : Nat) => (.lit (.int .u32 (k : Int)) : DataW Unit):=by
  rw [laid_list] at hx1
  simp only [Prod.mk.injEq,DataW.agg.injEq] at hx1
  exact hx1.1.symm
 have cell : ∀ j,j < 64 → W.cell? ⟨0,j,none⟩ = some (.int .u32 (kc j : Nat)):=fun j hj => by
  have h1:=hel j hj
  rw [cellsU32,Nat.mul_one] at h1
  obtain ⟨x,hx⟩ : ∃ x,xs[j]? = some x:=⟨xs[j],by rw [List.getElem?_eq_getElem]⟩
  rw [hx] at h1
  obtain ⟨k,e1,e2,_⟩:=DataW.trod_int Tryz.underlying120 h1
  have h3 : (xs.map (·.1))[j]? = some (.lit (.int .u32 k)):=by simp [hx,e2]
  rw [hx2] at h3
  simp only [List.getElem?_map,kc_get hj,Option.map_some,Option.some.injEq,DataW.lit.injEq,Lit.int.injEq,true_and] at h3
  have h4 : cs0.toList[j]? = some (.int .u32 k):=by
   have : ((cs0.toList.drop j).take 1)[0]? = some (.int .u32 k):=by rw [e1]; rfl
   simpa [List.getElem?_take,List.getElem?_drop] using this
  have h5:=World.var?_cell hg0 hv0 j
  rw [h5,h3]
  simpa using h4
 exact ⟨World.block_lt_of_cell? W _ (cell 0 (by decide)),cell⟩
theorem door_met (os : Os) (args : Array Value) : laidMetH Tryz.prog laidL ((World.doorLaid Tryz.prog 14 os).forCall (fun _ _ => 0) ⟨#[],args,[]⟩).memory :=
 laidMetH_of_parts3 (fuel:=8) (laidMet_of_run' 8 (by kernel_rfl) (by kernel_rfl)) (by kernel_rfl) (by kernel_rfl)
end Go.Proofs.YtihophdbkjhopaaGreatDoor
namespace Go.Proofs.YtihophdbkjhopaaGreatDoor
open Go.ChangeShapes Go.WideShapes Go.ChangeAt Go.RowKit
open Go.Value renaming int → vI
open Go.IntKind renaming u64 → vU
open Go.Act renaming put → aP
open List renaming setIfInBounds_toArray → lA, set_cons_zero → lZ, set_cons_succ → lS
/-! ### a text -/
/-! ### '==' between sums -/
/-! ### slices cut anywhere -/
theorem Src.cut {w : World} {A : Option Addr} {r c m g : Nat} {y : Nat → Nat} (h : Src w A r y g) (hm : m ≤ r) (hc : r ≤ c) : Src w (cutA A m c) (r - m) (fun j => y (m + j)) g:=by
 by_cases h0 : r - m = 0
 ·
  exact .inl h0
 ·
  rcases h with h | ⟨b,o,rfl,hlt,hne,hcl⟩
  ·
   omega
  ·
   refine .inr ⟨b,o + m,by unfold cutA; rw [if_neg (by omega)]; simp [Addr.add_mid],hlt,hne,fun j hj => ?_⟩
   rw [Nat.add_assoc]
   exact hcl (m + j) (by omega)
theorem Src.head {w : World} {A : Option Addr} {r c m g : Nat} {y : Nat → Nat} (h : Src w A r y g) (hm : m ≤ r) (hc : r ≤ c) : Src w (cutA A 0 c) m y g:=by
 by_cases h0 : m = 0
 ·
  exact .inl h0
 ·
  rcases h with h | ⟨b,o,rfl,hlt,hne,hcl⟩
  ·
   omega
  ·
   refine .inr ⟨b,o,by unfold cutA; rw [if_neg (by omega)]; simp [Addr.add_mid],hlt,hne,fun j hj => hcl j (by omega)⟩
theorem own_slice {w : World} {base e n : Nat} {v : Value} {f : Nat → Value} (o : Own w base e v n f) : ∃ A c,v = .slice A n c ∧ n ≤ c ∧ (n = 0 ∨ ∃ b,A = some ⟨b,0,none⟩ ∧ base ≤ b ∧ Pre w b e n f):=by
 by_cases h : n = 0
 ·
  rcases o.2 with ⟨rfl,rfl⟩ | ⟨b,cap,cur,rfl,hb,hh,hnc,_⟩
  ·
   exact ⟨none,0,rfl,Nat.le_refl _,.inl rfl⟩
  ·
   exact ⟨_,cap,rfl,hnc,.inl h⟩
 ·
  obtain ⟨b,cap,rfl,hnc,hb,hp⟩:=o.pre (by omega)
  exact ⟨_,cap,rfl,hnc,.inr ⟨b,rfl,hb,hp⟩⟩
theorem src_own {w : World} {base n : Nat} {v : Value} {y : Nat → Nat} {g : Nat} (o : Own w base 5 v n (fun j => .int .u8 (y j : Nat))) (hg : ∀ b,v.ownBlock = some b → b ≠ g) : ∃ A c,v = .slice A n c ∧ n ≤ c ∧ Src w A n y g:=by
 obtain ⟨A,c,rfl,hc,h⟩:=own_slice o
 refine ⟨A,c,rfl,hc,h.elim .inl ?_⟩
 rintro ⟨b,rfl,hb,hp⟩
 exact .inr ⟨b,0,rfl,hp.lt,hg b rfl,fun j hj => by rw [Nat.zero_add]; exact hp.cell hj⟩
theorem zik {w wr : World} {A : Option Addr} {n g : Nat} {y : Nat → Nat} (h : Src w A n y w.heap.size) (hb : Below w.heap.size w wr) (hg : w.heap.size ≤ g) : Src wr A n y g:=(h.at hg).below hb
theorem zmc {w wr : World} {A : Option Addr} {n : Nat} {y : Nat → Nat} (h : Src w A n y w.heap.size) (hb : Below w.heap.size w wr) : From wr A n (fun j => .int .u8 (y j : Nat)):=by
 rcases h.below hb with h | ⟨b,o,rfl,_,_,hc⟩
 ·
  exact .inl h
 ·
  exact .inr ⟨_,rfl,fun j hj => by rw [Addr.add_mid]; exact hc j hj⟩
theorem zfb {w wr : World} (h : KT w) (hb : Below w.heap.size w wr) : KT wr:=h.call hb
theorem but_below {w w1 w2 : World} {r : Nat} (h : Below w.heap.size w w1) (hb : But r w1 w2) (hr : w.heap.size ≤ r) : Below w.heap.size w w2:=h.trans (But.new hb hr h.size)
theorem Own.but {w w' : World} {base e n r : Nat} {v : Value} {f : Nat → Value} (o : Own w base e v n f) (hb : But r w w') (hr : r < base) : Own w' base e v n f :=
 o.kept hb (by
  cases h : v.ownBlock with
  | none => exact .inl rfl
  | some k => exact .inr (fun e => by have:=(o.lt h).1; simp at e; omega))
theorem Own.call {w w' : World} {base e n : Nat} {v : Value} {f : Nat → Value} (o : Own w base e v n f) (hb : Below w.heap.size w w') : Own w' base e v n f:=o.below hb (Nat.le_refl _)
theorem HashIs.grown {w w' : World} {g L : Nat} {b : Nat → Nat} {row : Option Nat} (h : HashIs w g b L) (hg : w.grownBy w' row) (hne : some g ≠ row) : HashIs w' g b L:=h.of_block (hg.block g h.lt hne)
theorem own_cat {w : World} {base e n m : Nat} {v : Value} {y0 y1 : Nat → Nat} (o : Own w base e v (n + m) (fun j => if j < n then .int .u8 (y0 j : Nat) else .int .u8 (y1 (j - n) : Nat))) : Own w base e v (n + m) (fun j => .int .u8 (cat y0 n y1 j : Nat)) :=
 o.congr fun j _ => by unfold cat; split <;> rfl
theorem cat_lt {y0 y1 : Nat → Nat} {n : Nat} (h0 : ∀ j,y0 j < 256) (h1 : ∀ j,y1 j < 256) (j : Nat) : cat y0 n y1 j < 256:=by
 unfold cat
 split
 ·
  exact h0 j
 ·
  exact h1 _
theorem own_src {w : World} {base n c : Nat} {A : Option Addr} {y : Nat → Nat} (o : Own w base 5 (.slice A n c) n (fun j => .int .u8 (y j : Nat))) : Src w A n y w.heap.size:=by
 obtain ⟨A5,c5,e5,_,hS⟩:=src_own (g:=w.heap.size) o (fun b e => by have:=(o.lt e).2; omega)
 injection e5 with h1 _ _
 rw [h1]; exact hS
/-! ### arguments -/
end Go.Proofs.YtihophdbkjhopaaGreatDoor
namespace Go.Proofs.YtihophdbkjhopaaGreatDoor
open Go.RowKit
open Go.Value renaming int → vI
open Go.IntKind renaming u64 → vU
open Go.Act renaming put → aP
open List renaming setIfInBounds_toArray → lA, set_cons_zero → lZ, set_cons_succ → lS
structure Parts3 (W : World) (AL : Option Addr) (nl : Nat) (A : Nat → Option Addr) (L C : Nat → Nat) (Y : Nat → Nat → Nat) : Prop where
 row : nl = 0 ∨ ∃ b o,AL = some ⟨b,o,none⟩ ∧ b < W.heap.size ∧ ∀ r,r < nl → W.cell? ⟨b,o + r,none⟩ = some (.slice (A r) (L r) (C r))
 src : ∀ r,r < nl → Src W (A r) (L r) (Y r) W.heap.size
 cap : ∀ r,r < nl → L r ≤ C r
 lt : ∀ r j,Y r j < 256
def lenN (L : Nat → Nat) : Nat → Nat
 | 0 => 0
 | i + 1 => lenN L i + L i
def textN (L : Nat → Nat) (Y : Nat → Nat → Nat) : Nat → Nat → Nat
 | 0 => fun _ => 0
 | i + 1 => cat (textN L Y i) (lenN L i) (Y i)
section
open Go.ChangeShapes Go.WideShapes Go.ChangeAt
end
end Go.Proofs.YtihophdbkjhopaaGreatDoor
namespace Go.Proofs.YtihophdbkjhopaaGreatDoor
open Go.RowKit
open Go.Value renaming int → vI
open Go.IntKind renaming u64 → vU
open Go.Act renaming put → aP
open List renaming setIfInBounds_toArray → lA, set_cons_zero → lZ, set_cons_succ → lS
def macIn (y : Nat → Nat) (n : Nat) (t : Nat → Nat) : Nat → Nat:=cat (fun j => kb y n j ^^^ 54) 64 t
def macOut (y : Nat → Nat) (n : Nat) (t : Nat → Nat) (m : Nat) : Nat → Nat:=cat (fun j => kb y n j ^^^ 92) 64 (fun j => dByte (shaSt (macIn y n t) (64 + m)) j)
def macD (y : Nat → Nat) (n : Nat) (t : Nat → Nat) (m : Nat) : Array Value:=dgst (macOut y n t m) 96
theorem macIn_lt {y t : Nat → Nat} (hy : ∀ j,y j < 256) (ht : ∀ j,t j < 256) (n j : Nat) : macIn y n t j < 256:=cat_lt (fun j => xor8_lt (kb_lt hy n j) (by decide)) ht _
theorem macOut_lt {y : Nat → Nat} (hy : ∀ j,y j < 256) (n : Nat) (t : Nat → Nat) (m j : Nat) : macOut y n t m j < 256:=cat_lt (fun j => xor8_lt (kb_lt hy n j) (by decide)) (fun j => zib _ j) _
theorem in_cells {w : World} {b e m : Nat} {v : Value} {k t : Nat → Nat} {x : Nat} (o : Own w b e v (64 + m) (fun j => if j < 64 then kx k x j else .int .u8 (t (j - 64) : Nat))) : Own w b e v (64 + m) (fun j => .int .u8 (cat (fun j => k j ^^^ x) 64 t j : Nat)) :=
 o.congr fun j _ => by unfold cat kx; split <;> rfl
/-! ### steps of a region that draws its order -/
def RSum : Prop:=∀ (A : Option Addr) (n c : Nat) (y : Nat → Nat),(∀ j,y j < 256) → n ≤ 1048576 → ∀ w : World,Src w A n y w.heap.size →
 Calls Tryz.prog 36 #[.slice A n c] w fun e w' => e = .returned (.agg (dgst y n)) ∧ Below w.heap.size w w'
theorem from_row {w : World} {g e n : Nat} {f : Nat → Value} (h : w.rowIs g e n f) : From w (some ⟨g,0,none⟩) n f:=.inr ⟨_,rfl,fun j hj => by rw [Addr.add_mid,Nat.zero_add]; exact h.cell hj⟩
theorem rmac_calls (RS : RSum) (A B : Option Addr) (n c m d : Nat) (y t : Nat → Nat) (hy : ∀ j,y j < 256) (ht : ∀ j,t j < 256) (hn : n ≤ 100000) (hm : m ≤ 100000) (w : World) (hS : Src w A n y w.heap.size) (hT : Src w B m t w.heap.size) :
  Calls Tryz.prog 150 #[.slice A n c,.slice B m d] w fun e w' => e = .returned (.agg (macD y n t m)) ∧ Below w.heap.size w w':=by
 obtain ⟨i8,hi8,hz0,hz1,hz2⟩:=info_parts infoB3
 have HI:=veil (And.intro hi8 (And.intro hz0 (And.intro hz1 hz2)))
 clear hi8 hz0 hz1 hz2
 have HB:=veil (show ∀ W : World,Src W A n y W.heap.size → Calls Tryz.prog 165 #[.slice A n c,.int .u8 54] W fun e w' => ∃ g cap,e = .returned (.slice (some ⟨g,0,none⟩) 64 cap) ∧ Own w' W.heap.size 5 (.slice (some ⟨g,0,none⟩) 64 cap) 64 (kx (kb y n) 54) ∧ Below W.heap.size W w' from
  fun W h => block_calls A n c y hy (by omega) 54 (by decide) W h (RS A n c y hy (by omega) W h))
 have HC:=veil (show ∀ W : World,Src W A n y W.heap.size → Calls Tryz.prog 165 #[.slice A n c,.int .u8 92] W fun e w' => ∃ g cap,e = .returned (.slice (some ⟨g,0,none⟩) 64 cap) ∧ Own w' W.heap.size 5 (.slice (some ⟨g,0,none⟩) 64 cap) 64 (kx (kb y n) 92) ∧ Below W.heap.size W w' from
  fun W h => block_calls A n c y hy (by omega) 92 (by decide) W h (RS A n c y hy (by omega) W h))
 have HIn:=veil (fun (C : Option Addr) (e : Nat) (W : World) (h : Src W C (64 + m) (macIn y n t) W.heap.size) => RS C (64 + m) e _ (macIn_lt hy ht n) (by omega) W h)
 have HOut:=veil (fun (C : Option Addr) (e : Nat) (W : World) (h : Src W C 96 (macOut y n t m) W.heap.size) => RS C 96 e _ (macOut_lt hy n t m) (by omega) W h)
 have HS:=veil (And.intro hS hT)
 clear RS hy ht hS hT
 go_enter Tryz.func150,Tryz.ntmps150
 go_upto_region 1 with (fail)
 rw [zeros32]
 have hR : (w.alloc (.cells (arrOf 32 (fun _ => .int .u8 0)) 23)).rowIs w.heap.size 23 32 (fun _ => .int .u8 0):=zav w 32 23 _ rfl
 have hB : Below w.heap.size w (w.alloc (.cells (arrOf 32 (fun _ => .int .u8 0)) 23)):=(Below.refl _ _).alloc (Nat.le_refl _) _
 obtain ⟨gR,hgR⟩ : ∃ gR,gR = w.heap.size:=⟨_,rfl⟩
 rw [← hgR] at hR
 generalize w.alloc (.cells (arrOf 32 (fun _ => .int .u8 0)) 23) = w1 at *
 have hS1:=zik HS.out.1 hB hB.size
 have hB1:=veil hB
 clear hB
 obtain ⟨D,hD⟩ : ∃ D,D = dgst (macIn y n t) (64 + m):=⟨_,rfl⟩
 have HSZ:=veil (And.intro (zaw (macIn y n t) (64 + m)) (And.intro (show (dgst (macIn y n t) (64 + m)).all (·.oneCell') = true from zau fun _ _ => rfl) (show (Tryz.prog.info? 23).map (·.size) = some (dgst (macIn y n t) (64 + m)).size by rw [zaw]; exact infoD)))
 rw [← hD] at HSZ HIn
 have HD:=veil hD
 have hRl:=hR.lt
 have HRw:=veil (And.intro hR (And.intro hgR hS1))
 clear hD hR hS1
 rw [← hgR]
 clear hgR
 go_upto_region 2 with (first
  | ((with_reducible refine (HB.out w1 ?hs).mono ?_); (· exact HRw.out.2.2); rintro e w2 ⟨g2,c2,rfl,hO2,hb2⟩)
  | ((with_reducible refine zac 9 ?_); refine zae _ rfl _ _ 24 rfl w1.heap.size 5 i8 (.int .u8 0) 1 Tryz.underlying24 HI.out.1 HI.out.2.1 HI.out.2.2.1 HI.out.2.2.2 rfl (.slice (some ⟨g2,0,none⟩) 64 c2) 64 _ rfl hO2 B m d rfl _ (zmc HS.out.2 (hB1.out.trans (hb2.mono hB1.out.size))) (fun _ => rfl) (by unfold maxLen; omega) (by omega) hb2.size ?_; intro v3 w3 hO3 hg3 hat3; replace hO3:=in_cells hO3; obtain ⟨g3,c3,rfl,-,-,-⟩:=hO3.pre (by omega); have hs3 : Src w3 (some ⟨g3,0,none⟩) (64 + m) (macIn y n t) w3.heap.size:=own_src hO3)
  | ((with_reducible refine (HIn.out (some ⟨g3,0,none⟩) c3 w3 hs3).mono ?_); rintro e w4 ⟨rfl,hb4⟩)
  | ((with_reducible refine zak ?_); refine wpList_store_row rfl 23 _ _ rfl w4.heap.size D rfl rfl 23 _ (heap_alloc_last w4 _) HSZ.out.2.2 (by rw [HSZ.out.1]; rfl) HSZ.out.2.1 ?_; rw [World.setRow_alloc_new]))
 have hb3 : Below w1.heap.size w1 w3:=hb2.grown hg3 hb2.size (fun k e => (hO2.lt e).1)
 have hB4:=hb3.trans (hb4.mono hb3.size)
 have hR5:=(zad HRw.out.1 hB4 HRw.out.1.lt).alloc (.cells D 23)
 have hB5:=(hB1.out.trans (hB4.mono hB1.out.size)).alloc (hB1.out.trans (hB4.mono hB1.out.size)).size (.cells D 23)
 have hD5 : (w4.alloc (.cells D 23)).rowIs w4.heap.size 23 32 (fun j => .int .u8 (dByte (shaSt (macIn y n t) (64 + m)) j : Nat)):=by rw [HD.out]; exact zav w4 32 23 _ rfl
 have HG:=veil HRw.out.2.1
 have hlt5 : gR < w4.heap.size:=by have:=hB4.size; omega
 have hlt6 : w4.heap.size < (w4.alloc (.cells D 23)).heap.size:=by simp
 generalize w4.alloc (.cells D 23) = w5 at *
 generalize hg5 : w4.heap.size = g5 at *
 clear hb2 hO2 hO3 hg3 hat3 hs3 hb3 hb4 hB4 HB HIn HRw hg5
 obtain ⟨F,hF⟩ : ∃ F,F = macD y n t m:=⟨_,rfl⟩
 have HF:=veil (show F.size = 32 ∧ F.all (·.oneCell') = true ∧ (Tryz.prog.info? 23).map (·.size) = some F.size from by
  rw [hF]; exact ⟨zaw _ _,zau fun _ _ => rfl,by show _ = some (dgst _ _).size; rw [zaw]; exact infoD⟩)
 have HS5:=veil (zik HS.out.1 hB5 hB5.size)
 have HN:=veil (And.intro hR5 hB5)
 have HC5:=veil (HC.out w5.drew HS5.out)
 have HOut':=veil (show ∀ (C : Option Addr) (e : Nat) (W : World),Src W C 96 (macOut y n t m) W.heap.size → Calls Tryz.prog 36 #[.slice C 96 e] W fun e W' => e = .returned (.agg F) ∧ Below W.heap.size W W' from by rw [hF]; exact HOut.out)
 have hoF : ∀ v ∈ F.toList,v.oneCell' = true:=fun v hv => (Array.all_eq_true_iff_forall_mem.1 HF.out.2.1) v (by simpa using hv)
 have hiF : (Tryz.prog.info? 23).map (·.size) = some F.toList.length:=by rw [Array.length_toList]; exact HF.out.2.2
 have HFF:=veil hF
 have HD5:=veil hD5
 have hS0 : But gR w5 w5:=But.refl _ _
 clear hF hR5 hB5 hD5 HC HOut HS HD HSZ
 go_region_held3 (fun w' => But gR w5 w')
  (first
   | with_reducible assumption
   | exact hS0
   | exact hS0.drew
   | exact hS0.drew.below hb6
   | exact hS0.drew.below hb7
   | exact hS0.drew.below hb9
   | exact But.setCells _ 0 _ (hS0.drew.below hb9))
  (first
   | (go_at_call 165; refine HC5.out.mono ?_; rintro e w6 ⟨g6,c6,rfl,hO6,hb6⟩)
   | ((with_reducible refine at_slotR 14 ?_); refine zcg _ rfl _ _ 24 rfl w5.heap.size 5 i8 (.int .u8 0) 1 Tryz.underlying24 HI.out.1 HI.out.2.1 HI.out.2.2.1 HI.out.2.2.2 rfl (.slice (some ⟨g6,0,none⟩) 64 c6) 64 _ rfl hO6 (some ⟨g5,0,none⟩) 32 32 rfl _ (from_row (zad (zbs HD5.out 1) hb6 hlt6)) (fun _ => rfl) (by unfold maxLen; omega) (by omega) hb6.size ?_; intro v7 w7 hO7 hg7 _ _; have hb7:=hb6.grown hg7 hb6.size (fun k e => (hO6.lt e).1); replace hO7:=in_cells hO7; obtain ⟨g7,c7,rfl,-,-,-⟩:=hO7.pre (by omega); have hs7 : Src w7 (some ⟨g7,0,none⟩) 96 (macOut y n t m) w7.heap.size:=own_src hO7; clear hg7)
   | (go_at_call 36; (with_reducible refine (HOut'.out (some ⟨g7,0,none⟩) c7 w7 hs7).mono ?_); rintro e w8 ⟨rfl,hb8⟩; have hb9:=hb7.trans (hb8.mono hb7.size); have hN':=veil (zad (zbs HN.out.1 1) hb9 (Nat.lt_trans hlt5 hlt6)); have hth:=there_row hN'.out (show F.toList.length = 32 by rw [Array.length_toList]; exact HF.out.1)))
 rename (But _ _ _) => hHeld
 clear hS0 hoF hiF hth
 go_wp2
 exact bodyPost_ret (results_cell_row rfl _ _ gR 23 F (0,0) _ rfl (zmm hN'.out HF.out.1) Tryz.underlying23 rfl HF.out.2.2) rfl ⟨by rw [HFF.out],HN.out.2.trans (But.new hHeld (B:=w.heap.size) (Nat.le_of_eq HG.out.symm) HN.out.2.size)⟩
def nb (k : Nat → Nat) (n : Nat) (t : Nat → Nat) (m : Nat) : Nat → Nat:=fun j => dByte (shaSt (macOut k n t m) 96) j
theorem nb_lt (k : Nat → Nat) (n : Nat) (t : Nat → Nat) (m j : Nat) : nb k n t m j < 256:=Nat.mod_lt _ (by decide)
theorem macD_nb (k : Nat → Nat) (n : Nat) (t : Nat → Nat) (m : Nat) : macD k n t m = arrOf 32 (fun i => .int .u8 (nb k n t m i : Nat)):=rfl
theorem code_calls (RS : RSum) (A B C : Option Addr) (cA cB cC m : Nat) (k v x : Nat → Nat) (hk : ∀ j,k j < 256) (hv : ∀ j,v j < 256) (hx : ∀ j,x j < 256) (hm : m ≤ 1000) (w : World)
  (hA : Src w A 32 k w.heap.size) (hB : Src w B 32 v w.heap.size) (hC : Src w C m x w.heap.size) :
  Calls Tryz.prog 120 #[.slice A 32 cA,.slice B 32 cB,.slice C m cC] w fun e w' => ∃ g,e = .returned (.slice (some ⟨g,0,none⟩) 32 32) ∧ w.heap.size ≤ g ∧ w'.rowIs g 23 32 (fun j => .int .u8 (nb k 32 (cat v 32 x) (32 + m) j : Nat)) ∧ Below w.heap.size w w':=by
 obtain ⟨i8,hi8,hz0,hz1,hz2⟩:=info_parts infoB3
 have HI:=veil (And.intro hi8 (And.intro hz0 (And.intro hz1 hz2)))
 clear hi8 hz0 hz1 hz2
 go_enter Tryz.func120,Tryz.ntmps120
 have hv1 : ∀ j,(Value.int .u8 (v j : Nat)).oneCell' = true:=fun j => by simp [Value.oneCell']
 have hx1 : ∀ j,(Value.int .u8 (x j : Nat)).oneCell' = true:=fun j => by simp [Value.oneCell']
 have hb0 : Below w.heap.size w (w.alloc (.cells #[] 5)):=(Below.refl _ _).alloc (Nat.le_refl _) _
 have h0 : Own (w.alloc (.cells #[] 5)) w.heap.size 5 (.slice (some ⟨w.heap.size,0,none⟩) 0 0) 0 (fun _ => .int .u8 0):=Own.made w (Nat.le_refl _) (by simp) (fun i hi => by simp at hi)
 have HF:=veil (zmc hB hb0)
 have HO:=veil h0
 have HV:=veil (And.intro hv1 hx1)
 have HS:=veil (And.intro hA hC)
 have HB:=veil hb0
 clear hv1 hx1 h0 hA hB hC hb0
 go_wp2_with (at_builtin; refine zae _ rfl _ _ _ rfl w.heap.size 5 i8 (.int .u8 0) 1 Tryz.underlying24 HI.out.1 HI.out.2.1 HI.out.2.2.1 HI.out.2.2.2 rfl _ _ _ rfl HO.out B 32 cB rfl (fun j => .int .u8 (v j : Nat)) HF.out HV.out.1 (by unfold maxLen; omega) (by omega) (by simp) ?_)
 intro v1 w1 ho1 hg1 ha1
 have hb1 : Below w.heap.size w w1:=zbr HB.out hg1 (by simp) (fun k e => (HO.out.lt e).1)
 have ho1 : Own w1 w.heap.size 5 v1 32 (fun j => .int .u8 (v j : Nat)):=ho1.congr (fun j _ => by simp)
 have HF2:=veil (zmc HS.out.2 hb1)
 have HO1:=veil ho1
 have HB1:=veil hb1
 clear ho1 hb1 hg1 ha1 HF HO HB
 go_wp2_with (at_builtin; refine zae _ rfl _ _ _ rfl w.heap.size 5 i8 (.int .u8 0) 1 Tryz.underlying24 HI.out.1 HI.out.2.1 HI.out.2.2.1 HI.out.2.2.2 rfl _ _ _ rfl HO1.out C m cC rfl (fun j => .int .u8 (x j : Nat)) HF2.out HV.out.2 (by unfold maxLen; omega) (by omega) (Below.size HB1.out) ?_)
 intro v2 w2 ho2 hg2 ha2
 have hb2 : Below w.heap.size w w2:=zbr HB1.out hg2 (Below.size HB1.out) (fun k e => (HO1.out.lt e).1)
 obtain ⟨A2,c2,rfl,hc2,hS2⟩:=src_own (g:=w2.heap.size) (own_cat ho2) (fun b e => by have:=(ho2.lt e).2; omega)
 have hS1:=zik HS.out.1 hb2 (Below.size hb2)
 have KR:=veil (rmac_calls RS A A2 32 cA (32 + m) c2 k (cat v 32 x) hk (fun j => by unfold cat; split; exact hv _; exact hx _) (by omega) (by omega) w2 hS1 hS2)
 obtain ⟨D,hD⟩ : ∃ D,D = macD k 32 (cat v 32 x) (32 + m):=⟨_,rfl⟩
 have HSZ:=veil (show D.size = 32 ∧ D.all (·.oneCell') = true ∧ (Tryz.prog.info? 23).map (·.size) = some D.size from by
  rw [hD]; exact ⟨zaw _ _,zau fun _ _ => rfl,by show _ = some (dgst _ _).size; rw [zaw]; exact infoD⟩)
 rw [← hD] at KR
 have HD:=veil hD
 have HB2:=veil hb2
 clear hD ho2 hg2 ha2 hS1 hS2 HF2 HO1 HB1 HV HS HI hb2 RS hk hv hx
 go_wp2_with fail
 refine KR.out.mono ?_
 rintro e w3 ⟨rfl,hb3⟩
 have HB3:=veil (HB2.out.trans (hb3.mono (Below.size HB2.out)))
 clear hb3 KR HB2
 go_upto_region 2 with ((with_reducible refine zak ?_); refine wpList_store_row rfl 23 _ _ rfl w3.heap.size D rfl rfl 23 _ (heap_alloc_last w3 _) HSZ.out.2.2 (by rw [HSZ.out.1]; rfl) HSZ.out.2.1 ?_; rw [World.setRow_alloc_new])
 have hrow : (w3.alloc (.cells D 23)).rowIs w3.heap.size 23 32 (fun j => .int .u8 (nb k 32 (cat v 32 x) (32 + m) j : Nat)):=by
  rw [HD.out,macD_nb]; exact zav w3 32 23 _ rfl
 have HR:=veil hrow
 clear hrow
 go_wp2
 go_ret
 exact ⟨_,rfl,Below.size HB3.out,HR.out,HB3.out.alloc (Below.size HB3.out) _⟩
theorem infoInt : (Tryz.prog.info? 3).map (fun i => (i.zero,i.size,i.bytes)) = some (some (.int .i64 0),1,8):=by kernel_rfl
def ptv (X j : Nat) : Value:=.int .i64 (pt X j)
theorem ptL_succ (X m : Nat) : (List.range (m + 1)).map (ptv X) = (List.range m).map (ptv X) ++ [.int .i64 (pt X m)]:=by
 rw [List.range_succ,List.map_append]; rfl
theorem parts_any (X : Nat) (w : World) :
  Calls Tryz.prog 66 #[.agg #[vI vU (wd X 0),vI vU (wd X 1),vI vU (wd X 2),vI vU (wd X 3)]] w fun e w' => ∃ v,e = .returned v ∧ w'.ownsRow (w.heap.size + 1) 3 1 v 16 ((List.range 16).map (ptv X)) ∧ Below w.heap.size w w':=by
 obtain ⟨i0,hi,hz0,hz1,hz2⟩:=info_parts infoInt
 go_enter Tryz.func66,Tryz.ntmps66
 go_wp2
 go_loopw [3,4] (fun v i wr => ∃ k : Nat,k ≤ 4 ∧ i = .int .i64 k ∧ wr.ownsRow (w.heap.size + 1) 3 1 v (4 * k) ((List.range (4 * k)).map (ptv X)) ∧ wr.rowIs w.heap.size 29 4 (fun j => .int .u64 (wd X j)) ∧ Below w.heap.size w wr)
  (fun _ i _ => 4 - (intOf i).toNat)
 case atStart => exact ⟨0,by omega,rfl,World.ownsRow_nil _ _ _ _,zaj (n:=4) (by simp) rfl (arr4 fun j => .int .u64 (wd X j)),(Below.refl _ _).alloc (by simp) _⟩
 case round =>
  obtain ⟨i,hi4,rfl,hown,hR,hbel⟩:=hrel
  by_cases hlt : i < 4
  ·
   have c1:=hR.cell hlt
   have hd : decide ((i : Int) < 4) = true:=by simp; omega
   go_wp2
   clear c1
   obtain ⟨wo,hwo⟩ : ∃ wo : World,wo = wr:=⟨_,rfl⟩
   rw [← hwo] at hown hR hbel ⊢
   clear hwo
   go_loopw [3,5,6] (fun v q k wq => ∃ m : Nat,m ≤ 4 ∧ k = .int .i64 m ∧ q = .int .u64 (wk X i m) ∧ wq.ownsRow (w.heap.size + 1) 3 1 v (4 * i + m) ((List.range (4 * i + m)).map (ptv X)) ∧ wq.rowIs w.heap.size 29 4 (fun j => .int .u64 (wd X j)) ∧ Below w.heap.size w wq)
    (fun _ _ k _ => 4 - (intOf k).toNat)
   case atStart => exact ⟨0,by omega,rfl,by rw [wk_zero],hown,hR,hbel⟩
   case round =>
    obtain ⟨m,hm4,rfl,rfl,hown,hR,hbel⟩:=hrel
    have hq:=wk_lo X i m
    have hq2:=wk_le X i m
    by_cases hlm : m < 4
    ·
     have hsz:=hR.lt
     go_wp2_with (at_builtin; refine wpList_append_own _ rfl _ _ 72 rfl (w.heap.size + 1) 3 i0 (.int .i64 0) 1 8 Tryz.underlying72 hi hz0 hz1 hz2 rfl (by decide) _ _ _ rfl (hown.alloc _) ⟨wr.heap.size,0,none⟩ 1 1 [.int .i64 (wk X i m % 65536)] rfl rfl ?c1 ?c2 ?c3 ?c4 ?c5 ?_)
     case c1 =>
      intro j u hj
      match j,hj with
      | 0,hj => simp at hj; subst hj; simp [Addr.add]
     case c2 => intro u hu; simp at hu; subst hu; rfl
     case c3 => unfold maxLen; omega
     case c4 => omega
     case c5 => simp; omega
     intro v' w1 hown' hgrow _
     rw [wk_pt X i m hlm,← ptL_succ] at hown'
     have hR1:=zir (hR.alloc _) hgrow (fun e => by have:=(hown.lt _ e.symm).1; omega)
     have hb1:=(hbel.alloc (by omega) _).grown hgrow (by simp; omega) (fun k e => by have:=(hown.lt _ e).1; omega)
     clear hown hgrow hR hbel
     go_wp2
     go_roundw
     case rel => exact ⟨m + 1,by omega,by go_num,by rw [wk_succ],hown',hR1,hb1⟩
     case measure => simp [intOf]; omega
    ·
     obtain rfl : m = 4:=by omega
     go_wp2
     go_roundw
     case rel => exact ⟨i + 1,by omega,by go_num,by rw [show 4 * (i + 1) = 4 * i + 4 by omega]; exact hown,hR,hbel⟩
     case measure => simp [intOf]; omega
  ·
   obtain rfl : i = 4:=by omega
   go_wp2
   go_ret
   exact ⟨_,rfl,hown,hbel⟩
theorem zfk (X : Nat) (w : World) :
  Calls Tryz.prog 66 #[.agg #[vI vU (wd X 0),vI vU (wd X 1),vI vU (wd X 2),vI vU (wd X 3)]] w fun e w' => ∃ g cap,e = .returned (.slice (some ⟨g,0,none⟩) 16 cap) ∧ w.heap.size ≤ g ∧ Pre w' g 3 16 (ptv X) ∧ Below w.heap.size w w':=by
 refine (parts_any X w).mono ?_
 rintro e w' ⟨v,rfl,hown,hb⟩
 obtain ⟨g,cap,rfl,_,hg,hp⟩:=Pre.of_own hown (by omega)
 exact ⟨g,cap,rfl,by omega,hp,hb⟩
end Go.Proofs.YtihophdbkjhopaaGreatDoor
namespace Go.Proofs.YtihophdbkjhopaaGreatDoor
theorem top_w16 : top = w16 ^ 16:=by unfold top; rw [w64_w16,← Nat.pow_mul]
end Go.Proofs.YtihophdbkjhopaaGreatDoor
