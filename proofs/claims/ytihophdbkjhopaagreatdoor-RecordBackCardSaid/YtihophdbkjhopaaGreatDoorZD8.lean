/-
  Of HWrite HPad HSum SSumA M1 HLaid HLaw HParts MDef N1 Parts N2 M3 NK Bytes G8 G9 QA Q9 Bit.
-/
import Derived.Laws.CopyOwn
import Derived.WalkKit
import Derived.WalkSpells
import Derived.WalkLawsBesides
import Derived.Deep.LoopGhost
import Derived.Deep.Cut
import Derived.Deep.CutRange
import Derived.Deep.OwnRows
import Derived.Deep.RegionHeld3
import Derived.BigQuiet
import Derived.IntWalk
import Derived.Deep.QuietTactic
import Derived.StillTailTactics
import Derived.Test.YtihophdbkjhopaaGreatDoorRows
import Derived.Deep.CutBlock
import Derived.ProofKit
import Derived.LaidMore
import Derived.OpenShut
import Derived.Stop.Joined
import Derived.MakeChecks
import Derived.Carry
import Derived.ChangeKeysEq
import Derived.Laws.BytesString
import Derived.BigFrame
import Derived.Deep.Matrix
import Derived.Deep.MidRow
import Derived.Deep.RegionWith
import Derived.Test.YtihophdbkjhopaaGreatDoorZD7
import Derived.Test.YtihophdbkjhopaaGreatDoorZD1
import Derived.Test.YtihophdbkjhopaaGreatDoorZD2
import Derived.Test.YtihophdbkjhopaaGreatDoorZD5
import Derived.Test.YtihophdbkjhopaaGreatDoorZD4
import Derived.Test.YtihophdbkjhopaaGreatDoorZD3
set_option maxRecDepth 1000000
set_option maxHeartbeats 20000000
namespace Go.Proofs.YtihophdbkjhopaaGreatDoor
open Go.RowKit
open Go.Value renaming int → vI
open Go.IntKind renaming u64 → vU
open Go.Act renaming put → aP
open List renaming setIfInBounds_toArray → lA, set_cons_zero → lZ, set_cons_succ → lS
theorem zcr {P : Program} {w : World} {ops : Array Oper} {rest : List Oper} {o : Oper} {a : Act} {Q : Exit → Act → World → Prop} (hgd : o.guard = none) (d s : Operand) (dT sT : TypeId)
  (ho : o.op = .call { callee:=.builtin .copy,args:=#[d,s],argTypes:=#[dT,sT] }) (elem : TypeId) (hu : P.underlying dT = some (.slice elem)) (hsz : (P.info? elem).map (·.size) = some 1)
  (g off dLen dCap : Nat) (ad : Addr) (sLen sCap : Nat) (hd : a.eval d = .slice (some ⟨g,off,none⟩) dLen dCap) (hs : a.eval s = .slice (some ad) sLen sCap)
  (t n : Nat) (f : Nat → Value) (hrow : w.rowIs g t n f) (m : Nat) (hm : m = Nat.min sLen dLen) (v : Nat → Value) (hsrc : ∀ j,j < m → w.cell? (ad.add j) = some (v j)) (hfit : off + m ≤ n)
  (h1 : ∀ j,j < m → (v j).oneCell' = true)
  (h : ∀ w',But g w w' → w'.rowIs g t n (fun j => if off ≤ j ∧ j < off + m then v (j - off) else f j) → wpList P ops Q rest (a.put o.dst (goInt (m : Nat))) w') : wpList P ops Q (o :: rest) a w:=by
 have hcs : ((List.range m).map v).length = m:=by simp
 have hk:=wpList_copy_own (P:=P) (w:=w) (ops:=ops) (rest:=rest) (o:=o) (a:=a) (Q:=Q) hgd d s dT sT ho elem hu hsz g off dLen dCap ad sLen sCap hd hs (arrOf n f) t (blkOf hrow) ((List.range m).map v) (by rw [hcs,hm])
  (fun j u hu => by
   have hj : j < m:=by have:=(List.getElem?_eq_some_iff.1 hu).1; simpa using this
   rw [hsrc j hj,← hu]; simp [hj]) (by rw [hcs,zah]; exact hfit) (fun u hu => by
   simp at hu; obtain ⟨j,hj,rfl⟩:=hu; exact h1 j hj)
 rw [hcs] at hk
 refine hk (h _ ⟨rfl,rfl,rfl,by simp [World.setRow],fun k _ hne => zap w _ (by simpa using hne)⟩ ?_)
 refine row_setRow hrow (by simp [zah]; omega) fun i hi => ?_
 have hl : (arrOf n f).toList.length = n:=by simp [zah]
 by_cases c1 : i < off
 ·
  rw [if_neg (by omega)]
  simp only [List.getElem?_toArray]
  rw [List.getElem?_append_left (by simp [hl]; omega),List.getElem?_take_of_lt c1]
  simpa using zbk f hi
 ·
  by_cases c2 : i < off + m
  ·
   rw [if_pos ⟨by omega,c2⟩]
   simp only [List.getElem?_toArray]
   rw [List.getElem?_append_right (by simp [hl]; omega),List.getElem?_append_left (by simp [hl]; omega)]
   simp [hl,show min off n = off by omega,show i - off < m by omega]
  ·
   rw [if_neg (by omega)]
   simp only [List.getElem?_toArray]
   rw [List.getElem?_append_right (by simp [hl]; omega),List.getElem?_append_right (by simp [hl]; omega),List.getElem?_drop]
   rw [show off + m + (i - (List.take off (arrOf n f).toList).length - ((List.range m).map v).length) = i by simp [hl]; omega]
   simpa using zbk f hi
theorem blockN_congr {m m' : Nat → Nat} (h : ∀ t,t < 16 → m t = m' t) (s : St) : blockN m s = blockN m' s:=by
 have hs : ∀ k,sched m k = sched m' k:=by
  intro k
  induction k with
  | zero => simp only [sched]
  | succ k ihk =>
   simp only [sched]
   rw [ihk]
   by_cases hk : k < 16
   ·
    simp only [if_pos hk]; rw [h k hk]
   ·
    simp only [if_neg hk]
 have hr : ∀ k,roundsN m s k = roundsN m' s k:=by
  intro k
  induction k with
  | zero => simp only [roundsN]
  | succ k ihk =>
   simp only [roundsN]
   rw [ihk]; unfold wt; rw [hs]
 unfold blockN; rw [hr]
structure HOk (b : Nat → Nat) (L : Nat) (s : St) (blk : Nat → Nat) : Prop where
 s : s = blocksN b (L / 64)
 pre : ∀ j,j < L % 64 → blk j = b (64 * (L / 64) + j)
 lt : ∀ j,blk j < 256
theorem HOk.part {b : Nat → Nat} {L m : Nat} {s : St} {blk : Nat → Nat} (h : HOk b L s blk) (hm : L % 64 + m < 64) (hb : ∀ i,L ≤ i → i < L + m → b i < 256) :
  HOk b (L + m) s (fun j => if L % 64 ≤ j ∧ j < L % 64 + m then b (L + (j - L % 64)) else blk j):=by
 have e1 : (L + m) / 64 = L / 64:=by omega
 refine ⟨by rw [e1]; exact h.s,fun j hj => ?_,fun j => ?_⟩
 ·
  rw [e1]
  by_cases c : j < L % 64
  ·
   rw [if_neg (by omega),h.pre j c]
  ·
   rw [if_pos (by omega)]; congr 1; omega
 ·
  show (if _ then _ else _) < 256
  split
  ·
   exact hb _ (by omega) (by omega)
  ·
   exact h.lt j
theorem HOk.full {b : Nat → Nat} {L m : Nat} {s : St} {blk : Nat → Nat} (h : HOk b L s blk) (hm : L % 64 + m = 64) (hb : ∀ i,L ≤ i → i < L + m → b i < 256) :
  HOk b (L + m) (blockN (fun t => word (fun j => if L % 64 ≤ j ∧ j < L % 64 + m then b (L + (j - L % 64)) else blk j) (4 * t)) s) (fun j => if L % 64 ≤ j ∧ j < L % 64 + m then b (L + (j - L % 64)) else blk j):=by
 have e1 : (L + m) / 64 = L / 64 + 1:=by omega
 have e2 : ∀ j,j < 64 → (if L % 64 ≤ j ∧ j < L % 64 + m then b (L + (j - L % 64)) else blk j) = b (64 * (L / 64) + j):=fun j hj => by
  by_cases c : j < L % 64
  ·
   rw [if_neg (by omega),h.pre j c]
  ·
   rw [if_pos (by omega)]; congr 1; omega
 refine ⟨?_,fun j hj => by omega,fun j => ?_⟩
 ·
  rw [e1]
  show _ = blockN (fun t => word b (64 * (L / 64) + 4 * t)) (blocksN b (L / 64))
  rw [← h.s]
  refine blockN_congr (fun t ht => ?_) s
  show word _ (4 * t) = word b (64 * (L / 64) + 4 * t)
  unfold word
  dsimp only
  rw [e2 _ (by omega),e2 _ (by omega),e2 _ (by omega),e2 _ (by omega)]
  rfl
 ·
  show (if _ then _ else _) < 256
  split
  ·
   exact hb _ (by omega) (by omega)
  ·
   exact h.lt j
theorem HOk.congr {b b' : Nat → Nat} {L : Nat} {s : St} {blk : Nat → Nat} (h : HOk b L s blk) (e : ∀ i,i < L → b i = b' i) : HOk b' L s blk :=
 ⟨by rw [h.s]; exact zhq _ (fun i hi => e i (by omega)),fun j hj => by rw [h.pre j hj,e _ (by omega)],h.lt⟩
def HashIs (w : World) (g : Nat) (b : Nat → Nat) (L : Nat) : Prop:=∃ s blk,HOk b L s blk ∧ HRow w g s blk L
section
variable {w w' : World} {g B L : Nat} {b b' : Nat → Nat}
theorem HashIs.lt (h : HashIs w g b L) : g < w.heap.size:=by obtain ⟨_,_,_,h⟩:=h; exact h.lt
theorem HashIs.of_block (h : HashIs w g b L) (e : w'.heap[g]? = w.heap[g]?) : HashIs w' g b L:=by obtain ⟨s,k,o,h⟩:=h; exact ⟨s,k,o,h.of_block e⟩
theorem HashIs.call (h : HashIs w g b L) (hb : Below w.heap.size w w') : HashIs w' g b L:=h.of_block (hb.block g h.lt)
theorem HashIs.below (h : HashIs w g b L) (hb : Below B w w') (hlt : g < B) : HashIs w' g b L:=h.of_block (hb.block g hlt)
theorem HashIs.but {r : Nat} (h : HashIs w g b L) (k : But r w w') (hne : g ≠ r) : HashIs w' g b L:=h.of_block (k.block g h.lt (by simpa using hne))
theorem HashIs.alloc (h : HashIs w g b L) (o : Obj) : HashIs (w.alloc o) g b L:=h.of_block (Below.heap_alloc _ _ _ h.lt)
theorem HashIs.drew (h : HashIs w g b L) : HashIs w.drew g b L:=h
theorem HashIs.congr (h : HashIs w g b L) (e : ∀ i,i < L → b i = b' i) : HashIs w g b' L:=by obtain ⟨s,k,o,h⟩:=h; exact ⟨s,k,o.congr e,h⟩
theorem HashIs.len (h : HashIs w g b L) : w.cell? ⟨g,72,none⟩ = some (.int .i64 (L : Int)):=by obtain ⟨_,_,_,h⟩:=h; exact h.length
end
def cat (b : Nat → Nat) (len : Nat) (y : Nat → Nat) : Nat → Nat:=fun i => if i < len then b i else y (i - len)
def Src (w : World) (A : Option Addr) (n : Nat) (y : Nat → Nat) (g : Nat) : Prop:=n = 0 ∨ ∃ b o,A = some ⟨b,o,none⟩ ∧ b < w.heap.size ∧ b ≠ g ∧ ∀ j,j < n → w.cell? ⟨b,o + j,none⟩ = some (.int .u8 (y j : Nat))
section
variable {w w' : World} {A : Option Addr} {n g B : Nat} {y : Nat → Nat}
theorem Src.below (h : Src w A n y g) (hb : Below w.heap.size w w') : Src w' A n y g:=by
 rcases h with h | ⟨b,o,ha,hlt,hne,hc⟩
 ·
  exact .inl h
 ·
  exact .inr ⟨b,o,ha,Nat.lt_of_lt_of_le hlt hb.size,hne,fun j hj => (hb.cell (p:=⟨b,o + j,none⟩) hlt).trans (hc j hj)⟩
theorem Src.but (h : Src w A n y g) (hb : But g w w') : Src w' A n y g:=by
 rcases h with h | ⟨b,o,ha,hlt,hne,hc⟩
 ·
  exact .inl h
 ·
  exact .inr ⟨b,o,ha,Nat.lt_of_lt_of_le hlt hb.size,hne,fun j hj => (World.cell?_of_block (w:=w) (a:=⟨b,o + j,none⟩) (hb.block b hlt (by simpa using hne))).trans (hc j hj)⟩
theorem Src.congr {y' : Nat → Nat} (h : Src w A n y g) (e : ∀ j,j < n → y j = y' j) : Src w A n y' g:=by
 rcases h with h | ⟨b,o,ha,hlt,hne,hc⟩
 ·
  exact .inl h
 ·
  exact .inr ⟨b,o,ha,hlt,hne,fun j hj => by rw [hc j hj,e j hj]⟩
end
theorem sliceAt_arr (g fl : Nat) (hf : fl < 64) (w : World) : (Instr.sliceAt 158 (.pointer (some ⟨g,8,none⟩)) (some (.int .i64 (fl : Int))) none none).run Tryz.prog w = .ok (.slice (some ⟨g,8 + fl,none⟩) (64 - fl) (64 - fl)) w:=by
 have e1 : Tryz.prog.arrayLen 158 = 64:=by kernel_rfl
 have e2 : ((sizeOf (Tryz.prog.elem 158)).run Tryz.prog w) = .ok 1 w:=by kernel_rfl
 rw [run_sliceAt_array_l w 158 ⟨g,8,none⟩ (by kernel_rfl) .i64 (fl : Int) (by omega) (by rw [e1]; omega),e2,e1]
 have h64 : ¬ 64 = fl:=by omega
 simp [slicedAt,Result.andThen,h64,Addr.add_mid]
def tailAt (b o m c : Nat) : Option Addr:=if c = m then some ⟨b,o,none⟩ else some ⟨b,o + m,none⟩
theorem slice_from (b o r c m : Nat) (hm : m ≤ r) (w : World) : (Instr.slice 24 (.slice (some ⟨b,o,none⟩) r c) (some (.int .i64 (m : Int))) none none).run Tryz.prog w = .ok (.slice (tailAt b o m c) (r - m) (c - m)) w:=by
 have e2 : ((sizeOf (Tryz.prog.elem 24)).run Tryz.prog w) = .ok 1 w:=by kernel_rfl
 rw [run_slice_l w 24 (some ⟨b,o,none⟩) r c (by kernel_rfl) .i64 (m : Int) (by omega) (by omega),e2]
 by_cases h : c = m
 ·
  simp [sliced,Result.andThen,tailAt,h]
 ·
  simp [sliced,Result.andThen,tailAt,h,Addr.add_mid]
theorem sliceAt_from (b o r c m : Nat) (hm : m ≤ r) (w : World) : (Instr.sliceAt 24 (.slice (some ⟨b,o,none⟩) r c) (some (.int .i64 (m : Int))) none none).run Tryz.prog w = .ok (.slice (tailAt b o m c) (r - m) (c - m)) w:=by
 rw [run_sliceAt_slice w 24 _ _ _ _ (by kernel_rfl)]
 exact slice_from b o r c m hm w
theorem Src.tail {w : World} {b o r c m g : Nat} {y : Nat → Nat} (h : Src w (some ⟨b,o,none⟩) r y g) (hm : m ≤ r) (hc : r ≤ c) : Src w (tailAt b o m c) (r - m) (fun j => y (m + j)) g:=by
 by_cases h0 : r - m = 0
 ·
  exact .inl h0
 ·
  rcases h with h | ⟨b',o',e,hlt,hne,hcl⟩
  ·
   omega
  ·
   simp only [Option.some.injEq,Addr.mk.injEq] at e
   obtain ⟨rfl,rfl,_⟩:=e
   refine .inr ⟨b,o + m,by unfold tailAt; rw [if_neg (by omega)],hlt,hne,fun j hj => ?_⟩
   rw [Nat.add_assoc]
   exact hcl (m + j) (by omega)
def lenOf : Value → Nat | .slice _ r _ => r | _ => 0
theorem infoB : (Tryz.prog.info? 5).map (·.size) = some 1:=by kernel_rfl
theorem zeq (g : Nat) (b : Nat → Nat) (L : Nat) (A : Option Addr) (n c : Nat) (y : Nat → Nat) (hy : ∀ j,y j < 256) (hnc : n ≤ c) (hLn : L + n ≤ 4611686018427387904) (hg : g ≠ 0)
  (w : World) (hK : KT w) (hH : HashIs w g b L) (hS : Src w A n y g) :
  Calls Tryz.prog 61 #[.pointer (some ⟨g,0,none⟩),.slice A n c] w fun e w' => e = .returned (.tuple #[]) ∧ HashIs w' g (cat b L y) (L + n) ∧ But g w w':=by
 obtain ⟨T,hT⟩ : ∃ T,T = cat b L y:=⟨_,rfl⟩
 have hH : HashIs w g T L:=hH.congr fun i hi => by rw [hT]; unfold cat; rw [if_pos hi]
 have hTy : ∀ i,T (L + i) = y i:=fun i => by rw [hT]; unfold cat; rw [if_neg (by omega),Nat.add_sub_cancel_left]
 have HT:=veil hT
 have HTy:=veil hTy
 have HY:=veil hy
 have HG:=veil hg
 clear hT hTy hy hg
 go_enter Tryz.func61,Tryz.ntmps61
 go_wp2
 go_loopw [1] (fun v wr => ∃ (A : Option Addr) (k r c : Nat),k + r = n ∧ r ≤ c ∧ v = .slice A r c ∧ Src wr A r (fun j => y (k + j)) g ∧ HashIs wr g T (L + k) ∧ But g w wr ∧ KT wr)
  (fun v _ => lenOf v)
 case atStart => exact ⟨A,0,n,c,by omega,hnc,rfl,hS.congr fun j _ => by rw [Nat.zero_add],hH,But.refl _ _,hK⟩
 case round =>
  obtain ⟨A,k,r,c,hkr,hrc,rfl,hS,hH,hB,hK⟩:=hrel
  by_cases h0 : r = 0
  ·
   subst h0
   go_wp2
   go_end0
   exact ⟨rfl,by rw [← HT.out,show n = k by omega]; exact hH,hB⟩
  ·
   obtain ⟨bb,o,rfl,hlt,hne,hc⟩ : ∃ b o,A = some ⟨b,o,none⟩ ∧ b < wr.heap.size ∧ b ≠ g ∧ ∀ j,j < r → wr.cell? ⟨b,o + j,none⟩ = some (.int .u8 (y (k + j) : Nat)):=hS.resolve_left h0
   obtain ⟨s,blk,hok,hrow⟩:=hH
   obtain ⟨N,hN⟩ : ∃ N,N = L + k:=⟨_,rfl⟩
   rw [← hN] at hok hrow
   obtain ⟨fl,hfl⟩ : ∃ fl,fl = N % 64:=⟨_,rfl⟩
   have hfi : (N : Int) % 64 = (fl : Int):=by omega
   have hf64 : fl < 64:=by omega
   obtain ⟨m,hm⟩ : ∃ m,m = Nat.min r (64 - fl):=⟨_,rfl⟩
   have hm0 : 0 < m:=by rw [hm]; show 0 < min r (64 - fl); omega
   have hmr : m ≤ r:=by rw [hm]; exact Nat.min_le_left _ _
   have hmf : fl + m ≤ 64:=by rw [hm]; show fl + min r (64 - fl) ≤ 64; omega
   have cL:=hrow.length
   have fL:=World.rowIs.frozen hrow 72
   have hr0 : (0 : Int) < (r : Int):=by omega
   have hN0 : N ≤ 4611686018427387904:=by omega
   have hNm : N + m ≤ 4611686018427387904:=by omega
   have HR:=veil hrow
   have HC:=veil hc
   have HM:=veil hm
   have HF:=veil hfl
   have HN:=veil hN
   have HK:=veil hok
   have HB2:=veil hne
   clear hrow hc hm hfl hN hok hne h0
   have q1:=fun W => sliceAt_arr g fl hf64 W
   have q2:=fun W => slice_from bb o r c m hmr W
   have q3:=fun W => sliceAt_from bb o r c m hmr W
   clear cL fL
   have hsrc : ∀ j,j < m → wr.cell? ((⟨bb,o,none⟩ : Addr).add j) = some (.int .u8 (y (k + j) : Nat)):=fun j hj => by
    rw [Addr.add_mid]; exact HC.out j (by omega)
   have HSRC:=veil hsrc
   have cL:=HR.out.length
   clear hsrc
   go_upto_region 3 with ((with_reducible refine zab 20 ?_); refine zcr rfl _ _ 24 24 rfl 5 Tryz.underlying24 infoB g (8 + fl) (64 - fl) (64 - fl) ⟨bb,o,none⟩ r c rfl rfl 160 73 _ HR.out m HM.out (fun j => .int .u8 (y (k + j) : Nat)) HSRC.out (by omega) (fun _ _ => rfl) ?_; intro w2 hb2 hr2)
   have hTn : ∀ j,T (N + j) = y (k + j):=fun j => by rw [HN.out,Nat.add_assoc]; exact HTy.out _
   obtain ⟨blk',hblk'⟩ : ∃ blk' : Nat → Nat,blk' = fun j => if N % 64 ≤ j ∧ j < N % 64 + m then T (N + (j - N % 64)) else blk j:=⟨_,rfl⟩
   have hr2 : HRow w2 g s blk' N:=hr2.congr fun j hj => by
    unfold hcells
    rw [hblk',← HF.out]
    dsimp only
    by_cases c1 : 8 + fl ≤ j ∧ j < 8 + fl + m
    ·
     rw [if_pos c1,if_neg (by omega),if_pos (by omega),if_pos (by omega),hTn,show j - 8 - fl = j - (8 + fl) by omega]
    ·
     rw [if_neg c1]
     by_cases c2 : j < 8
     ·
      rw [if_pos c2,if_pos c2]
     ·
      rw [if_neg c2,if_neg c2]
      by_cases c3 : j < 72
      ·
       rw [if_pos c3,if_pos c3,if_neg (by omega)]
      ·
       rw [if_neg c3,if_neg c3]
   have HBLK:=veil hblk'
   have hS2:=hS.but hb2
   have hK2:=hK.grown hb2 HG.out.symm
   have hB2:=But.trans hB hb2
   have cL:=hr2.length
   have fL:=World.rowIs.frozen hr2 72
   clear hb2 hblk' hTn hS hK hB HSRC HR HC
   have hNi : (N : Int) + (m : Int) = ((N + m : Nat) : Int):=by omega
   obtain ⟨N2,hN2⟩ : ∃ N2,N2 = N + m:=⟨_,rfl⟩
   rw [← hN2] at hNi hNm
   have HN2:=veil hN2
   clear hN2
   have hr3 : HRow (w2.setCell ⟨g,72,none⟩ (.int .i64 (N2 : Int))) g s blk' N2:=(World.rowIs.set hr2 72 _).congr fun j hj => by
    unfold hcells
    by_cases h : j = 72
    ·
     subst h; rfl
    ·
     rw [if_neg h]
     by_cases c2 : j < 8
     ·
      rw [if_pos c2,if_pos c2]
     ·
      rw [if_neg c2,if_neg c2,if_pos (by omega),if_pos (by omega)]
   have hbs : But g w2 (w2.setCell ⟨g,72,none⟩ (.int .i64 (N2 : Int))):=But.set (But.refl _ _) _ _
   have hS3:=(hS2.but hbs).tail hmr hrc
   have hK3:=hK2.grown hbs HG.out.symm
   have hB3:=But.trans hB2 hbs
   have hTb : ∀ i,N ≤ i → i < N + m → T i < 256:=fun i h1 h2 => by
    obtain ⟨d,rfl⟩ : ∃ d,i = N + d:=⟨i - N,by omega⟩
    rw [HN.out,Nat.add_assoc,HTy.out]; exact HY.out _
   have HTB:=veil hTb
   have HH3:=veil (And.intro hS3 (And.intro hK3 (And.intro hB3 hr3)))
   clear hTb hS3 hK3 hB3 hr3 hbs hS2 hK2 hB2
   have HSZ:=veil (show lenOf (.slice (tailAt bb o m c) (r - m) (c - m)) < lenOf (.slice (some ⟨bb,o,none⟩) r c) by show r - m < r; omega)
   by_cases hful : fl + m = 64
   ·
    have hq : (fl : Int) + (m : Int) = 64:=by omega
    have hok2:=HK.out.full (m:=m) (by rw [← HF.out]; exact hful) HTB.out
    rw [← HBLK.out,← HN2.out] at hok2
    have HO:=veil hok2
    clear hok2
    go_upto_region 6 with (fail)
    clear cL fL hr2 q1 q2 q3
    generalize w2.setCell ⟨g,72,none⟩ (.int .i64 (N2 : Int)) = w3 at *
    go_wp2_with ((with_reducible refine (mix_calls g s blk' N2 (HK.out.s ▸ blocksN_ok _ _) HO.out.lt _ HH3.out.2.1 HH3.out.2.2.2).mono ?_); rintro e w4 ⟨rfl,hr4,hb4⟩)
    go_roundw
    case rel =>
     refine ⟨_,k + m,r - m,c - m,by omega,by omega,rfl,((HH3.out.1).but hb4).congr fun j _ => by rw [Nat.add_assoc],⟨blockN (fun t => word blk' (4 * t)) s,blk',?_,?_⟩,But.trans HH3.out.2.2.1 hb4,HH3.out.2.1.grown hb4 HG.out.symm⟩
     ·
      rw [← Nat.add_assoc,← HN.out,← HN2.out]; exact HO.out
     ·
      rw [← Nat.add_assoc,← HN.out,← HN2.out]; exact hr4
    case measure => exact HSZ.out
   ·
    have hq : ¬ ((fl : Int) + (m : Int) = 64):=by omega
    have hok2:=HK.out.part (m:=m) (by rw [← HF.out]; omega) HTB.out
    rw [← HBLK.out,← HN2.out] at hok2
    have HO:=veil hok2
    clear hok2
    go_wp2
    go_roundw
    case rel =>
     refine ⟨_,k + m,r - m,c - m,by omega,by omega,rfl,(HH3.out.1).congr fun j _ => by rw [Nat.add_assoc],⟨s,blk',?_,?_⟩,HH3.out.2.2.1,HH3.out.2.1⟩
     ·
      rw [← Nat.add_assoc,← HN.out,← HN2.out]; exact HO.out
     ·
      rw [← Nat.add_assoc,← HN.out,← HN2.out]; exact HH3.out.2.2.2
    case measure => exact HSZ.out
theorem infoB3 : (Tryz.prog.info? 5).map (fun i => (i.zero,i.size,i.bytes)) = some (some (.int .u8 0),1,1):=by kernel_rfl
def padB (len : Nat) (i : Nat) : Nat:=padded (fun _ => 0) len (len + i)
def padN (len : Nat) : Nat:=64 * nBlocks len - len
theorem padN_eq (len : Nat) : padN len = 9 + (64 - (len + 9) % 64) % 64:=by unfold padN nBlocks; omega
theorem padN_all (len : Nat) : len + padN len = 64 * nBlocks len:=by unfold padN nBlocks; omega
theorem padB_lt (len i : Nat) : padB len i < 256:=by
 unfold padB padded
 rw [if_neg (by omega)]
 split
 ·
  omega
 ·
  split
  ·
   omega
  ·
   exact Nat.mod_lt _ (by omega)
theorem cat_pad (b : Nat → Nat) (len : Nat) : cat b len (padB len) = padded b len:=by
 funext i
 unfold cat padB
 by_cases h : i < len
 ·
  rw [if_pos h]; unfold padded; rw [if_pos h]
 ·
  rw [if_neg h,show len + (i - len) = i by omega]; unfold padded; rw [if_neg h,if_neg h]
def padK (len k : Nat) (j : Nat) : Nat:=if j = 0 then 128 else if j + k < padN len then 0 else padB len j
theorem padK_all (len j : Nat) (hj : j < padN len) : padK len 8 j = padB len j:=by
 unfold padK
 by_cases h : j = 0
 ·
  subst h; rw [if_pos rfl]; unfold padB padded; rw [if_neg (by omega),if_pos (by omega)]
 ·
  rw [if_neg h]
  by_cases h2 : j + 8 < padN len
  ·
   rw [if_pos h2]; unfold padB padded
   have:=padN_all len
   rw [if_neg (by omega),if_neg (by omega),if_pos (by omega)]
  ·
   rw [if_neg h2]
theorem padB_last {len k : Nat} (hk : k < 8) : padB len (padN len - 1 - k) = 8 * len / 256 ^ k % 256:=by
 have h1:=padN_eq len
 have h2:=padN_all len
 unfold padB padded
 rw [if_neg (by omega),if_neg (by omega),if_neg (by omega),show 64 * nBlocks len - 1 - (len + (padN len - 1 - k)) = k by omega]
theorem byte_shift (x k : Nat) : (x : Int) / 2 ^ (8 * k) % 256 = ((x / 256 ^ k % 256 : Nat) : Int):=by
 rw [Int.natCast_emod,Int.natCast_ediv,Int.natCast_pow,Nat.mul_comm 8 k,Nat.mul_comm k 8,Int.pow_mul]
 rfl
theorem padding_calls (len : Nat) (hl : len ≤ 288230376151711744) (w : World) :
  Calls Tryz.prog 118 #[.int .i64 (len : Int)] w fun e w' => e = .returned (.slice (some ⟨w.heap.size,0,none⟩) (padN len) (padN len)) ∧ w'.rowIs w.heap.size 5 (padN len) (fun j => .int .u8 (padB len j : Nat)) ∧ Below w.heap.size w w':=by
 have hP:=padN_eq len
 obtain ⟨P,hPP⟩ : ∃ P,P = padN len:=⟨_,rfl⟩
 rw [← hPP] at hP
 obtain ⟨o,ho⟩ : ∃ o,o = (len + 9) % 64:=⟨_,rfl⟩
 obtain ⟨z,hz⟩ : ∃ z,z = (64 - o) % 64:=⟨_,rfl⟩
 have e1 : ((len : Int) + 9) % 64 = (o : Int):=by omega
 have e2 : (64 - (o : Int)) % 64 = (z : Int):=by omega
 have e3 : 9 + (z : Int) = (P : Int):=by omega
 have ho64 : o < 64:=by omega
 have hz64 : z < 64:=by omega
 have hP9 : 9 ≤ P:=by omega
 have hP72 : P ≤ 72:=by omega
 have hmk:=fun W => run_make_row' (P:=Tryz.prog) 24 5 (.int .u8 0) 1 Tryz.underlying24 infoB3 rfl .i64 .i64 P (by omega) (by omega) W
 have HP:=veil hPP
 clear hP hz ho hPP
 go_enter Tryz.func118,Tryz.ntmps118
 go_upto_region 5 with (fail)
 have hR:=World.rowIs_made w (.int .u8 0) P 5
 have hb : Below w.heap.size w (w.alloc (.cells (madeCells #[.int .u8 0] P) 5)):=(Below.refl _ _).alloc (Nat.le_refl _) _
 generalize w.alloc (.cells (madeCells #[.int .u8 0] P) 5) = w1 at *
 generalize hgz : w.heap.size = g at *
 have HGZ:=veil hgz
 clear hgz hmk
 have c0:=hR.cell (show 0 < P by omega)
 have f0:=hR.frozen 0
 have hP0 : 0 < P:=by omega
 go_upto_region 6 with (fail)
 have hR1 : (w1.setCell ⟨g,0,none⟩ (.int .u8 128)).rowIs g 5 P (fun j => .int .u8 (padK len 0 j : Nat)):=(hR.set 0 _).congr fun j hj => by
  unfold padK
  by_cases h : j = 0
  ·
   rw [if_pos h,if_pos h]; rfl
  ·
   rw [if_neg h,if_neg h,if_pos (by rw [← HP.out]; omega)]; rfl
 have hb1 : Below g w (w1.setCell ⟨g,0,none⟩ (.int .u8 128)):=zag hb (Nat.le_refl _) _
 generalize w1.setCell ⟨g,0,none⟩ (.int .u8 128) = w2 at *
 have e4 : (len : Int) * 8 = ((8 * len : Nat) : Int):=by omega
 obtain ⟨bc,hbc⟩ : ∃ bc,bc = 8 * len:=⟨_,rfl⟩
 have hbl : bc ≤ 2305843009213693952:=by omega
 rw [← hbc] at e4
 have HBC:=veil hbc
 clear c0 f0 hR hb hbc
 go_wp2
 go_loopw [25] (fun v wr => ∃ k : Nat,k ≤ 8 ∧ v = .int .i64 (k : Int) ∧ wr.rowIs g 5 P (fun j => .int .u8 (padK len k j : Nat)) ∧ Below g w wr)
  (fun v _ => 8 - (intOf v).toNat)
 case atStart => exact ⟨0,by omega,rfl,hR1,hb1⟩
 case round =>
  obtain ⟨k,hk,rfl,hR,hb⟩:=hrel
  by_cases hlt : k < 8
  ·
   obtain ⟨d,hd⟩ : ∃ d,d = P - 1 - k:=⟨_,rfl⟩
   have hdP : d < P:=by omega
   have hdi : (P : Int) - 1 - (k : Int) = (d : Int):=by omega
   have c0:=hR.cell hdP
   have f0:=hR.frozen d
   have HD:=veil hd
   clear hd
   go_wp2
   go_roundw
   case rel =>
    refine ⟨k + 1,by omega,by go_num,(hR.set d _).congr fun j hj => ?_,zag hb (Nat.le_refl _) _⟩
    by_cases h : j = d
    ·
     rw [if_pos h,byte_shift]
     have hd:=HD.out
     unfold padK
     rw [if_neg (by omega),← HP.out,if_neg (by omega),h,hd,HP.out,padB_last hlt,HBC.out]
    ·
     rw [if_neg h]
     have hd:=HD.out
     unfold padK
     rw [← HP.out]
     by_cases h0 : j = 0
     ·
      rw [if_pos h0,if_pos h0]
     ·
      rw [if_neg h0,if_neg h0]
      by_cases h1 : j + k < P
      ·
       rw [if_pos h1,if_pos (by omega)]
      ·
       rw [if_neg h1,if_neg (by omega)]
   case measure => simp [intOf]; omega
  ·
   obtain rfl : k = 8:=by omega
   go_wp2
   go_ret
   exact ⟨by rw [HP.out,HGZ.out]; rfl,by rw [HGZ.out,← HP.out]; exact hR.congr (fun j hj => by rw [padK_all len j (by rw [← HP.out]; exact hj)]),by rw [HGZ.out]; exact hb⟩
/-! ### New,Len,Clone -/
def zH : Array Value:=arrOf 73 (hcells ⟨0,0,0,0,0,0,0,0⟩ (fun _ => 0) 0)
theorem zH_size : zH.size = 73:=zah _ _
theorem zero_hash (w : World) : (zeroValue 160).run Tryz.prog w = .ok (.agg zH) w:=(zero_of_info (P:=Tryz.prog) (t:=160) (v:=.agg zH) (n:=73) (by kernel_rfl)).1 w
theorem hok_none (b : Nat → Nat) : HOk b 0 (blocksN (fun _ => 0) 0) (fun _ => 0):=⟨rfl,fun _ h => by omega,fun _ => by decide⟩
theorem new_calls (w : World) :
  Calls Tryz.prog 60 #[] w fun e w' => e = .returned (.pointer (some ⟨w.heap.size,0,none⟩)) ∧ (∀ b,HashIs w' w.heap.size b 0) ∧ Below w.heap.size w w':=by
 have z1:=zero_hash
 have z2:=zH_size
 go_enter Tryz.func60,Tryz.ntmps60
 go_wp2
 generalize hX : Obj.cells _ 160 = X
 have hX2 : X = .cells (arrOf 73 (hcells (blocksN (fun _ => 0) 0) (fun _ => 0) 0)) 160:=by rw [← hX]; rfl
 clear hX
 subst hX2
 have hr : HRow (w.alloc (.cells (arrOf 73 (hcells (blocksN (fun _ => 0) 0) (fun _ => 0) 0)) 160)) w.heap.size (blocksN (fun _ => 0) 0) (fun _ => 0) 0:=zbe w 73 160 _ rfl
 have hb : Below w.heap.size w (w.alloc (.cells (arrOf 73 (hcells (blocksN (fun _ => 0) 0) (fun _ => 0) 0)) 160)):=(Below.refl _ _).alloc (Nat.le_refl _) _
 go_ret
 exact ⟨rfl,fun b => ⟨_,_,hok_none b,hr⟩,hb⟩
theorem infoH : (Tryz.prog.info? 160).map (·.size) = some 73:=by kernel_rfl
theorem hone (s : St) (blk : Nat → Nat) (len : Nat) : (arrOf 73 (hcells s blk len)).all (·.oneCell') = true:=zas fun j _ => by
 unfold hcells
 split
 ·
  rfl
 ·
  split <;> rfl
theorem clone_calls (g L : Nat) (b : Nat → Nat) (w : World) (hH : HashIs w g b L) :
  Calls Tryz.prog 117 #[.pointer (some ⟨g,0,none⟩)] w fun e w' => e = .returned (.pointer (some ⟨w.heap.size,0,none⟩)) ∧ HashIs w' w.heap.size b L ∧ Below w.heap.size w w':=by
 obtain ⟨s,blk,hok,hrow⟩:=hH
 have hg:=blkOf hrow
 obtain ⟨X,hX⟩ : ∃ X,X = arrOf 73 (hcells s blk L):=⟨_,rfl⟩
 rw [← hX] at hg
 have HG:=veil hg
 have HX:=veil (show X.size = 73 ∧ X.all (·.oneCell') = true from ⟨by rw [hX,zah],by rw [hX]; exact hone s blk L⟩)
 have HI:=veil (show (Tryz.prog.info? 160).map (·.size) = some X.size by rw [HX.out.1]; exact infoH)
 have HXX:=veil hX
 have z1:=zero_hash
 have HO:=veil hok
 clear hg hX hok hrow
 go_enter Tryz.func117,Tryz.ntmps117
 go_wp2_with (first
  | ((with_reducible refine zab 6 ?_); refine wpList_load_row rfl 160 _ rfl g rfl 160 X (0,0) _ HG.out Tryz.underlying160 rfl HI.out ?_)
  | ((with_reducible refine zae ?_); refine wpList_store_row rfl 160 _ _ rfl w.heap.size X rfl rfl 160 _ (heap_alloc_last w _) HI.out (by rw [HX.out.1,zH_size]) HX.out.2 ?_; rw [World.setRow_alloc_new]))
 go_ret
 refine ⟨rfl,⟨s,blk,HO.out,?_⟩,(Below.refl _ _).alloc (Nat.le_refl _) _⟩
 rw [HXX.out]
 exact zbe w 73 160 _ rfl
def dByte (s : St) (i : Nat) : Nat:=s.at (i / 4) / 256 ^ (3 - i % 4) % 256
def dgst (b : Nat → Nat) (len : Nat) : Array Value:=arrOf 32 fun i => .int .u8 (dByte (shaSt b len) i : Nat)
theorem infoD : (Tryz.prog.info? 23).map (·.size) = some 32:=by kernel_rfl
theorem zeros32 : (#[.int .u8 0,.int .u8 0,.int .u8 0,.int .u8 0,.int .u8 0,.int .u8 0,.int .u8 0,.int .u8 0,.int .u8 0,.int .u8 0,.int .u8 0,.int .u8 0,.int .u8 0,.int .u8 0,.int .u8 0,.int .u8 0,.int .u8 0,.int .u8 0,.int .u8 0,.int .u8 0,.int .u8 0,.int .u8 0,.int .u8 0,.int .u8 0,.int .u8 0,.int .u8 0,.int .u8 0,.int .u8 0,.int .u8 0,.int .u8 0,.int .u8 0,.int .u8 0] : Array Value) = arrOf 32 (fun _ => .int .u8 0):=rfl
theorem shaSt_of {b : Nat → Nat} {L : Nat} {s : St} {blk : Nat → Nat} (h : HOk (cat b L (padB L)) (L + padN L) s blk) : s = shaSt b L:=by
 rw [h.s,padN_all,cat_pad,Nat.mul_div_cancel_left _ (by decide : 0 < 64)]
 rfl
theorem hsum_calls (g L : Nat) (b : Nat → Nat) (hL : L ≤ 1048576) (w : World) (hK : KT w) (hH : HashIs w g b L) :
  Calls Tryz.prog 62 #[.pointer (some ⟨g,0,none⟩)] w fun e w' => e = .returned (.agg (dgst b L)) ∧ Below w.heap.size w w':=by
 go_enter Tryz.func62,Tryz.ntmps62
 go_upto_region 1 with (fail)
 rw [zeros32]
 have hR0 : (w.alloc (.cells (arrOf 32 (fun _ => .int .u8 0)) 23)).rowIs w.heap.size 23 32 (fun _ => .int .u8 0):=zbe w 32 23 _ rfl
 have hb0 : Below w.heap.size w (w.alloc (.cells (arrOf 32 (fun _ => .int .u8 0)) 23)):=(Below.refl _ _).alloc (Nat.le_refl _) _
 have hK0:=hK.alloc (.cells (arrOf 32 (fun _ => .int .u8 0)) 23)
 have hH0:=hH.alloc (.cells (arrOf 32 (fun _ => .int .u8 0)) 23)
 have hg0 : 0 < w.heap.size:=hK.lt
 generalize w.alloc (.cells (arrOf 32 (fun _ => .int .u8 0)) 23) = w1 at *
 generalize hgr : w.heap.size = gR at *
 have HGR:=veil hgr
 clear hgr hK hH
 go_wp2_with fail
 refine (clone_calls g L b w1 hH0).mono ?_
 rintro e w2 ⟨rfl,hC,hb2⟩
 have hR2:=zac hR0 hb2 hR0.lt
 have hK2:=hK0.call hb2
 have hH2:=hH0.call hb2
 have hB2:=hb0.trans (hb2.mono (Nat.le_of_lt hR0.lt))
 have hgC : gR < w1.heap.size:=hR0.lt
 have hz2:=hC.lt
 generalize w1.heap.size = gC at *
 have cL:=hH2.len
 clear hR0 hK0 hH0 hb0 hb2
 go_wp2_with fail
 refine (padding_calls L (by omega) w2).mono ?_
 rintro e w3 ⟨rfl,hP,hb3⟩
 have hC3:=hC.call hb3
 have hK3:=hK2.call hb3
 have hR3:=zac hR2 hb3 hR2.lt
 have hB3:=hB2.trans (hb3.mono (by omega))
 have hS3 : Src w3 (some ⟨w2.heap.size,0,none⟩) (padN L) (padB L) gC:=.inr ⟨_,0,rfl,hP.lt,by omega,fun j hj => by rw [Nat.zero_add]; exact hP.cell hj⟩
 clear hC hK2 hR2 hB2 hb3 cL hH2 hP
 go_wp2_with fail
 refine (zeq gC b L _ (padN L) (padN L) (padB L) (padB_lt L) (Nat.le_refl _) (by have:=padN_eq L; omega) (by omega) w3 hK3 hC3 hS3).mono ?_
 rintro e w4 ⟨rfl,⟨s,blk,hok,hrow⟩,hb4⟩
 have hR4:=zdw hR3 hb4 (by omega)
 have hB4:=hB3.trans (But.new hb4 (B:=gR) (by omega) (by have:=hR3.lt; omega))
 obtain rfl:=shaSt_of hok
 clear hR3 hB3 hS3 hC3 hK3 hb4 hok
 obtain ⟨sh,hsh⟩ : ∃ sh,sh = shaSt b L:=⟨_,rfl⟩
 rw [← hsh] at hrow
 have HSH:=veil hsh
 clear hsh
 have hlt4 : gR < w4.heap.size:=hR4.lt
 go_upto_region 4 with (fail)
 rw [zeros32]
 have hO5 : (w4.alloc (.cells (arrOf 32 (fun _ => .int .u8 0)) 23)).rowIs w4.heap.size 23 32 (fun _ => .int .u8 0):=zbe w4 32 23 _ rfl
 have hR5:=hR4.alloc (.cells (arrOf 32 (fun _ => .int .u8 0)) 23)
 have hB5:=hB4.alloc (by omega) (.cells (arrOf 32 (fun _ => .int .u8 0)) 23)
 have hw5:=veil (hrow.alloc (.cells (arrOf 32 (fun _ => .int .u8 0)) 23)).words
 generalize w4.alloc (.cells (arrOf 32 (fun _ => .int .u8 0)) 23) = w5 at *
 generalize hgo : w4.heap.size = gO at *
 have hgRO : gR < gO:=by omega
 clear hrow hR4 hB4 hgo
 have kx : ∀ j : Nat,j < 8 → ∀ W,(Instr.index 157 (.agg (stArr sh)) (.int .i64 (j : Int))).run Tryz.prog W = .ok (.int .u32 (sh.at j : Nat)) W:=fun j hj W =>
  zcq (P:=Tryz.prog) (t:=157) (v:=.int .u32 (sh.at j : Nat)) Tryz.underlying157 (by kernel_rfl) (fun W => run_part_plain (P:=Tryz.prog) W (e:=120) (by kernel_rfl) (off:=j) (zbk (n:=8) (fun i => .int .u32 (sh.at i : Nat)) hj)) hj .i64 W
 have KX:=veil kx
 have HSL:=veil (stList sh)
 clear kx
 go_wp2_with ((with_reducible refine zab 20 ?_); refine wpList_load_mid rfl 157 _ rfl gC 0 rfl _ _ hw5.out Tryz.underlying157 rfl (by simpa using infoS) ?_; rw [HSL.out]; generalize hSA : stArr sh = SA at *; have HSA:=veil hSA; clear hSA)
 clear hw5
 go_loopw [21] (fun v wr => ∃ i : Nat,i ≤ 8 ∧ v = .int .i64 (i : Int) ∧ wr.rowIs gO 23 32 (fun p => .int .u8 ((if p < 4 * i then dByte sh p else 0 : Nat) : Int)) ∧ wr.rowIs gR 23 32 (fun _ => .int .u8 0) ∧ Below gR w wr)
  (fun v _ => 8 - (intOf v).toNat)
 case atStart => exact ⟨0,by omega,rfl,hO5,hR5,hB5⟩
 case round =>
  obtain ⟨i,hi,rfl,hO,hR,hB⟩:=hrel
  by_cases hlt : i < 8
  ·
   have ki:=KX.out i hlt
   obtain ⟨x,hx⟩ : ∃ x,x = sh.at i:=⟨_,rfl⟩
   rw [← hx] at ki
   have HX:=veil hx
   have hd : decide ((i : Int) < 8) = true:=by simp; omega
   clear hx
   go_wp2
   go_loopw [25] (fun v wr => ∃ j : Nat,j ≤ 4 ∧ v = .int .i64 (j : Int) ∧ wr.rowIs gO 23 32 (fun p => .int .u8 ((if p < 4 * i + j then dByte sh p else 0 : Nat) : Int)) ∧ wr.rowIs gR 23 32 (fun _ => .int .u8 0) ∧ Below gR w wr)
    (fun v _ => 4 - (intOf v).toNat)
   case atStart => exact ⟨0,by omega,rfl,hO,hR,hB⟩
   case round =>
    obtain ⟨j,hj,rfl,hO,hR,hB⟩:=hrel
    by_cases hlj : j < 4
    ·
     obtain ⟨p,hp⟩ : ∃ p,p = 4 * i + j:=⟨_,rfl⟩
     have hp32 : p < 32:=by omega
     have hpi : (i : Int) * 4 + (j : Int) = (p : Int):=by omega
     have c0:=hO.cell hp32
     have f0:=hO.frozen p
     have HP:=veil hp
     clear hp
     go_wp2
     go_roundw
     case rel =>
      refine ⟨j + 1,by omega,by go_num,(hO.set p _).congr fun q hq => ?_,zat hR (by omega) _,zag hB (by omega) _⟩
      have hp:=HP.out
      by_cases h : q = p
      ·
       rw [if_pos h,if_pos (by omega),byte_shift]
       unfold dByte
       rw [show q / 4 = i by omega,show 3 - q % 4 = 3 - j by omega,← HX.out]
      ·
       rw [if_neg h]
       by_cases h2 : q < 4 * i + j
       ·
        rw [if_pos h2,if_pos (by omega)]
       ·
        rw [if_neg h2,if_neg (by omega)]
     case measure => simp [intOf]; omega
    ·
     have e4 : j = 4:=by omega
     have hjf : decide ((j : Int) < 4) = false:=by simp; omega
     have hO : wr.rowIs gO 23 32 (fun p => .int .u8 ((if p < 4 * (i + 1) then dByte sh p else 0 : Nat) : Int)):=hO.congr fun p _ => by rw [e4,show 4 * (i + 1) = 4 * i + 4 by omega]
     clear e4 hlj hj
     go_wp2
     go_roundw
     case rel => exact ⟨i + 1,by omega,by go_num,hO,hR,hB⟩
     case measure => simp [intOf]; omega
  ·
   have e8 : i = 8:=by omega
   have hif : decide ((i : Int) < 8) = false:=by simp; omega
   have hO : wr.rowIs gO 23 32 (fun p => .int .u8 (dByte sh p : Nat)):=hO.congr fun p hp => by rw [if_pos (by omega)]
   have HA:=veil (blkOf hO)
   have HN:=veil (blkOf hR)
   obtain ⟨D,hD⟩ : ∃ D,D = arrOf 32 (fun p => .int .u8 (dByte sh p : Nat)):=⟨_,rfl⟩
   rw [← hD] at HA
   have hs : D.size = 32:=by rw [hD,zah]
   have h1 : D.all (·.oneCell') = true:=by rw [hD]; exact zas fun _ _ => rfl
   have HZ:=veil (And.intro hs (And.intro h1 (show (Tryz.prog.info? 23).map (·.size) = some D.size by rw [hs]; exact infoD)))
   have HD:=veil (show D = dgst b L by rw [hD,HSH.out]; rfl)
   clear hs h1 hD e8 hlt hi hO hR
   go_wp2_with (first
    | ((with_reducible refine zab 41 ?_); refine wpList_load_row rfl 23 _ rfl gO rfl 23 D (0,0) _ HA.out Tryz.underlying23 rfl HZ.out.2.2 ?_)
    | ((with_reducible refine zae ?_); refine wpList_store_row rfl 23 _ _ rfl gR D rfl rfl 23 _ HN.out HZ.out.2.2 (by rw [HZ.out.1,zah]) HZ.out.2.1 ?_))
   exact bodyPost_ret (results_cell_row rfl _ _ gR 23 D (0,0) _ rfl (setRow_heap wr gR _ D 23 (0,0) HN.out) Tryz.underlying23 rfl HZ.out.2.2) rfl ⟨by rw [HD.out],by rw [HGR.out]; exact zbx hB (Nat.le_refl _) _⟩
theorem zbf (b : Nat → Nat) (n : Nat) : (dgst b n).size = 32:=zah _ _
theorem Src.at {w : World} {A : Option Addr} {n g g' : Nat} {y : Nat → Nat} (h : Src w A n y g) (hg : w.heap.size ≤ g') : Src w A n y g':=by
 rcases h with h | ⟨b,o,ha,hlt,_,hc⟩
 ·
  exact .inl h
 ·
  exact .inr ⟨b,o,ha,hlt,by omega,hc⟩
theorem zgx (b y : Nat → Nat) : cat b 0 y = y:=by funext i; unfold cat; rw [if_neg (by omega),Nat.sub_zero]
theorem sum_calls (A : Option Addr) (n c : Nat) (y : Nat → Nat) (hy : ∀ j,y j < 256) (hnc : n ≤ c) (hn : n ≤ 1048576) (w : World) (hK : KT w) (hS : Src w A n y w.heap.size) :
  Calls Tryz.prog 27 #[.slice A n c] w fun e w' => e = .returned (.agg (dgst y n)) ∧ Below w.heap.size w w':=by
 have hS0:=hS.at (Nat.le_refl w.heap.size)
 go_enter Tryz.func27,Tryz.ntmps27
 go_upto_region 1 with (fail)
 rw [zeros32]
 have hR0 : (w.alloc (.cells (arrOf 32 (fun _ => .int .u8 0)) 23)).rowIs w.heap.size 23 32 (fun _ => .int .u8 0):=zbe w 32 23 _ rfl
 have hb0 : Below w.heap.size w (w.alloc (.cells (arrOf 32 (fun _ => .int .u8 0)) 23)):=(Below.refl _ _).alloc (Nat.le_refl _) _
 have hK0:=hK.alloc (.cells (arrOf 32 (fun _ => .int .u8 0)) 23)
 have hg0 : 0 < w.heap.size:=hK.lt
 have hS1:=(hS.at (g':=w.heap.size + 1) (by omega)).below hb0
 have hsz : (w.alloc (.cells (arrOf 32 (fun _ => .int .u8 0)) 23)).heap.size = w.heap.size + 1:=by simp
 generalize w.alloc (.cells (arrOf 32 (fun _ => .int .u8 0)) 23) = w1 at *
 generalize hgr : w.heap.size = gR at *
 have HGR:=veil hgr
 have HY:=veil hy
 clear hgr hK hS hS0 hy
 go_wp2_with fail
 refine (new_calls w1).mono ?_
 rintro e w2 ⟨rfl,hC,hb2⟩
 have hR2:=zac hR0 hb2 hR0.lt
 have hK2:=hK0.call hb2
 have hB2:=hb0.trans (hb2.mono (by omega))
 have hS2:=hS1.below hb2
 rw [hsz] at hC ⊢
 have HC:=veil (hC (fun _ => 0))
 clear hR0 hK0 hb0 hb2 hS1 hC hsz
 go_wp2_with fail
 refine (zeq (gR + 1) (fun _ => 0) 0 A n c y HY.out hnc (by omega) (by omega) w2 hK2 HC.out hS2).mono ?_
 rintro e w3 ⟨rfl,hH3,hb3⟩
 rw [Nat.zero_add,zgx] at hH3
 have hR3:=zdw hR2 hb3 (by omega)
 have hK3:=hK2.grown hb3 (by omega)
 have hB3:=hB2.trans (But.new hb3 (B:=gR) (by omega) (by have:=hR2.lt; omega))
 clear hR2 hK2 hB2 hS2 HC hb3
 go_wp2_with fail
 refine (hsum_calls (gR + 1) n y hn w3 hK3 hH3).mono ?_
 rintro e w4 ⟨rfl,hb4⟩
 have hR4:=zac hR3 hb4 hR3.lt
 have hB4:=hB3.trans (hb4.mono (by have:=hR3.lt; omega))
 have HN:=veil (blkOf hR4)
 have HZ:=veil (And.intro (zbf y n) (And.intro (show (dgst y n).all (·.oneCell') = true from zas fun _ _ => rfl) (show (Tryz.prog.info? 23).map (·.size) = some (dgst y n).size by rw [zbf]; exact infoD)))
 obtain ⟨D,hD⟩ : ∃ D,D = dgst y n:=⟨_,rfl⟩
 rw [← hD] at HZ ⊢
 have HD:=veil hD
 clear hR3 hK3 hB3 hH3 hb4 hR4 hD
 go_wp2_with ((with_reducible refine zae ?_); refine wpList_store_row rfl 23 _ _ rfl gR D rfl rfl 23 _ HN.out HZ.out.2.2 (by rw [HZ.out.1,zah]) HZ.out.2.1 ?_)
 exact bodyPost_ret (results_cell_row rfl _ _ gR 23 D (0,0) _ rfl (setRow_heap w4 gR _ D 23 (0,0) HN.out) Tryz.underlying23 rfl HZ.out.2.2) rfl ⟨by rw [HD.out],by rw [HGR.out]; exact zbx hB4 (Nat.le_refl _) _⟩
section
variable {w wr w' : World} {gR gT gH gK N : Nat} {tx : Nat → Value} {st st' : Nat → Value}
end
def hst (s : St) : Nat → Value:=fun j => .int .u32 (s.at j : Nat)
theorem wrap8 (n : Int) : IntKind.u8.wrap n = n % 256:=by simp [IntKind.wrap,IntKind.signed,IntKind.bits]
theorem xor8 (a b : Nat) (ha : a < 256) (hb : b < 256) : bits .xor .u8 (a : Int) (b : Int) = ((a ^^^ b : Nat) : Int):=by
 have hx : a ^^^ b < 2 ^ 8:=Nat.xor_lt_two_pow (by omega) (by omega)
 have e1 : (BitVec.ofInt 8 (a : Int)).toNat = a:=by rw [BitVec.ofInt_natCast,BitVec.toNat_ofNat]; exact Nat.mod_eq_of_lt (by omega)
 have e2 : (BitVec.ofInt 8 (b : Int)).toNat = b:=by rw [BitVec.ofInt_natCast,BitVec.toNat_ofNat]; exact Nat.mod_eq_of_lt (by omega)
 show IntKind.u8.wrap ((BitVec.ofInt 8 (a : Int) ^^^ BitVec.ofInt 8 (b : Int)).toNat : Int) = _
 rw [BitVec.toNat_xor,e1,e2,wrap8]
 omega
theorem xor8_lt {a b : Nat} (ha : a < 256) (hb : b < 256) : a ^^^ b < 256:=Nat.xor_lt_two_pow (n:=8) (by omega) (by omega)
def upTo (y : Nat → Nat) (n j : Nat) : Nat:=if j < n then y j else 0
def kb (y : Nat → Nat) (n : Nat) : Nat → Nat:=if n > 64 then upTo (fun j => dByte (shaSt y n) j) 32 else upTo y n
theorem upTo_lt {y : Nat → Nat} (hy : ∀ j,y j < 256) (n j : Nat) : upTo y n j < 256:=by
 unfold upTo
 split
 ·
  exact hy j
 ·
  omega
theorem dByte_lt (s : St) (i : Nat) : dByte s i < 256:=Nat.mod_lt _ (by omega)
theorem kb_lt {y : Nat → Nat} (hy : ∀ j,y j < 256) (n j : Nat) : kb y n j < 256:=by
 unfold kb
 split
 ·
  exact upTo_lt (fun j => dByte_lt _ j) _ _
 ·
  exact upTo_lt hy _ _
def kx (k : Nat → Nat) (x : Nat) (j : Nat) : Value:=.int .u8 ((k j ^^^ x : Nat) : Int)
end Go.Proofs.YtihophdbkjhopaaGreatDoor
namespace Go.Proofs.YtihophdbkjhopaaGreatDoor
open Go.ChangeShapes Go.WideShapes Go.ChangeAt Go.RowKit
open Go.Value renaming int → vI
open Go.IntKind renaming u64 → vU
open Go.Act renaming put → aP
open List renaming setIfInBounds_toArray → lA, set_cons_zero → lZ, set_cons_succ → lS
theorem own : ownKnob Tryz.prog.godebug = none:=by kernel_rfl
def laidL : List (String × DataW Unit):=[("clapper/sha.roundWords",Rows.laid_clapper_sha_roundWords)]
theorem gRound : Tryz.prog.globalNamed "clapper/sha.roundWords" = some 0:=by kernel_rfl
theorem tRound : (Tryz.prog.globals[0]?).map (·.type) = some 178:=by kernel_rfl
theorem cellsU32 : Tryz.prog.cellsOf 120 = 1:=by kernel_rfl
theorem laid_list : Rows.laid_clapper_sha_roundWords (H:=Unit) = .agg (kList.map fun (k : Nat) => (.lit (.int .u32 (k : Int)) : DataW Unit)):=rfl
theorem kc_get {j : Nat} (hj : j < 64) : kList[j]? = some (kc j):=by
 have hl : kList.length = 64:=by decide
 unfold kc
 simp [List.getD,hl,hj]
theorem kt_of_laid {W : World} (h : laidMetH Tryz.prog laidL W) : KT W:=by
 unfold laidL at h
 rw [MakeChecks.laidMetH_plain _ _ _ (by kernel_rfl)] at h
 obtain ⟨ps,⟨g0,t0,cs0,f0,p0,q0,hg0,ht0,hv0,hd0,_⟩,_,_⟩:=h
 obtain rfl:=Option.some.inj (gRound.symm.trans hg0)
 obtain rfl:=Option.some.inj (tRound.symm.trans ht0)
 obtain ⟨xs,m1,rfl,hx1,hlen,hn,hel⟩:=DataW.trod_array Tryz.underlying178 hd0
 have hx2 : xs.map (·.1) = kList.map fun (k : Nat) => (.lit (.int .u32 (k : Int)) : DataW Unit):=by
  rw [laid_list] at hx1
  simp only [Prod.mk.injEq,DataW.agg.injEq] at hx1
  exact hx1.1.symm
 have cell : ∀ j,j < 64 → W.cell? ⟨0,j,none⟩ = some (.int .u32 (kc j : Nat)):=fun j hj => by
  have h1:=hel j hj
  rw [cellsU32,Nat.mul_one] at h1
  obtain ⟨x,hx⟩ : ∃ x,xs[j]? = some x:=⟨xs[j],by rw [List.getElem?_eq_getElem]⟩
  rw [hx] at h1
  obtain ⟨k,e1,e2,_⟩:=DataW.trod_int Tryz.underlying120 h1
  have h3 : (xs.map (·.1))[j]? = some (.lit (.int .u32 k)):=by simp [hx,e2]
  rw [hx2] at h3
  simp only [List.getElem?_map,kc_get hj,Option.map_some,Option.some.injEq,DataW.lit.injEq,Lit.int.injEq,true_and] at h3
  have h4 : cs0.toList[j]? = some (.int .u32 k):=by
   have : ((cs0.toList.drop j).take 1)[0]? = some (.int .u32 k):=by rw [e1]; rfl
   simpa [List.getElem?_take,List.getElem?_drop] using this
  have h5:=World.var?_cell hg0 hv0 j
  rw [h5,h3]
  simpa using h4
 exact ⟨World.block_lt_of_cell? W _ (cell 0 (by decide)),cell⟩
theorem door_met (os : Os) (args : Array Value) : laidMetH Tryz.prog laidL ((World.doorLaid Tryz.prog 14 os).forCall (fun _ _ => 0) ⟨#[],args,[]⟩).memory :=
 laidMetH_of_parts3 (fuel:=8) (laidMet_of_run' 8 (by kernel_rfl) (by kernel_rfl)) (by kernel_rfl) (by kernel_rfl)
end Go.Proofs.YtihophdbkjhopaaGreatDoor
namespace Go.Proofs.YtihophdbkjhopaaGreatDoor
open Go.ChangeShapes Go.WideShapes Go.ChangeAt Go.RowKit
open Go.Value renaming int → vI
open Go.IntKind renaming u64 → vU
open Go.Act renaming put → aP
open List renaming setIfInBounds_toArray → lA, set_cons_zero → lZ, set_cons_succ → lS
/-! ### a text -/
/-! ### '==' between sums -/
/-! ### slices cut anywhere -/
theorem Src.cut {w : World} {A : Option Addr} {r c m g : Nat} {y : Nat → Nat} (h : Src w A r y g) (hm : m ≤ r) (hc : r ≤ c) : Src w (cutA A m c) (r - m) (fun j => y (m + j)) g:=by
 by_cases h0 : r - m = 0
 ·
  exact .inl h0
 ·
  rcases h with h | ⟨b,o,rfl,hlt,hne,hcl⟩
  ·
   omega
  ·
   refine .inr ⟨b,o + m,by unfold cutA; rw [if_neg (by omega)]; simp [Addr.add_mid],hlt,hne,fun j hj => ?_⟩
   rw [Nat.add_assoc]
   exact hcl (m + j) (by omega)
theorem Src.head {w : World} {A : Option Addr} {r c m g : Nat} {y : Nat → Nat} (h : Src w A r y g) (hm : m ≤ r) (hc : r ≤ c) : Src w (cutA A 0 c) m y g:=by
 by_cases h0 : m = 0
 ·
  exact .inl h0
 ·
  rcases h with h | ⟨b,o,rfl,hlt,hne,hcl⟩
  ·
   omega
  ·
   refine .inr ⟨b,o,by unfold cutA; rw [if_neg (by omega)]; simp [Addr.add_mid],hlt,hne,fun j hj => hcl j (by omega)⟩
theorem src_now {w wr : World} {A : Option Addr} {n g : Nat} {y : Nat → Nat} (h : Src w A n y w.heap.size) (hb : Below w.heap.size w wr) (hg : w.heap.size ≤ g) : Src wr A n y g:=(h.at hg).below hb
theorem from_now {w wr : World} {A : Option Addr} {n : Nat} {y : Nat → Nat} (h : Src w A n y w.heap.size) (hb : Below w.heap.size w wr) : From wr A n (fun j => .int .u8 (y j : Nat)):=by
 rcases h.below hb with h | ⟨b,o,rfl,_,_,hc⟩
 ·
  exact .inl h
 ·
  exact .inr ⟨_,rfl,fun j hj => by rw [Addr.add_mid]; exact hc j hj⟩
theorem zen {w wr : World} (h : KT w) (hb : Below w.heap.size w wr) : KT wr:=h.call hb
theorem but_below {w w1 w2 : World} {r : Nat} (h : Below w.heap.size w w1) (hb : But r w1 w2) (hr : w.heap.size ≤ r) : Below w.heap.size w w2:=h.trans (But.new hb hr h.size)
theorem Own.but {w w' : World} {base e n r : Nat} {v : Value} {f : Nat → Value} (o : Own w base e v n f) (hb : But r w w') (hr : r < base) : Own w' base e v n f :=
 o.kept hb (by
  cases h : v.ownBlock with
  | none => exact .inl rfl
  | some k => exact .inr (fun e => by have:=(o.lt h).1; simp at e; omega))
theorem Own.call {w w' : World} {base e n : Nat} {v : Value} {f : Nat → Value} (o : Own w base e v n f) (hb : Below w.heap.size w w') : Own w' base e v n f:=o.below hb (Nat.le_refl _)
theorem HashIs.grown {w w' : World} {g L : Nat} {b : Nat → Nat} {row : Option Nat} (h : HashIs w g b L) (hg : w.grownBy w' row) (hne : some g ≠ row) : HashIs w' g b L:=h.of_block (hg.block g h.lt hne)
theorem cat_lt {y0 y1 : Nat → Nat} {n : Nat} (h0 : ∀ j,y0 j < 256) (h1 : ∀ j,y1 j < 256) (j : Nat) : cat y0 n y1 j < 256:=by
 unfold cat
 split
 ·
  exact h0 j
 ·
  exact h1 _
/-! ### arguments -/
end Go.Proofs.YtihophdbkjhopaaGreatDoor
namespace Go.Proofs.YtihophdbkjhopaaGreatDoor
open Go.RowKit
open Go.Value renaming int → vI
open Go.IntKind renaming u64 → vU
open Go.Act renaming put → aP
open List renaming setIfInBounds_toArray → lA, set_cons_zero → lZ, set_cons_succ → lS
structure Parts3 (W : World) (AL : Option Addr) (nl : Nat) (A : Nat → Option Addr) (L C : Nat → Nat) (Y : Nat → Nat → Nat) : Prop where
 row : nl = 0 ∨ ∃ b o,AL = some ⟨b,o,none⟩ ∧ b < W.heap.size ∧ ∀ r,r < nl → W.cell? ⟨b,o + r,none⟩ = some (.slice (A r) (L r) (C r))
 src : ∀ r,r < nl → Src W (A r) (L r) (Y r) W.heap.size
 cap : ∀ r,r < nl → L r ≤ C r
 lt : ∀ r j,Y r j < 256
def lenN (L : Nat → Nat) : Nat → Nat
 | 0 => 0
 | i + 1 => lenN L i + L i
def textN (L : Nat → Nat) (Y : Nat → Nat → Nat) : Nat → Nat → Nat
 | 0 => fun _ => 0
 | i + 1 => cat (textN L Y i) (lenN L i) (Y i)
section
open Go.ChangeShapes Go.WideShapes Go.ChangeAt
end
end Go.Proofs.YtihophdbkjhopaaGreatDoor
namespace Go.Proofs.YtihophdbkjhopaaGreatDoor
open Go.RowKit
open Go.Value renaming int → vI
open Go.IntKind renaming u64 → vU
open Go.Act renaming put → aP
open List renaming setIfInBounds_toArray → lA, set_cons_zero → lZ, set_cons_succ → lS
def macIn (y : Nat → Nat) (n : Nat) (t : Nat → Nat) : Nat → Nat:=cat (fun j => kb y n j ^^^ 54) 64 t
def macOut (y : Nat → Nat) (n : Nat) (t : Nat → Nat) (m : Nat) : Nat → Nat:=cat (fun j => kb y n j ^^^ 92) 64 (fun j => dByte (shaSt (macIn y n t) (64 + m)) j)
def macD (y : Nat → Nat) (n : Nat) (t : Nat → Nat) (m : Nat) : Array Value:=dgst (macOut y n t m) 96
/-! ### steps of a region that draws its order -/
def nb (k : Nat → Nat) (n : Nat) (t : Nat → Nat) (m : Nat) : Nat → Nat:=fun j => dByte (shaSt (macOut k n t m) 96) j
theorem nb_lt (k : Nat → Nat) (n : Nat) (t : Nat → Nat) (m j : Nat) : nb k n t m j < 256:=Nat.mod_lt _ (by decide)
theorem macD_nb (k : Nat → Nat) (n : Nat) (t : Nat → Nat) (m : Nat) : macD k n t m = arrOf 32 (fun i => .int .u8 (nb k n t m i : Nat)):=rfl
theorem infoInt : (Tryz.prog.info? 3).map (fun i => (i.zero,i.size,i.bytes)) = some (some (.int .i64 0),1,8):=by kernel_rfl
def ptv (X j : Nat) : Value:=.int .i64 (pt X j)
theorem ptL_succ (X m : Nat) : (List.range (m + 1)).map (ptv X) = (List.range m).map (ptv X) ++ [.int .i64 (pt X m)]:=by
 rw [List.range_succ,List.map_append]; rfl
theorem parts_any (X : Nat) (w : World) :
  Calls Tryz.prog 66 #[.agg #[vI vU (wd X 0),vI vU (wd X 1),vI vU (wd X 2),vI vU (wd X 3)]] w fun e w' => ∃ v,e = .returned v ∧ w'.ownsRow (w.heap.size + 1) 3 1 v 16 ((List.range 16).map (ptv X)) ∧ Below w.heap.size w w':=by
 obtain ⟨i0,hi,hz0,hz1,hz2⟩:=info_parts infoInt
 go_enter Tryz.func66,Tryz.ntmps66
 go_wp2
 go_loopw [3,4] (fun v i wr => ∃ k : Nat,k ≤ 4 ∧ i = .int .i64 k ∧ wr.ownsRow (w.heap.size + 1) 3 1 v (4 * k) ((List.range (4 * k)).map (ptv X)) ∧ wr.rowIs w.heap.size 29 4 (fun j => .int .u64 (wd X j)) ∧ Below w.heap.size w wr)
  (fun _ i _ => 4 - (intOf i).toNat)
 case atStart => exact ⟨0,by omega,rfl,World.ownsRow_nil _ _ _ _,zai (n:=4) (by simp) rfl (arr4 fun j => .int .u64 (wd X j)),(Below.refl _ _).alloc (by simp) _⟩
 case round =>
  obtain ⟨i,hi4,rfl,hown,hR,hbel⟩:=hrel
  by_cases hlt : i < 4
  ·
   have c1:=hR.cell hlt
   have hd : decide ((i : Int) < 4) = true:=by simp; omega
   go_wp2
   clear c1
   obtain ⟨wo,hwo⟩ : ∃ wo : World,wo = wr:=⟨_,rfl⟩
   rw [← hwo] at hown hR hbel ⊢
   clear hwo
   go_loopw [3,5,6] (fun v q k wq => ∃ m : Nat,m ≤ 4 ∧ k = .int .i64 m ∧ q = .int .u64 (wk X i m) ∧ wq.ownsRow (w.heap.size + 1) 3 1 v (4 * i + m) ((List.range (4 * i + m)).map (ptv X)) ∧ wq.rowIs w.heap.size 29 4 (fun j => .int .u64 (wd X j)) ∧ Below w.heap.size w wq)
    (fun _ _ k _ => 4 - (intOf k).toNat)
   case atStart => exact ⟨0,by omega,rfl,by rw [wk_zero],hown,hR,hbel⟩
   case round =>
    obtain ⟨m,hm4,rfl,rfl,hown,hR,hbel⟩:=hrel
    have hq:=wk_lo X i m
    have hq2:=wk_le X i m
    by_cases hlm : m < 4
    ·
     have hsz:=hR.lt
     go_wp2_with (at_builtin; refine wpList_append_own _ rfl _ _ 72 rfl (w.heap.size + 1) 3 i0 (.int .i64 0) 1 8 Tryz.underlying72 hi hz0 hz1 hz2 rfl (by decide) _ _ _ rfl (hown.alloc _) ⟨wr.heap.size,0,none⟩ 1 1 [.int .i64 (wk X i m % 65536)] rfl rfl ?c1 ?c2 ?c3 ?c4 ?c5 ?_)
     case c1 =>
      intro j u hj
      match j,hj with
      | 0,hj => simp at hj; subst hj; simp [Addr.add]
     case c2 => intro u hu; simp at hu; subst hu; rfl
     case c3 => unfold maxLen; omega
     case c4 => omega
     case c5 => simp; omega
     intro v' w1 hown' hgrow _
     rw [wk_pt X i m hlm,← ptL_succ] at hown'
     have hR1:=row_grown (hR.alloc _) hgrow (fun e => by have:=(hown.lt _ e.symm).1; omega)
     have hb1:=(hbel.alloc (by omega) _).grown hgrow (by simp; omega) (fun k e => by have:=(hown.lt _ e).1; omega)
     clear hown hgrow hR hbel
     go_wp2
     go_roundw
     case rel => exact ⟨m + 1,by omega,by go_num,by rw [wk_succ],hown',hR1,hb1⟩
     case measure => simp [intOf]; omega
    ·
     obtain rfl : m = 4:=by omega
     go_wp2
     go_roundw
     case rel => exact ⟨i + 1,by omega,by go_num,by rw [show 4 * (i + 1) = 4 * i + 4 by omega]; exact hown,hR,hbel⟩
     case measure => simp [intOf]; omega
  ·
   obtain rfl : i = 4:=by omega
   go_wp2
   go_ret
   exact ⟨_,rfl,hown,hbel⟩
theorem parts_calls (X : Nat) (w : World) :
  Calls Tryz.prog 66 #[.agg #[vI vU (wd X 0),vI vU (wd X 1),vI vU (wd X 2),vI vU (wd X 3)]] w fun e w' => ∃ g cap,e = .returned (.slice (some ⟨g,0,none⟩) 16 cap) ∧ w.heap.size ≤ g ∧ Pre w' g 3 16 (ptv X) ∧ Below w.heap.size w w':=by
 refine (parts_any X w).mono ?_
 rintro e w' ⟨v,rfl,hown,hb⟩
 obtain ⟨g,cap,rfl,_,hg,hp⟩:=Pre.of_own hown (by omega)
 exact ⟨g,cap,rfl,by omega,hp,hb⟩
theorem zcp : Pt.nn < top:=by decide +kernel
theorem nn_words : wd Pt.nn 0 = 17562291160714782033 ∧ wd Pt.nn 1 = 13611842547513532036 ∧ wd Pt.nn 2 = 18446744073709551615 ∧ wd Pt.nn 3 = 18446744069414584320:=by decide +kernel
theorem neN0 {X : Nat} (hX : X < top) (h0 : X ≠ 0) (W : World) : (binOp .neq 29 (nv X) (nv 0)).run Tryz.prog W = .ok (.bool true) W:=by
 have e:=eql_num hX zcs W
 rw [decide_eq_false h0] at e
 exact neq_of e rfl
section
variable {P : Program} {o : Oper} {a : Act} {w : World}
theorem made_lss {x : Operand} {ty ty2 : TypeId} {c : Int} {v : Bool} (ho : o.op = .binOp .lss ty x (.const (.int .i64 0)) ty2) (hx : a.eval x = .int .i64 c) (hv : decide (c < 0) = v) : Made P o (.bool v) a w:=zba fun W _ => by
 have h0 : a.eval (.const (.int .i64 0)) = .int .i64 0:=rfl
 unfold execOp
 simp only [ho]
 generalize a.eval = ρ at *
 subst hv
 rw [hx,h0]
 simp [go_sem,eqGuard]
end
theorem cmpL {X Y : Nat} (h : X < Y) : decide (cmpN X Y < 0) = true:=by unfold cmpN; rw [if_pos h]; rfl
theorem cmpG {X Y : Nat} (h : ¬ X < Y) : decide (cmpN X Y < 0) = false:=by
 unfold cmpN
 rw [if_neg h]
 split <;> rfl
def mayB (X : Nat) : Bool:=decide (X ≠ 0) && decide (X < Pt.nn)
theorem cat_assoc (a b c : Nat → Nat) (n m : Nat) : cat (cat a n b) (n + m) c = cat a n (cat b m c):=by
 funext i
 unfold cat
 by_cases h1 : i < n
 ·
  have h2 : i < n + m:=by omega
  simp only [h1,h2,if_true]
 ·
  by_cases h2 : i < n + m
  ·
   have h3 : i - n < m:=by omega
   simp only [h1,h2,h3,if_true,if_false]
  ·
   have h3 : ¬ i - n < m:=by omega
   simp only [h1,h2,h3,if_false]
   congr 1; omega
theorem lenN_mono {L : Nat → Nat} {i j : Nat} (h : i ≤ j) : lenN L i ≤ lenN L j:=by
 induction j with
 | zero =>
      obtain rfl : i = 0:=by omega
      exact Nat.le_refl _
 | succ j ih =>
  by_cases e : i = j + 1
  ·
   subst e; exact Nat.le_refl _
  ·
   have:=ih (by omega)
   show _ ≤ lenN L j + L j
   omega
theorem Parts3.call {W W' : World} {AL : Option Addr} {nl : Nat} {A : Nat → Option Addr} {L C : Nat → Nat} {Y : Nat → Nat → Nat} (h : Parts3 W AL nl A L C Y) (hb : Below W.heap.size W W') : Parts3 W' AL nl A L C Y where
 row:=h.row.imp id fun ⟨b,o,e,hlt,hc⟩ => ⟨b,o,e,by have:=hb.size; omega,fun r hr => (hb.cell (p:=⟨b,o + r,none⟩) hlt).trans (hc r hr)⟩
 src:=fun r hr => ((h.src r hr).at (g':=W'.heap.size) hb.size).below hb
 cap:=h.cap
 lt:=h.lt
theorem ziz (k : Nat → Nat) (hk : ∀ j,k j < 256) (x : Nat) (hx : x < 256) (AL : Option Addr) (nl cl : Nat) (A : Nat → Option Addr) (L C : Nat → Nat) (Y : Nat → Nat → Nat) (hnl : nl ≤ 100000) (hT : lenN L nl ≤ 100000) (w : World) (hK : KT w) (hP : Parts3 w AL nl A L C Y) :
  Calls Tryz.prog 170 #[.agg (arrOf 64 fun j => .int .u8 (k j : Nat)),.int .u8 (x : Int),.slice AL nl cl] w fun e w' => e = .returned (.agg (dgst (cat (fun j => k j ^^^ x) 64 (textN L Y nl)) (64 + lenN L nl))) ∧ Below w.heap.size w w':=by
 obtain ⟨F,hF⟩ : ∃ F,F = arrOf 64 fun j => Value.int .u8 (k j : Nat):=⟨_,rfl⟩
 rw [← hF]
 have HF:=veil hF
 have HK:=veil hK
 have HP:=veil hP
 have HX:=veil (And.intro hx hk)
 have HT:=veil hT
 have hg0:=hK.lt
 clear hF hK hP hx hk hT
 go_enter Tryz.func170,Tryz.ntmps170
 go_upto_region 1 with (fail)
 rw [zeros32]
 have hB0 : (w.alloc (.cells F 158)).rowIs w.heap.size 158 64 (fun j => Value.int .u8 (k j : Nat)):=by rw [HF.out]; exact zbe w 64 158 _ rfl
 have hb0 : Below w.heap.size w (w.alloc (.cells F 158)):=(Below.refl _ _).alloc (Nat.le_refl _) _
 have hz0 : (w.alloc (.cells F 158)).heap.size = w.heap.size + 1:=by simp
 generalize w.alloc (.cells F 158) = w0 at *
 have hR1:=zbe w0 32 23 (fun _ => Value.int .u8 0) rfl
 rw [hz0] at hR1
 have hB1:=hB0.alloc (.cells (arrOf 32 (fun _ => .int .u8 0)) 23)
 have hb1:=hb0.alloc hb0.size (.cells (arrOf 32 (fun _ => .int .u8 0)) 23)
 generalize w0.alloc (.cells (arrOf 32 (fun _ => .int .u8 0)) 23) = w1 at *
 clear hB0 hb0 hz0
 go_wp2
 go_loopw [11] (fun v wr => ∃ i : Nat,i ≤ 64 ∧ v = .int .i64 (i : Int) ∧ wr.rowIs w.heap.size 158 64 (fun j => .int .u8 ((if j < i then k j ^^^ x else k j : Nat) : Int)) ∧ wr.rowIs (w.heap.size + 1) 23 32 (fun _ => .int .u8 0) ∧ Below w.heap.size w wr)
  (fun v _ => 64 - (intOf v).toNat)
 case atStart => exact ⟨0,by omega,rfl,hB1,hR1,hb1⟩
 case round =>
  obtain ⟨i,hi,rfl,hRB,hR,hB⟩:=hrel
  by_cases hlt : i < 64
  ·
   obtain ⟨c,hc⟩ : ∃ c,c = k i:=⟨_,rfl⟩
   have c0:=hRB.cell hlt
   have f0:=hRB.frozen i
   rw [if_neg (Nat.lt_irrefl i),← hc] at c0
   have hxor:=xor8 c x (by rw [hc]; exact HX.out.2 i) HX.out.1
   have HC:=veil hc
   clear hc
   go_wp2
   go_roundw
   case rel =>
    refine ⟨i + 1,by omega,by go_num,(hRB.set i _).congr fun q hq => ?_,zat hR (by omega) _,zag hB (Nat.le_refl _) _⟩
    by_cases h : q = i
    ·
     rw [if_pos h,if_pos (by omega),HC.out,h]
    ·
     rw [if_neg h]
     by_cases h2 : q < i
     ·
      rw [if_pos h2,if_pos (by omega)]
     ·
      rw [if_neg h2,if_neg (by omega)]
   case measure => simp [intOf]; omega
  ·
   have e64 : i = 64:=by omega
   have hRB : wr.rowIs w.heap.size 158 64 (fun j => .int .u8 ((k j ^^^ x : Nat) : Int)):=hRB.congr fun p hp => by rw [if_pos (by omega)]
   have hd : decide ((i : Int) < 64) = false:=by simp; omega
   clear e64 hlt hi
   go_wp2_with fail
   refine (new_calls wr).mono ?_
   rintro e w2 ⟨rfl,hC,hb2⟩
   have hRB2:=zac hRB hb2 hRB.lt
   have hR2:=zac hR hb2 hR.lt
   have hB2:=hB.trans (hb2.mono hB.size)
   have hC2:=hC (fun _ => 0)
   have hgH:=hC2.lt
   have hHR:=hR.lt
   generalize wr.heap.size = gH at *
   clear hRB hR hB hC hb2
   have hS2 : Src w2 (some ⟨w.heap.size,0,none⟩) 64 (fun j => k j ^^^ x) gH:=.inr ⟨_,0,rfl,hRB2.lt,by omega,fun j hj => by rw [Nat.zero_add]; exact hRB2.cell hj⟩
   go_wp2_with fail
   refine (zeq gH (fun _ => 0) 0 _ 64 64 (fun j => k j ^^^ x) (fun j => xor8_lt (HX.out.2 j) HX.out.1) (by decide) (by decide) (by omega) w2 (zen HK.out hB2) hC2 hS2).mono ?_
   rintro e w3 ⟨rfl,hH3,hb3⟩
   rw [Nat.zero_add,zgx] at hH3
   have hR3:=zdw hR2 hb3 (by omega)
   have hB3:=but_below hB2 hb3 (by omega)
   clear hRB2 hR2 hB2 hC2 hS2 hb3
   have hH3 : HashIs w3 gH (cat (fun j => k j ^^^ x) 64 (textN L Y 0)) (64 + lenN L 0):=hH3.congr fun i hi => by unfold cat; rw [if_pos hi]
   go_wp2
   go_loopw [27] (fun v wr => ∃ i : Nat,i ≤ nl ∧ v = .int .i64 (i : Int) ∧ HashIs wr gH (cat (fun j => k j ^^^ x) 64 (textN L Y i)) (64 + lenN L i) ∧ wr.rowIs (w.heap.size + 1) 23 32 (fun _ => .int .u8 0) ∧ Below w.heap.size w wr)
    (fun v _ => nl - (intOf v).toNat)
   case atStart => exact ⟨0,by omega,rfl,hH3,hR3,hB3⟩
   case round =>
    obtain ⟨i,hi,rfl,hH,hR,hB⟩:=hrel
    by_cases hlt : i < nl
    ·
     have hd2 : decide ((i : Int) < (nl : Int)) = true:=by simp; omega
     have hd1 : decide (i < nl) = true:=by simp; omega
     have hii : (i : Int) < (nl : Int):=by omega
     obtain ⟨bl,ol,hAL,hbl,hcl⟩:=HP.out.row.resolve_left (by omega)
     have cr : wr.cell? ⟨bl,ol + i,none⟩ = some (.slice (A i) (L i) (C i)):=(hB.cell (p:=⟨bl,ol + i,none⟩) hbl).trans (hcl i hlt)
     clear hcl
     subst hAL
     go_wp2_with fail
     have hL1:=lenN_mono (L:=L) (show i + 1 ≤ nl by omega)
     have hT:=HT.out
     have hL2 : lenN L (i + 1) = lenN L i + L i:=rfl
     refine (zeq gH _ (64 + lenN L i) (A i) (L i) (C i) (Y i) (HP.out.lt i) (HP.out.cap i hlt) (by omega) (by omega) wr (zen HK.out hB) hH (src_now (HP.out.src i hlt) hB (by omega))).mono ?_
     rintro e w4 ⟨rfl,hH4,hb4⟩
     rw [cat_assoc,Nat.add_assoc] at hH4
     have hH5 : HashIs w4 gH (cat (fun j => k j ^^^ x) 64 (textN L Y (i + 1))) (64 + lenN L (i + 1)):=hH4
     clear hH4
     have hR4:=zdw hR hb4 (by omega)
     have hB4:=but_below hB hb4 (by omega)
     clear hR hB hH hb4 cr hT hL1 hL2
     go_wp2
     go_roundw
     case rel => exact ⟨i + 1,by omega,by go_num,hH5,hR4,hB4⟩
     case measure => simp [intOf]; omega
    ·
     obtain rfl : i = nl:=by omega
     go_wp2_with fail
     have hT:=HT.out
     refine (hsum_calls gH _ _ (by omega) wr (zen HK.out hB) hH).mono ?_
     rintro e w4 ⟨rfl,hb4⟩
     have hR4:=zac hR hb4 hR.lt
     have hB4:=hB.trans (hb4.mono hB.size)
     obtain ⟨y,hy⟩ : ∃ y,y = cat (fun j => k j ^^^ x) 64 (textN L Y i):=⟨_,rfl⟩
     obtain ⟨n,hn⟩ : ∃ n,n = 64 + lenN L i:=⟨_,rfl⟩
     rw [← hy,← hn]
     have HN:=veil (blkOf hR4)
     have HZ:=veil (And.intro (zbf y n) (And.intro (show (dgst y n).all (·.oneCell') = true from zas fun _ _ => rfl) (show (Tryz.prog.info? 23).map (·.size) = some (dgst y n).size by rw [zbf]; exact infoD)))
     obtain ⟨D,hD⟩ : ∃ D,D = dgst y n:=⟨_,rfl⟩
     rw [← hD] at HZ ⊢
     have HD:=veil (show D = dgst (cat (fun j => k j ^^^ x) 64 (textN L Y i)) (64 + lenN L i) by rw [hD,hy,hn])
     clear hD hR4 hR hB hH hb4 hy hn hT hH3 hR3 hB3
     go_wp2_with ((with_reducible refine zae ?_); refine wpList_store_row rfl 23 _ _ rfl (w.heap.size + 1) D rfl rfl 23 _ HN.out HZ.out.2.2 (by rw [HZ.out.1,zah]) HZ.out.2.1 ?_)
     exact bodyPost_ret (results_cell_row rfl _ _ (w.heap.size + 1) 23 D (0,0) _ rfl (setRow_heap w4 (w.heap.size + 1) _ D 23 (0,0) HN.out) Tryz.underlying23 rfl HZ.out.2.2) rfl ⟨by rw [HD.out],zbx hB4 (by omega) _⟩
structure KV where
 k : Nat → Nat
 v : Nat → Nat
structure KV.Ok (s : KV) : Prop where
 k : ∀ j,s.k j < 256
 v : ∀ j,s.v j < 256
def num32 (y : Nat → Nat) : Nat:=lev (fun k => y (32 - 1 - k)) 32
theorem ziv {y : Nat → Nat} (hy : ∀ j,y j < 256) : num32 y < top:=by
 have h:=lev_lt (z:=fun k => y (32 - 1 - k)) (fun j => hy _) 32
 have e : 256 ^ 32 = top:=by decide +kernel
 unfold num32
 omega
def tx (v : Nat → Nat) (b : Nat) (t : Nat → Nat) : Nat → Nat:=cat v 32 (cat (fun _ => b) 1 t)
def KV.step (s : KV) : KV:=⟨s.k,nb s.k 32 s.v 32⟩
def KV.mix (s : KV) (b : Nat) (t : Nat → Nat) (m : Nat) : KV:=KV.step ⟨nb s.k 32 (tx s.v b t) (33 + m),s.v⟩
def none0 : Nat → Nat:=fun _ => 0
def KV.next (s : KV) : KV:=s.step.mix 0 none0 0
theorem KV.Ok.step {s : KV} (h : s.Ok) : s.step.Ok:=⟨h.k,fun j => nb_lt _ _ _ _ j⟩
theorem KV.Ok.mix {s : KV} (_h : s.Ok) (b : Nat) (t : Nat → Nat) (m : Nat) : (s.mix b t m).Ok:=⟨fun j => nb_lt _ _ _ _ j,fun j => nb_lt _ _ _ _ j⟩
theorem KV.Ok.next {s : KV} (h : s.Ok) : s.next.Ok:=h.step.mix _ _ _
def kv0 : KV:=⟨fun _ => 0,fun _ => 1⟩
theorem kv0_ok : kv0.Ok:=⟨fun _ => by show (0 : Nat) < 256; decide,fun _ => by show (1 : Nat) < 256; decide⟩
def be (X j : Nat) : Nat:=dg 256 X (31 - j)
theorem be_lt (X j : Nat) : be X j < 256:=Nat.mod_lt _ (by decide)
def two (D M : Nat) : Nat → Nat:=cat (be D) 32 (be M)
def kvS (D M : Nat) : KV:=(kv0.mix 0 (two D M) 64).mix 1 (two D M) 64
def kvN (D M : Nat) : Nat → KV
 | 0 => kvS D M
 | i + 1 => (kvN D M i).next
theorem kvN_ok (D M : Nat) : ∀ i,(kvN D M i).Ok
 | 0 => (kv0_ok.mix _ _ _).mix _ _ _
 | i + 1 => (kvN_ok D M i).next
def numN (D M i : Nat) : Nat:=num32 (kvN D M i).step.v
theorem numN_lt (D M i : Nat) : numN D M i < top:=ziv (kvN_ok D M i).step.v
def outN (D M : Nat) : Nat → List Nat
 | 0 => []
 | i + 1 => if mayB (numN D M i) = true then outN D M i ++ [numN D M i] else outN D M i
theorem outN_step (D M i : Nat) : (outN D M i).length ≤ (outN D M (i + 1)).length ∧ (outN D M (i + 1)).length ≤ (outN D M i).length + 1:=by
 have e : outN D M (i + 1) = if mayB (numN D M i) = true then outN D M i ++ [numN D M i] else outN D M i:=rfl
 rw [e]
 split <;> simp
theorem zis (D M : Nat) : ∀ i,∀ x ∈ outN D M i,mayB x = true ∧ x < top
 | 0,x,h => by simp [outN] at h
 | i + 1,x,h => by
  unfold outN at h
  split at h
  ·
   rcases List.mem_append.1 h with h | h
   ·
    exact zis D M i x h
   ·
    simp only [List.mem_singleton] at h
    subst h
    exact ⟨by assumption,numN_lt D M i⟩
  ·
   exact zis D M i x h
structure Ends (D M many s : Nat) : Prop where
 le : s ≤ 100
 pre : ∀ j,j < s → (outN D M j).length < many
 fin : s = 100 ∨ ¬ (outN D M s).length < many
theorem Ends.same {D M many s s' : Nat} (h : Ends D M many s) (h' : Ends D M many s') : s = s':=by
 rcases Nat.lt_trichotomy s s' with e | e | e
 ·
  have:=h'.pre s e
  rcases h.fin with f | f
  ·
   have:=h'.le; omega
  ·
   exact absurd this f
 ·
  exact e
 ·
  have:=h.pre s' e
  rcases h'.fin with f | f
  ·
   have:=h.le; omega
  ·
   exact absurd this f
theorem Ends.most {D M many s : Nat} (h : Ends D M many s) : (outN D M s).length ≤ many:=by
 cases s with
 | zero => simp [outN]
 | succ s =>
  have h1:=h.pre s (by omega)
  have h2:=(outN_step D M s).2
  omega
theorem Ends.full {D M many s : Nat} (h : Ends D M many s) (hn : ¬ (outN D M s).length < many) : (outN D M s).length = many:=by
 have:=h.most
 omega
def byv (X i : Nat) : Int:=(dg 256 X i : Nat)
theorem dg_byte (X m q r : Nat) (hr : r < m) : dg (256 ^ m) X q / 256 ^ r % 256 = dg 256 X (m * q + r):=by
 show dg 256 (X / (256 ^ m) ^ q % 256 ^ m) r = _
 rw [zdd _ m r hr,dg,dg,← Nat.pow_mul,Nat.div_div_eq_div_mul,← Nat.pow_add]
theorem byte_word (X k : Nat) : wd X (k / 8) / 2 ^ (k % 8 * 8) % 256 = byv X k:=by
 have e : wd X (k / 8) / 2 ^ (k % 8 * 8) = ((dg w64 X (k / 8) / 256 ^ (k % 8) : Nat) : Int):=by
  unfold wd
  rw [← two_256,Int.natCast_ediv]
  simp
 rw [e]
 have h:=dg_byte X 8 (k / 8) (k % 8) (Nat.mod_lt _ (by omega))
 rw [Nat.div_add_mod,← w64_bytes] at h
 unfold byv
 omega
theorem bytes_step {X k j : Nat} (hk : k < 32) (hj : j = 31 - k) : ∀ i,i < 32 → (if i = j then Value.int .u8 (byv X k) else Value.int .u8 (if 32 ≤ i + k then byv X (31 - i) else 0)) = Value.int .u8 (if 32 ≤ i + (k + 1) then byv X (31 - i) else 0):=by
 intro i hi
 by_cases h : i = j
 ·
  rw [if_pos h,if_pos (by omega),show 31 - i = k by omega]
 ·
  rw [if_neg h]
  by_cases h2 : 32 ≤ i + k
  ·
   rw [if_pos h2,if_pos (by omega)]
  ·
   rw [if_neg h2,if_neg (by omega)]
theorem infoByte : (Tryz.prog.info? 5).map (fun i => (i.zero,i.size,i.bytes)) = some (some (.int .u8 0),1,1):=by kernel_rfl
theorem row_filled {w : World} {z : Value} {n b t : Nat} (hb : b = w.heap.size) : (w.alloc (.cells (madeCells #[z] n) t)).rowIs b t n (fun _ => z):=by
 subst hb
 exact World.rowIs_made w z n t
theorem bytes_calls (X : Nat) (w : World) :
  Calls Tryz.prog 64 #[.agg #[vI vU (wd X 0),vI vU (wd X 1),vI vU (wd X 2),vI vU (wd X 3)]] w fun e w' => ∃ g,e = .returned (.slice (some ⟨g,0,none⟩) 32 32) ∧ w.heap.size ≤ g ∧ w'.rowIs g 5 32 (fun j => .int .u8 (byv X (31 - j))) ∧ Below w.heap.size w w':=by
 obtain ⟨i0,hi,hz0,hz1,hz2⟩:=info_parts infoByte
 have hmk : ∀ W : World,(Instr.makeSlice 24 (.int .i64 32) (.int .i64 32)).run Tryz.prog W = .ok (.slice (some ⟨W.heap.size,0,none⟩) 32 32) (W.alloc (.cells (madeCells #[.int .u8 0] 32) 5)) :=
  fun W => run_make_row 24 5 i0 (.int .u8 0) Tryz.underlying24 hi hz0 hz1 rfl .i64 .i64 32 (by rw [hz2]; omega) (by omega) W
 go_enter Tryz.func64,Tryz.ntmps64
 go_wp2
 go_loopw [6] (fun i wr => ∃ k : Nat,k ≤ 32 ∧ i = .int .i64 k ∧ wr.rowIs w.heap.size 29 4 (fun j => .int .u64 (wd X j)) ∧ wr.rowIs (w.heap.size + 1) 5 32 (fun j => .int .u8 (if 32 ≤ j + k then byv X (31 - j) else 0)) ∧ Below w.heap.size w wr)
  (fun i _ => 32 - (intOf i).toNat)
 case atStart => exact ⟨0,by omega,rfl,(zai (n:=4) rfl rfl (arr4 fun j => .int .u64 (wd X j))).alloc _,(row_filled (w:=w.alloc (.cells #[vI vU (wd X 0),vI vU (wd X 1),vI vU (wd X 2),vI vU (wd X 3)] 29)) (z:=.int .u8 0) (by simp)).congr (fun i hi => by rw [if_neg (by omega)]),((Below.refl _ _).alloc (by simp) _).alloc (by simp) _⟩
 case round =>
  obtain ⟨k,hk,rfl,hR,hS,hbel⟩:=hrel
  by_cases hlt : k < 32
  ·
   have c1:=hR.cell (i:=k / 8) (by omega)
   obtain ⟨j,hj⟩ : ∃ j,j = 31 - k:=⟨_,rfl⟩
   have hji : (31 : Int) - (k : Int) = (j : Int):=by omega
   have hjn : (j : Int) < (32 : Int):=by omega
   have c2:=hS.cell (i:=j) (by omega)
   have f2:=hS.frozen j
   have l1:=wd_lo X (k / 8)
   have u1:=wd_le X (k / 8)
   have HJ:=veil hj
   clear hj
   go_wp2
   go_roundw
   case rel =>
    rw [byte_word]
    exact ⟨k + 1,by omega,by go_num,zat hR (by omega) _,(hS.set j _).congr (bytes_step hlt HJ.out),zag hbel (by omega) _⟩
   case measure => simp [intOf]; omega
  ·
   obtain rfl : k = 32:=by omega
   go_wp2
   go_ret
   exact ⟨_,rfl,by omega,hS.congr (fun i hi => by rw [if_pos (by omega)]),hbel⟩
section
variable {w0 : World} {Post : Value → World → Prop} {J : World → Prop}
end
def hf (X M : Nat) : Nat:=if X % 2 = 0 then X / 2 else (X + M) / 2
theorem hf_lt {X M : Nat} (h : X < M) : hf X M < M:=by unfold hf; split <;> omega
theorem gcd_even (u v : Nat) (hu : u % 2 = 0) (hv : v % 2 = 1) : Nat.gcd (u / 2) v = Nat.gcd u v:=by
 have hc : Nat.Coprime 2 v:=by
  unfold Nat.Coprime
  rw [Nat.gcd_rec,hv]; rfl
 have e : u = 2 * (u / 2):=by omega
 conv => rhs; rw [e]
 exact (Nat.Coprime.gcd_mul_left_cancel (u / 2) hc).symm
theorem gcd_less (u v : Nat) (h : u ≤ v) : Nat.gcd (v - u) u = Nat.gcd u v:=by
 rw [Nat.gcd_comm u v]
 have e : v = (v - u) + u:=by omega
 conv => rhs; rw [e,Nat.gcd_add_self_left]
theorem cut_twice {M A B : Nat} (hM : M % 2 = 1) (h : 2 * A % M = 2 * B % M) : A % M = B % M:=by
 have hM0 : 0 < M:=by omega
 rw [Nat.mul_mod,← Nat.mul_mod_mod,Nat.mod_mul_mod] at h
 rw [Nat.mul_mod 2 B,← Nat.mul_mod_mod,Nat.mod_mul_mod] at h
 have ha:=Nat.mod_lt A hM0
 have hb:=Nat.mod_lt B hM0
 simp only [Nat.mod_mod] at h
 generalize A % M = a at *
 generalize B % M = b at *
 have e : ∀ c,c < M → 2 * c % M = if 2 * c < M then 2 * c else 2 * c - M:=by
  intro c hc
  split
  ·
   exact Nat.mod_eq_of_lt (by assumption)
  ·
   rw [Nat.mod_eq_sub_mod (by omega),Nat.mod_eq_of_lt (by omega)]
 rw [e a ha,e b hb] at h
 split at h <;> split at h <;> omega
theorem cut_add {M A B C : Nat} (hM0 : 0 < M) (h : (A + C) % M = (B + C) % M) : A % M = B % M:=by
 rw [Nat.add_mod,Nat.add_mod B] at h
 have ha:=Nat.mod_lt A hM0
 have hb:=Nat.mod_lt B hM0
 have hc:=Nat.mod_lt C hM0
 generalize A % M = a at *
 generalize B % M = b at *
 generalize C % M = c at *
 have e : ∀ d,d < M → (d + c) % M = if d + c < M then d + c else d + c - M:=by
  intro d hd
  split
  ·
   exact Nat.mod_eq_of_lt (by assumption)
  ·
   rw [Nat.mod_eq_sub_mod (by omega),Nat.mod_eq_of_lt (by omega)]
 rw [e a ha,e b hb] at h
 split at h <;> split at h <;> omega
structure Inv (a M r u v x y : Nat) : Prop where
 hx : x < M
 hy : y < M
 hu : u < top
 hv : v < top
 odd : v % 2 = 1
 ex : a * x % M = u % M
 ey : a * y % M = v % M
 g : Nat.gcd u v = Nat.gcd a M
 left : ∃ p q,u < 2 ^ p ∧ v < 2 ^ q ∧ r + 2 * (p + q) + u % 2 ≤ 1025
theorem neq4 (f g : Nat → Int) (w : World) : (binOp .neq 29 (.agg #[vI vU (f 0),vI vU (f 1),vI vU (f 2),vI vU (f 3)]) (.agg #[vI vU (g 0),vI vU (g 1),vI vU (g 2),vI vU (g 3)])).run Tryz.prog w = .ok (.bool (!((List.range 4).all fun i => f i == g i))) w:=by
 obtain ⟨i,hi⟩ : ∃ i,Tryz.prog.info? 27 = some i:=Option.isSome_iff_exists.1 (by kernel_rfl)
 have hc : Tryz.prog.cellsOf 27 = 1:=by kernel_rfl
 rw [run_neq_struct,run_equalIn_array (P:=Tryz.prog) w 9999 _ _ Tryz.underlying29 hi,hc]
 rw [run_items 9998 _ _ f g w _ (fun j hj => arr4 (fun j => .int .u64 (f j)) j (by simpa using hj)) (fun j hj => arr4 (fun j => .int .u64 (g j)) j (by simpa using hj))]
 rfl
theorem neq_zero {X : Nat} (hX : X < top) (w : World) : (binOp .neq 29 (.agg #[vI vU (wd X 0),vI vU (wd X 1),vI vU (wd X 2),vI vU (wd X 3)]) (.agg #[vI vU 0,vI vU 0,vI vU 0,vI vU 0])).run Tryz.prog w = .ok (.bool (!decide (X = 0))) w:=by
 have h:=neq4 (wd X) (wd 0) w
 rw [all_wd 4 X 0] at h
 have e : (X % w64 ^ 4 = 0 % w64 ^ 4) = (X = 0):=by rw [Nat.mod_eq_of_lt (show X < w64 ^ 4 from hX),Nat.zero_mod]
 rw [decide_eq_decide.2 (iff_of_eq e)] at h
 have e0 : ∀ i,wd 0 i = 0:=by intro i; unfold wd dg; simp
 simpa [e0] using h
section
variable {w0 : World} {Post : Value → World → Prop} {J : World → Prop}
end
theorem three_lt : 3 < Pt.pp:=by decide +kernel
theorem bb_lt : Pt.bb < Pt.pp:=by decide +kernel
theorem pp_one : 1 < Pt.pp:=by decide +kernel
theorem wd_nil (i : Nat) : wd 0 i = 0:=by unfold wd dg; simp
theorem eql_zero {X : Nat} (hX : X < top) (w : World) : (binOp .eql 29 (.agg #[vI vU (wd X 0),vI vU (wd X 1),vI vU (wd X 2),vI vU (wd X 3)]) (.agg #[vI vU 0,vI vU 0,vI vU 0,vI vU 0])).run Tryz.prog w = .ok (.bool (decide (X = 0))) w:=by
 have h:=eql_num hX (show 0 < top by decide) w
 simp only [wd_nil] at h
 exact h
theorem zgd : ((0 : Fin Pt.pp)).val = 0:=Fin.val_zero _
theorem v_one : ((1 : Fin Pt.pp)).val = 1:=Pt.val_one pp_one
theorem v_three : ((3 : Fin Pt.pp)).val = 3:=by
 rw [← Pt.F_three]
 exact Nat.mod_eq_of_lt three_lt
section
variable {x y z : Fin Pt.pp}
end
/-! ### Neg -/
/-! ### On -/
def rightN (X : Nat) : Nat:=((X * X % Pt.pp * X % Pt.pp + Pt.pp - 3 * X % Pt.pp) % Pt.pp + Pt.bb) % Pt.pp
def onB (X Y : Nat) (f : Bool) : Bool:=if f then decide (X = 0) && decide (Y = 0) else decide (X < Pt.pp) && (decide (Y < Pt.pp) && decide (Y * Y % Pt.pp = rightN X))
theorem right_val (x : Fin Pt.pp) : rightN x.val = (x * x * x - 3 * x + Pt.F Pt.bb).val:=by
 unfold rightN
 have e3 : 3 * x.val % Pt.pp = (3 * x).val:=by rw [← Pt.v_mul,v_three]
 have eb : Pt.bb = (Pt.F Pt.bb : Fin Pt.pp).val:=(Nat.mod_eq_of_lt bb_lt).symm
 rw [e3,Pt.v_mul,Pt.v_mul,Pt.v_sub]
 conv => lhs; rw [eb]
 rw [Pt.v_add]
section
variable (X Y : Nat)
end
/-! ### Add -/
section
variable (X Y : Nat)
end
section
variable {x1 y1 x2 y2 m u d t l a b X c e Y : Fin Pt.pp}
end
theorem p_top (p : Pt.P Pt.pp) : Pt.pX p < top ∧ Pt.pY p < top:=⟨Nat.lt_trans (Pt.pX_lt p) zhu,Nat.lt_trans (Pt.pY_lt p) zhu⟩
theorem onB_iff (X Y : Nat) (f : Bool) : onB X Y f = true ↔ Pt.isOn X Y f:=by
 unfold onB Pt.isOn
 cases f with
 | true => simp
 | false =>
  simp only [Bool.false_eq_true,if_false,Bool.and_eq_true,decide_eq_true_eq]
  constructor
  ·
   rintro ⟨hx,hy,h⟩
   refine ⟨hx,hy,(Pt.on_iff _ _).2 (Fin.ext ?_)⟩
   have ex : X = (Pt.F X : Fin Pt.pp).val:=(Nat.mod_eq_of_lt hx).symm
   have ey : Y = (Pt.F Y : Fin Pt.pp).val:=(Nat.mod_eq_of_lt hy).symm
   rw [← Pt.v_mul,← right_val,← ex,← ey]
   exact h
  ·
   rintro ⟨hx,hy,h⟩
   refine ⟨hx,hy,?_⟩
   have ex : X = (Pt.F X : Fin Pt.pp).val:=(Nat.mod_eq_of_lt hx).symm
   have ey : Y = (Pt.F Y : Fin Pt.pp).val:=(Nat.mod_eq_of_lt hy).symm
   have h2:=congrArg Fin.val ((Pt.on_iff _ _).1 h)
   rw [← Pt.v_mul,← right_val,← ex,← ey] at h2
   exact h2
theorem onB_some {X Y : Nat} {f : Bool} (h : onB X Y f = true) : ∃ q : Pt.Q,X = Pt.pX q.1 ∧ Y = Pt.pY q.1 ∧ f = Pt.pFar q.1:=(Pt.isOn_iff X Y f).1 ((onB_iff X Y f).1 h)
theorem onB_of (q : Pt.Q) : onB (Pt.pX q.1) (Pt.pY q.1) (Pt.pFar q.1) = true:=(onB_iff _ _ _).2 ((Pt.isOn_iff _ _ _).2 ⟨q,rfl,rfl,rfl⟩)
def bit (X n : Nat) : Bool:=X / 2 ^ n % 2 == 1
theorem w64_two : w64 = 2 ^ 64:=by decide
theorem bit_dg (a n r m : Nat) (hr : r < m) : a / (2 ^ m) ^ n % 2 ^ m / 2 ^ r % 2 = a / 2 ^ (m * n + r) % 2:=by
 have h:=zdd (B:=2) (a / (2 ^ m) ^ n) m r hr
 unfold dg at h
 rw [h,← Nat.pow_mul,Nat.div_div_eq_div_mul,← Nat.pow_add]
theorem bit_word (X n : Nat) : (bits BinOp.and IntKind.u64 (wd X (n / 64) / 2 ^ (n % 64)) 1 == 1) = bit X n:=by
 have e : wd X (n / 64) / 2 ^ (n % 64) = ((dg w64 X (n / 64) / 2 ^ (n % 64) : Nat) : Int):=by
  unfold wd
  rw [Int.natCast_ediv]
  simp
 have hlt : dg w64 X (n / 64) / 2 ^ (n % 64) < 18446744073709551616:=Nat.lt_of_le_of_lt (Nat.div_le_self _ _) (dg_lt zau X _)
 rw [e,show (1 : Int) = ((1 : Nat) : Int) from rfl,u64_and_nat _ _ hlt (by omega),Nat.and_one_is_mod]
 have h:=bit_dg X (n / 64) (n % 64) 64 (Nat.mod_lt _ (by omega))
 rw [Nat.div_add_mod] at h
 unfold bit dg
 rw [w64_two,h]
 rw [Bool.eq_iff_iff]
 simp only [beq_iff_eq]
 omega
theorem bit_in (X n : Nat) (hn : n < 256) (w : World) :
  Calls Tryz.prog 105 #[.agg #[vI vU (wd X 0),vI vU (wd X 1),vI vU (wd X 2),vI vU (wd X 3)],.int .i64 (n : Int)] w fun e w' => e = .returned (.bool (bit X n)) ∧ Below w.heap.size w w':=by
 have hq : n / 64 < 4:=by omega
 have h0 : ¬ (n : Int) < 0:=by omega
 have h1 : ¬ (256 : Int) ≤ (n : Int):=by omega
 have hR : (w.alloc (.cells #[vI vU (wd X 0),vI vU (wd X 1),vI vU (wd X 2),vI vU (wd X 3)] 29)).rowIs w.heap.size 29 4 (fun j => .int .u64 (wd X j)):=zai (n:=4) (by simp) rfl (arr4 fun j => .int .u64 (wd X j))
 have c1:=hR.cell hq
 have l1:=wd_lo X (n / 64)
 have u1:=wd_le X (n / 64)
 clear hR
 go_enter Tryz.func105,Tryz.ntmps105
 go_wp2
 go_ret
 rw [← bit_word]
 exact ⟨rfl,(Below.refl _ _).alloc (Nat.le_refl _) _⟩
end Go.Proofs.YtihophdbkjhopaaGreatDoor
