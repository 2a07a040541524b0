/-
  Of HWrite HPad HSum Own SSumA M1 HLaid HLaw HParts MDef N1 Parts Top RCmp N2.
-/
import Derived.Laws.CopyOwn
import Derived.WalkKit
import Derived.WalkSpells
import Derived.WalkLawsBesides
import Derived.Deep.LoopGhost
import Derived.Deep.Cut
import Derived.Deep.CutRange
import Derived.Deep.OwnRows
import Derived.OwnWalk
import Derived.RegionTactic
import Derived.Deep.AppendLies
import Derived.Maps.AppendAt
import Derived.Deep.RegionHeld3
import Derived.BigQuiet
import Derived.IntWalk
import Derived.Deep.QuietTactic
import Derived.StillTailTactics
import Derived.Test.YtmfjigcdhijkjaaGreatDoorRows
import Derived.Deep.CutBlock
import Derived.ProofKit
import Derived.LaidMore
import Derived.OpenShut
import Derived.Stop.Joined
import Derived.MakeChecks
import Derived.Carry
import Derived.ChangeKeysEq
import Derived.Laws.BytesString
import Derived.BigFrame
import Derived.Deep.Matrix
import Derived.Deep.MidRow
import Derived.Deep.RegionWith
import Derived.Test.YtmfjigcdhijkjaaGreatDoorZV6
import Derived.Test.YtmfjigcdhijkjaaGreatDoorZV1
import Derived.Test.YtmfjigcdhijkjaaGreatDoorZV3
import Derived.Test.YtmfjigcdhijkjaaGreatDoorZV5
import Derived.Test.YtmfjigcdhijkjaaGreatDoorZV2
set_option maxRecDepth 1000000
set_option maxHeartbeats 20000000
namespace Go.Proofs.YtmfjigcdhijkjaaGreatDoor
open Go.RowKit
open Go.Act renaming put → aP
open List renaming setIfInBounds_toArray → lA, set_cons_zero → lZ, set_cons_succ → lS
theorem zgr {P : Program} {w : World} {ops : Array Oper} {rest : List Oper} {o : Oper} {a : Act} {Q : Exit → Act → World → Prop} (hgd : o.guard = none) (d s : Operand) (dT sT : TypeId)
  (ho : o.op = .call { callee:=.builtin .copy,args:=#[d,s],argTypes:=#[dT,sT] }) (elem : TypeId) (hu : P.underlying dT = some (.slice elem)) (hsz : (P.info? elem).map (·.size) = some 1)
  (g off dLen dCap : Nat) (ad : Addr) (sLen sCap : Nat) (hd : a.eval d = .slice (some ⟨g,off,none⟩) dLen dCap) (hs : a.eval s = .slice (some ad) sLen sCap)
  (t n : Nat) (f : Nat → Value) (hrow : w.rowIs g t n f) (m : Nat) (hm : m = Nat.min sLen dLen) (v : Nat → Value) (hsrc : ∀ j,j < m → w.cell? (ad.add j) = some (v j)) (hfit : off + m ≤ n)
  (h1 : ∀ j,j < m → (v j).oneCell' = true)
  (h : ∀ w',But g w w' → w'.rowIs g t n (fun j => if off ≤ j ∧ j < off + m then v (j - off) else f j) → wpList P ops Q rest (a.put o.dst (goInt (m : Nat))) w') : wpList P ops Q (o :: rest) a w:=by
 have hcs : ((List.range m).map v).length = m:=by simp
 have hk:=wpList_copy_own (P:=P) (w:=w) (ops:=ops) (rest:=rest) (o:=o) (a:=a) (Q:=Q) hgd d s dT sT ho elem hu hsz g off dLen dCap ad sLen sCap hd hs (arrOf n f) t (blkOf hrow) ((List.range m).map v) (by rw [hcs,hm])
  (fun j u hu => by
   have hj : j < m:=by have:=(List.getElem?_eq_some_iff.1 hu).1; simpa using this
   rw [hsrc j hj,← hu]; simp [hj]) (by rw [hcs,zay]; exact hfit) (fun u hu => by
   simp at hu; obtain ⟨j,hj,rfl⟩:=hu; exact h1 j hj)
 rw [hcs] at hk
 refine hk (h _ ⟨rfl,rfl,rfl,by simp [World.setRow],fun k _ hne => zbz w _ (by simpa using hne)⟩ ?_)
 refine zgm hrow (by simp [zay]; omega) fun i hi => ?_
 have hl : (arrOf n f).toList.length = n:=by simp [zay]
 by_cases c1 : i < off
 ·
  rw [if_neg (by omega)]
  simp only [List.getElem?_toArray]
  rw [List.getElem?_append_left (by simp [hl]; omega),List.getElem?_take_of_lt c1]
  simpa using zcu f hi
 ·
  by_cases c2 : i < off + m
  ·
   rw [if_pos ⟨by omega,c2⟩]
   simp only [List.getElem?_toArray]
   rw [List.getElem?_append_right (by simp [hl]; omega),List.getElem?_append_left (by simp [hl]; omega)]
   simp [hl,show min off n = off by omega,show i - off < m by omega]
  ·
   rw [if_neg (by omega)]
   simp only [List.getElem?_toArray]
   rw [List.getElem?_append_right (by simp [hl]; omega),List.getElem?_append_right (by simp [hl]; omega),List.getElem?_drop]
   rw [show off + m + (i - (List.take off (arrOf n f).toList).length - ((List.range m).map v).length) = i by simp [hl]; omega]
   simpa using zcu f hi
theorem blockN_congr {m m' : Nat → Nat} (h : ∀ t,t < 16 → m t = m' t) (s : St) : blockN m s = blockN m' s:=by
 have hs : ∀ k,sched m k = sched m' k:=by
  intro k
  induction k with
  | zero => simp only [sched]
  | succ k ihk =>
   simp only [sched]
   rw [ihk]
   by_cases hk : k < 16
   ·
    simp only [if_pos hk]; rw [h k hk]
   ·
    simp only [if_neg hk]
 have hr : ∀ k,roundsN m s k = roundsN m' s k:=by
  intro k
  induction k with
  | zero => simp only [roundsN]
  | succ k ihk =>
   simp only [roundsN]
   rw [ihk]; unfold wt; rw [hs]
 unfold blockN; rw [hr]
structure HOk (b : Nat → Nat) (L : Nat) (s : St) (blk : Nat → Nat) : Prop where
 s : s = blocksN b (L / 64)
 pre : ∀ j,j < L % 64 → blk j = b (64 * (L / 64) + j)
 lt : ∀ j,blk j < 256
theorem HOk.part {b : Nat → Nat} {L m : Nat} {s : St} {blk : Nat → Nat} (h : HOk b L s blk) (hm : L % 64 + m < 64) (hb : ∀ i,L ≤ i → i < L + m → b i < 256) :
  HOk b (L + m) s (fun j => if L % 64 ≤ j ∧ j < L % 64 + m then b (L + (j - L % 64)) else blk j):=by
 have e1 : (L + m) / 64 = L / 64:=by omega
 refine ⟨by rw [e1]; exact h.s,fun j hj => ?_,fun j => ?_⟩
 ·
  rw [e1]
  by_cases c : j < L % 64
  ·
   rw [if_neg (by omega),h.pre j c]
  ·
   rw [if_pos (by omega)]; congr 1; omega
 ·
  show (if _ then _ else _) < 256
  split
  ·
   exact hb _ (by omega) (by omega)
  ·
   exact h.lt j
theorem HOk.full {b : Nat → Nat} {L m : Nat} {s : St} {blk : Nat → Nat} (h : HOk b L s blk) (hm : L % 64 + m = 64) (hb : ∀ i,L ≤ i → i < L + m → b i < 256) :
  HOk b (L + m) (blockN (fun t => word (fun j => if L % 64 ≤ j ∧ j < L % 64 + m then b (L + (j - L % 64)) else blk j) (4 * t)) s) (fun j => if L % 64 ≤ j ∧ j < L % 64 + m then b (L + (j - L % 64)) else blk j):=by
 have e1 : (L + m) / 64 = L / 64 + 1:=by omega
 have e2 : ∀ j,j < 64 → (if L % 64 ≤ j ∧ j < L % 64 + m then b (L + (j - L % 64)) else blk j) = b (64 * (L / 64) + j):=fun j hj => by
  by_cases c : j < L % 64
  ·
   rw [if_neg (by omega),h.pre j c]
  ·
   rw [if_pos (by omega)]; congr 1; omega
 refine ⟨?_,fun j hj => by omega,fun j => ?_⟩
 ·
  rw [e1]
  show _ = blockN (fun t => word b (64 * (L / 64) + 4 * t)) (blocksN b (L / 64))
  rw [← h.s]
  refine blockN_congr (fun t ht => ?_) s
  show word _ (4 * t) = word b (64 * (L / 64) + 4 * t)
  unfold word
  dsimp only
  rw [e2 _ (by omega),e2 _ (by omega),e2 _ (by omega),e2 _ (by omega)]
  rfl
 ·
  show (if _ then _ else _) < 256
  split
  ·
   exact hb _ (by omega) (by omega)
  ·
   exact h.lt j
theorem HOk.congr {b b' : Nat → Nat} {L : Nat} {s : St} {blk : Nat → Nat} (h : HOk b L s blk) (e : ∀ i,i < L → b i = b' i) : HOk b' L s blk :=
 ⟨by rw [h.s]; exact zfv _ (fun i hi => e i (by omega)),fun j hj => by rw [h.pre j hj,e _ (by omega)],h.lt⟩
def HashIs (w : World) (g : Nat) (b : Nat → Nat) (L : Nat) : Prop:=∃ s blk,HOk b L s blk ∧ HRow w g s blk L
section
variable {w w' : World} {g B L : Nat} {b b' : Nat → Nat}
theorem HashIs.lt (h : HashIs w g b L) : g < w.heap.size:=by obtain ⟨_,_,_,h⟩:=h; exact h.lt
theorem HashIs.of_block (h : HashIs w g b L) (e : w'.heap[g]? = w.heap[g]?) : HashIs w' g b L:=by obtain ⟨s,k,o,h⟩:=h; exact ⟨s,k,o,h.of_block e⟩
theorem HashIs.call (h : HashIs w g b L) (hb : Below w.heap.size w w') : HashIs w' g b L:=h.of_block (hb.block g h.lt)
theorem HashIs.below (h : HashIs w g b L) (hb : Below B w w') (hlt : g < B) : HashIs w' g b L:=h.of_block (hb.block g hlt)
theorem HashIs.but {r : Nat} (h : HashIs w g b L) (k : But r w w') (hne : g ≠ r) : HashIs w' g b L:=h.of_block (k.block g h.lt (by simpa using hne))
theorem HashIs.alloc (h : HashIs w g b L) (o : Obj) : HashIs (w.alloc o) g b L:=h.of_block (Below.heap_alloc _ _ _ h.lt)
theorem HashIs.drew (h : HashIs w g b L) : HashIs w.drew g b L:=h
theorem HashIs.congr (h : HashIs w g b L) (e : ∀ i,i < L → b i = b' i) : HashIs w g b' L:=by obtain ⟨s,k,o,h⟩:=h; exact ⟨s,k,o.congr e,h⟩
theorem HashIs.len (h : HashIs w g b L) : w.cell? ⟨g,72,none⟩ = some (.int .i64 (L : Int)):=by obtain ⟨_,_,_,h⟩:=h; exact h.length
end
def cat (b : Nat → Nat) (len : Nat) (y : Nat → Nat) : Nat → Nat:=fun i => if i < len then b i else y (i - len)
def Src (w : World) (A : Option Addr) (n : Nat) (y : Nat → Nat) (g : Nat) : Prop:=n = 0 ∨ ∃ b o,A = some ⟨b,o,none⟩ ∧ b < w.heap.size ∧ b ≠ g ∧ ∀ j,j < n → w.cell? ⟨b,o + j,none⟩ = some (.int .u8 (y j : Nat))
section
variable {w w' : World} {A : Option Addr} {n g B : Nat} {y : Nat → Nat}
theorem Src.below (h : Src w A n y g) (hb : Below w.heap.size w w') : Src w' A n y g:=by
 rcases h with h | ⟨b,o,ha,hlt,hne,hc⟩
 ·
  exact .inl h
 ·
  exact .inr ⟨b,o,ha,Nat.lt_of_lt_of_le hlt hb.size,hne,fun j hj => (hb.cell (p:=⟨b,o + j,none⟩) hlt).trans (hc j hj)⟩
theorem Src.but (h : Src w A n y g) (hb : But g w w') : Src w' A n y g:=by
 rcases h with h | ⟨b,o,ha,hlt,hne,hc⟩
 ·
  exact .inl h
 ·
  exact .inr ⟨b,o,ha,Nat.lt_of_lt_of_le hlt hb.size,hne,fun j hj => (World.cell?_of_block (w:=w) (a:=⟨b,o + j,none⟩) (hb.block b hlt (by simpa using hne))).trans (hc j hj)⟩
theorem Src.congr {y' : Nat → Nat} (h : Src w A n y g) (e : ∀ j,j < n → y j = y' j) : Src w A n y' g:=by
 rcases h with h | ⟨b,o,ha,hlt,hne,hc⟩
 ·
  exact .inl h
 ·
  exact .inr ⟨b,o,ha,hlt,hne,fun j hj => by rw [hc j hj,e j hj]⟩
end
theorem sliceAt_arr (g fl : Nat) (hf : fl < 64) (w : World) : (Instr.sliceAt 116 (.pointer (some ⟨g,8,none⟩)) (some (.int .i64 (fl : Int))) none none).run Tryz.prog w = .ok (.slice (some ⟨g,8 + fl,none⟩) (64 - fl) (64 - fl)) w:=by
 have e1 : Tryz.prog.arrayLen 116 = 64:=by kernel_rfl
 have e2 : ((sizeOf (Tryz.prog.elem 116)).run Tryz.prog w) = .ok 1 w:=by kernel_rfl
 rw [run_sliceAt_array_l w 116 ⟨g,8,none⟩ (by kernel_rfl) .i64 (fl : Int) (by omega) (by rw [e1]; omega),e2,e1]
 have h64 : ¬ 64 = fl:=by omega
 simp [slicedAt,Result.andThen,h64,Addr.add_mid]
def tailAt (b o m c : Nat) : Option Addr:=if c = m then some ⟨b,o,none⟩ else some ⟨b,o + m,none⟩
theorem slice_from (b o r c m : Nat) (hm : m ≤ r) (w : World) : (Instr.slice 46 (.slice (some ⟨b,o,none⟩) r c) (some (.int .i64 (m : Int))) none none).run Tryz.prog w = .ok (.slice (tailAt b o m c) (r - m) (c - m)) w:=by
 have e2 : ((sizeOf (Tryz.prog.elem 46)).run Tryz.prog w) = .ok 1 w:=by kernel_rfl
 rw [run_slice_l w 46 (some ⟨b,o,none⟩) r c (by kernel_rfl) .i64 (m : Int) (by omega) (by omega),e2]
 by_cases h : c = m
 ·
  simp [sliced,Result.andThen,tailAt,h]
 ·
  simp [sliced,Result.andThen,tailAt,h,Addr.add_mid]
theorem sliceAt_from (b o r c m : Nat) (hm : m ≤ r) (w : World) : (Instr.sliceAt 46 (.slice (some ⟨b,o,none⟩) r c) (some (.int .i64 (m : Int))) none none).run Tryz.prog w = .ok (.slice (tailAt b o m c) (r - m) (c - m)) w:=by
 rw [run_sliceAt_slice w 46 _ _ _ _ (by kernel_rfl)]
 exact slice_from b o r c m hm w
theorem Src.tail {w : World} {b o r c m g : Nat} {y : Nat → Nat} (h : Src w (some ⟨b,o,none⟩) r y g) (hm : m ≤ r) (hc : r ≤ c) : Src w (tailAt b o m c) (r - m) (fun j => y (m + j)) g:=by
 by_cases h0 : r - m = 0
 ·
  exact .inl h0
 ·
  rcases h with h | ⟨b',o',e,hlt,hne,hcl⟩
  ·
   omega
  ·
   simp only [Option.some.injEq,Addr.mk.injEq] at e
   obtain ⟨rfl,rfl,_⟩:=e
   refine .inr ⟨b,o + m,by unfold tailAt; rw [if_neg (by omega)],hlt,hne,fun j hj => ?_⟩
   rw [Nat.add_assoc]
   exact hcl (m + j) (by omega)
def lenOf : Value → Nat | .slice _ r _ => r | _ => 0
theorem infoB : (Tryz.prog.info? 5).map (·.size) = some 1:=by kernel_rfl
theorem zfp (g : Nat) (b : Nat → Nat) (L : Nat) (A : Option Addr) (n c : Nat) (y : Nat → Nat) (hy : ∀ j,y j < 256) (hnc : n ≤ c) (hLn : L + n ≤ 4611686018427387904) (hg : g ≠ 0)
  (w : World) (hK : KT w) (hH : HashIs w g b L) (hS : Src w A n y g) :
  Calls Tryz.prog 41 #[.pointer (some ⟨g,0,none⟩),.slice A n c] w fun e w' => e = .returned (.tuple #[]) ∧ HashIs w' g (cat b L y) (L + n) ∧ But g w w':=by
 obtain ⟨T,hT⟩ : ∃ T,T = cat b L y:=⟨_,rfl⟩
 have hH : HashIs w g T L:=hH.congr fun i hi => by rw [hT]; unfold cat; rw [if_pos hi]
 have hTy : ∀ i,T (L + i) = y i:=fun i => by rw [hT]; unfold cat; rw [if_neg (by omega),Nat.add_sub_cancel_left]
 have HT:=veil hT
 have HTy:=veil hTy
 have HY:=veil hy
 have HG:=veil hg
 clear hT hTy hy hg
 go_enter Tryz.func41,Tryz.ntmps41
 go_wp2
 go_loopw [1] (fun v wr => ∃ (A : Option Addr) (k r c : Nat),k + r = n ∧ r ≤ c ∧ v = .slice A r c ∧ Src wr A r (fun j => y (k + j)) g ∧ HashIs wr g T (L + k) ∧ But g w wr ∧ KT wr)
  (fun v _ => lenOf v)
 case atStart => exact ⟨A,0,n,c,by omega,hnc,rfl,hS.congr fun j _ => by rw [Nat.zero_add],hH,But.refl _ _,hK⟩
 case round =>
  obtain ⟨A,k,r,c,hkr,hrc,rfl,hS,hH,hB,hK⟩:=hrel
  by_cases h0 : r = 0
  ·
   subst h0
   go_wp2
   go_end0
   exact ⟨rfl,by rw [← HT.out,show n = k by omega]; exact hH,hB⟩
  ·
   obtain ⟨bb,o,rfl,hlt,hne,hc⟩ : ∃ b o,A = some ⟨b,o,none⟩ ∧ b < wr.heap.size ∧ b ≠ g ∧ ∀ j,j < r → wr.cell? ⟨b,o + j,none⟩ = some (.int .u8 (y (k + j) : Nat)):=hS.resolve_left h0
   obtain ⟨s,blk,hok,hrow⟩:=hH
   obtain ⟨N,hN⟩ : ∃ N,N = L + k:=⟨_,rfl⟩
   rw [← hN] at hok hrow
   obtain ⟨fl,hfl⟩ : ∃ fl,fl = N % 64:=⟨_,rfl⟩
   have hfi : (N : Int) % 64 = (fl : Int):=by omega
   have hf64 : fl < 64:=by omega
   obtain ⟨m,hm⟩ : ∃ m,m = Nat.min r (64 - fl):=⟨_,rfl⟩
   have hm0 : 0 < m:=by rw [hm]; show 0 < min r (64 - fl); omega
   have hmr : m ≤ r:=by rw [hm]; exact Nat.min_le_left _ _
   have hmf : fl + m ≤ 64:=by rw [hm]; show fl + min r (64 - fl) ≤ 64; omega
   have cL:=hrow.length
   have fL:=World.rowIs.frozen hrow 72
   have hr0 : (0 : Int) < (r : Int):=by omega
   have hN0 : N ≤ 4611686018427387904:=by omega
   have hNm : N + m ≤ 4611686018427387904:=by omega
   have HR:=veil hrow
   have HC:=veil hc
   have HM:=veil hm
   have HF:=veil hfl
   have HN:=veil hN
   have HK:=veil hok
   have HB2:=veil hne
   clear hrow hc hm hfl hN hok hne h0
   have q1:=fun W => sliceAt_arr g fl hf64 W
   have q2:=fun W => slice_from bb o r c m hmr W
   have q3:=fun W => sliceAt_from bb o r c m hmr W
   clear cL fL
   have hsrc : ∀ j,j < m → wr.cell? ((⟨bb,o,none⟩ : Addr).add j) = some (.int .u8 (y (k + j) : Nat)):=fun j hj => by
    rw [Addr.add_mid]; exact HC.out j (by omega)
   have HSRC:=veil hsrc
   have cL:=HR.out.length
   clear hsrc
   go_upto_region 3 with ((with_reducible refine zbk 20 ?_); refine zgr rfl _ _ 46 46 rfl 5 Tryz.underlying46 infoB g (8 + fl) (64 - fl) (64 - fl) ⟨bb,o,none⟩ r c rfl rfl 118 73 _ HR.out m HM.out (fun j => .int .u8 (y (k + j) : Nat)) HSRC.out (by omega) (fun _ _ => rfl) ?_; intro w2 hb2 hr2)
   have hTn : ∀ j,T (N + j) = y (k + j):=fun j => by rw [HN.out,Nat.add_assoc]; exact HTy.out _
   obtain ⟨blk',hblk'⟩ : ∃ blk' : Nat → Nat,blk' = fun j => if N % 64 ≤ j ∧ j < N % 64 + m then T (N + (j - N % 64)) else blk j:=⟨_,rfl⟩
   have hr2 : HRow w2 g s blk' N:=hr2.congr fun j hj => by
    unfold hcells
    rw [hblk',← HF.out]
    dsimp only
    by_cases c1 : 8 + fl ≤ j ∧ j < 8 + fl + m
    ·
     rw [if_pos c1,if_neg (by omega),if_pos (by omega),if_pos (by omega),hTn,show j - 8 - fl = j - (8 + fl) by omega]
    ·
     rw [if_neg c1]
     by_cases c2 : j < 8
     ·
      rw [if_pos c2,if_pos c2]
     ·
      rw [if_neg c2,if_neg c2]
      by_cases c3 : j < 72
      ·
       rw [if_pos c3,if_pos c3,if_neg (by omega)]
      ·
       rw [if_neg c3,if_neg c3]
   have HBLK:=veil hblk'
   have hS2:=hS.but hb2
   have hK2:=hK.grown hb2 HG.out.symm
   have hB2:=But.trans hB hb2
   have cL:=hr2.length
   have fL:=World.rowIs.frozen hr2 72
   clear hb2 hblk' hTn hS hK hB HSRC HR HC
   have hNi : (N : Int) + (m : Int) = ((N + m : Nat) : Int):=by omega
   obtain ⟨N2,hN2⟩ : ∃ N2,N2 = N + m:=⟨_,rfl⟩
   rw [← hN2] at hNi hNm
   have HN2:=veil hN2
   clear hN2
   have hr3 : HRow (w2.setCell ⟨g,72,none⟩ (.int .i64 (N2 : Int))) g s blk' N2:=(World.rowIs.set hr2 72 _).congr fun j hj => by
    unfold hcells
    by_cases h : j = 72
    ·
     subst h; rfl
    ·
     rw [if_neg h]
     by_cases c2 : j < 8
     ·
      rw [if_pos c2,if_pos c2]
     ·
      rw [if_neg c2,if_neg c2,if_pos (by omega),if_pos (by omega)]
   have hbs : But g w2 (w2.setCell ⟨g,72,none⟩ (.int .i64 (N2 : Int))):=But.set (But.refl _ _) _ _
   have hS3:=(hS2.but hbs).tail hmr hrc
   have hK3:=hK2.grown hbs HG.out.symm
   have hB3:=But.trans hB2 hbs
   have hTb : ∀ i,N ≤ i → i < N + m → T i < 256:=fun i h1 h2 => by
    obtain ⟨d,rfl⟩ : ∃ d,i = N + d:=⟨i - N,by omega⟩
    rw [HN.out,Nat.add_assoc,HTy.out]; exact HY.out _
   have HTB:=veil hTb
   have HH3:=veil (And.intro hS3 (And.intro hK3 (And.intro hB3 hr3)))
   clear hTb hS3 hK3 hB3 hr3 hbs hS2 hK2 hB2
   have HSZ:=veil (show lenOf (.slice (tailAt bb o m c) (r - m) (c - m)) < lenOf (.slice (some ⟨bb,o,none⟩) r c) by show r - m < r; omega)
   by_cases hful : fl + m = 64
   ·
    have hq : (fl : Int) + (m : Int) = 64:=by omega
    have hok2:=HK.out.full (m:=m) (by rw [← HF.out]; exact hful) HTB.out
    rw [← HBLK.out,← HN2.out] at hok2
    have HO:=veil hok2
    clear hok2
    go_upto_region 6 with (fail)
    clear cL fL hr2 q1 q2 q3
    generalize w2.setCell ⟨g,72,none⟩ (.int .i64 (N2 : Int)) = w3 at *
    go_wp2_with ((with_reducible refine (mix_calls g s blk' N2 (HK.out.s ▸ blocksN_ok _ _) HO.out.lt _ HH3.out.2.1 HH3.out.2.2.2).mono ?_); rintro e w4 ⟨rfl,hr4,hb4⟩)
    go_roundw
    case rel =>
     refine ⟨_,k + m,r - m,c - m,by omega,by omega,rfl,((HH3.out.1).but hb4).congr fun j _ => by rw [Nat.add_assoc],⟨blockN (fun t => word blk' (4 * t)) s,blk',?_,?_⟩,But.trans HH3.out.2.2.1 hb4,HH3.out.2.1.grown hb4 HG.out.symm⟩
     ·
      rw [← Nat.add_assoc,← HN.out,← HN2.out]; exact HO.out
     ·
      rw [← Nat.add_assoc,← HN.out,← HN2.out]; exact hr4
    case measure => exact HSZ.out
   ·
    have hq : ¬ ((fl : Int) + (m : Int) = 64):=by omega
    have hok2:=HK.out.part (m:=m) (by rw [← HF.out]; omega) HTB.out
    rw [← HBLK.out,← HN2.out] at hok2
    have HO:=veil hok2
    clear hok2
    go_wp2
    go_roundw
    case rel =>
     refine ⟨_,k + m,r - m,c - m,by omega,by omega,rfl,(HH3.out.1).congr fun j _ => by rw [Nat.add_assoc],⟨s,blk',?_,?_⟩,HH3.out.2.2.1,HH3.out.2.1⟩
     ·
      rw [← Nat.add_assoc,← HN.out,← HN2.out]; exact HO.out
     ·
      rw [← Nat.add_assoc,← HN.out,← HN2.out]; exact HH3.out.2.2.2
    case measure => exact HSZ.out
theorem infoB3 : (Tryz.prog.info? 5).map (fun i => (i.zero,i.size,i.bytes)) = some (some (.int .u8 0),1,1):=by kernel_rfl
def padB (len : Nat) (i : Nat) : Nat:=padded (fun _ => 0) len (len + i)
def padN (len : Nat) : Nat:=64 * nBlocks len - len
theorem padN_eq (len : Nat) : padN len = 9 + (64 - (len + 9) % 64) % 64:=by unfold padN nBlocks; omega
theorem padN_all (len : Nat) : len + padN len = 64 * nBlocks len:=by unfold padN nBlocks; omega
theorem padB_lt (len i : Nat) : padB len i < 256:=by
 unfold padB padded
 rw [if_neg (by omega)]
 split
 ·
  omega
 ·
  split
  ·
   omega
  ·
   exact Nat.mod_lt _ (by omega)
theorem cat_pad (b : Nat → Nat) (len : Nat) : cat b len (padB len) = padded b len:=by
 funext i
 unfold cat padB
 by_cases h : i < len
 ·
  rw [if_pos h]; unfold padded; rw [if_pos h]
 ·
  rw [if_neg h,show len + (i - len) = i by omega]; unfold padded; rw [if_neg h,if_neg h]
def padK (len k : Nat) (j : Nat) : Nat:=if j = 0 then 128 else if j + k < padN len then 0 else padB len j
theorem padK_all (len j : Nat) (hj : j < padN len) : padK len 8 j = padB len j:=by
 unfold padK
 by_cases h : j = 0
 ·
  subst h; rw [if_pos rfl]; unfold padB padded; rw [if_neg (by omega),if_pos (by omega)]
 ·
  rw [if_neg h]
  by_cases h2 : j + 8 < padN len
  ·
   rw [if_pos h2]; unfold padB padded
   have:=padN_all len
   rw [if_neg (by omega),if_neg (by omega),if_pos (by omega)]
  ·
   rw [if_neg h2]
theorem padB_last {len k : Nat} (hk : k < 8) : padB len (padN len - 1 - k) = 8 * len / 256 ^ k % 256:=by
 have h1:=padN_eq len
 have h2:=padN_all len
 unfold padB padded
 rw [if_neg (by omega),if_neg (by omega),if_neg (by omega),show 64 * nBlocks len - 1 - (len + (padN len - 1 - k)) = k by omega]
theorem byte_shift (x k : Nat) : (x : Int) / 2 ^ (8 * k) % 256 = ((x / 256 ^ k % 256 : Nat) : Int):=by
 rw [Int.natCast_emod,Int.natCast_ediv,Int.natCast_pow,Nat.mul_comm 8 k,Nat.mul_comm k 8,Int.pow_mul]
 rfl
theorem padding_calls (len : Nat) (hl : len ≤ 288230376151711744) (w : World) :
  Calls Tryz.prog 91 #[.int .i64 (len : Int)] w fun e w' => e = .returned (.slice (some ⟨w.heap.size,0,none⟩) (padN len) (padN len)) ∧ w'.rowIs w.heap.size 5 (padN len) (fun j => .int .u8 (padB len j : Nat)) ∧ Below w.heap.size w w':=by
 have hP:=padN_eq len
 obtain ⟨P,hPP⟩ : ∃ P,P = padN len:=⟨_,rfl⟩
 rw [← hPP] at hP
 obtain ⟨o,ho⟩ : ∃ o,o = (len + 9) % 64:=⟨_,rfl⟩
 obtain ⟨z,hz⟩ : ∃ z,z = (64 - o) % 64:=⟨_,rfl⟩
 have e1 : ((len : Int) + 9) % 64 = (o : Int):=by omega
 have e2 : (64 - (o : Int)) % 64 = (z : Int):=by omega
 have e3 : 9 + (z : Int) = (P : Int):=by omega
 have ho64 : o < 64:=by omega
 have hz64 : z < 64:=by omega
 have hP9 : 9 ≤ P:=by omega
 have hP72 : P ≤ 72:=by omega
 have hmk:=fun W => run_make_row' (P:=Tryz.prog) 46 5 (.int .u8 0) 1 Tryz.underlying46 infoB3 rfl .i64 .i64 P (by omega) (by omega) W
 have HP:=veil hPP
 clear hP hz ho hPP
 go_enter Tryz.func91,Tryz.ntmps91
 go_upto_region 5 with (fail)
 have hR:=World.rowIs_made w (.int .u8 0) P 5
 have hb : Below w.heap.size w (w.alloc (.cells (madeCells #[.int .u8 0] P) 5)):=(Below.refl _ _).alloc (Nat.le_refl _) _
 generalize w.alloc (.cells (madeCells #[.int .u8 0] P) 5) = w1 at *
 generalize hgz : w.heap.size = g at *
 have HGZ:=veil hgz
 clear hgz hmk
 have c0:=hR.cell (show 0 < P by omega)
 have f0:=hR.frozen 0
 have hP0 : 0 < P:=by omega
 go_upto_region 6 with (fail)
 have hR1 : (w1.setCell ⟨g,0,none⟩ (.int .u8 128)).rowIs g 5 P (fun j => .int .u8 (padK len 0 j : Nat)):=(hR.set 0 _).congr fun j hj => by
  unfold padK
  by_cases h : j = 0
  ·
   rw [if_pos h,if_pos h]; rfl
  ·
   rw [if_neg h,if_neg h,if_pos (by rw [← HP.out]; omega)]; rfl
 have hb1 : Below g w (w1.setCell ⟨g,0,none⟩ (.int .u8 128)):=zav hb (Nat.le_refl _) _
 generalize w1.setCell ⟨g,0,none⟩ (.int .u8 128) = w2 at *
 have e4 : (len : Int) * 8 = ((8 * len : Nat) : Int):=by omega
 obtain ⟨bc,hbc⟩ : ∃ bc,bc = 8 * len:=⟨_,rfl⟩
 have hbl : bc ≤ 2305843009213693952:=by omega
 rw [← hbc] at e4
 have HBC:=veil hbc
 clear c0 f0 hR hb hbc
 go_wp2
 go_loopw [25] (fun v wr => ∃ k : Nat,k ≤ 8 ∧ v = .int .i64 (k : Int) ∧ wr.rowIs g 5 P (fun j => .int .u8 (padK len k j : Nat)) ∧ Below g w wr)
  (fun v _ => 8 - (intOf v).toNat)
 case atStart => exact ⟨0,by omega,rfl,hR1,hb1⟩
 case round =>
  obtain ⟨k,hk,rfl,hR,hb⟩:=hrel
  by_cases hlt : k < 8
  ·
   obtain ⟨d,hd⟩ : ∃ d,d = P - 1 - k:=⟨_,rfl⟩
   have hdP : d < P:=by omega
   have hdi : (P : Int) - 1 - (k : Int) = (d : Int):=by omega
   have c0:=hR.cell hdP
   have f0:=hR.frozen d
   have HD:=veil hd
   clear hd
   go_wp2
   go_roundw
   case rel =>
    refine ⟨k + 1,by omega,by go_num,(hR.set d _).congr fun j hj => ?_,zav hb (Nat.le_refl _) _⟩
    by_cases h : j = d
    ·
     rw [if_pos h,byte_shift]
     have hd:=HD.out
     unfold padK
     rw [if_neg (by omega),← HP.out,if_neg (by omega),h,hd,HP.out,padB_last hlt,HBC.out]
    ·
     rw [if_neg h]
     have hd:=HD.out
     unfold padK
     rw [← HP.out]
     by_cases h0 : j = 0
     ·
      rw [if_pos h0,if_pos h0]
     ·
      rw [if_neg h0,if_neg h0]
      by_cases h1 : j + k < P
      ·
       rw [if_pos h1,if_pos (by omega)]
      ·
       rw [if_neg h1,if_neg (by omega)]
   case measure => simp [intOf]; omega
  ·
   obtain rfl : k = 8:=by omega
   go_wp2
   go_ret
   exact ⟨by rw [HP.out,HGZ.out]; rfl,by rw [HGZ.out,← HP.out]; exact hR.congr (fun j hj => by rw [padK_all len j (by rw [← HP.out]; exact hj)]),by rw [HGZ.out]; exact hb⟩
/-! ### New,Len,Clone -/
def zH : Array Value:=arrOf 73 (hcells ⟨0,0,0,0,0,0,0,0⟩ (fun _ => 0) 0)
theorem zH_size : zH.size = 73:=zay _ _
theorem zero_hash (w : World) : (zeroValue 118).run Tryz.prog w = .ok (.agg zH) w:=(zero_of_info (P:=Tryz.prog) (t:=118) (v:=.agg zH) (n:=73) (by kernel_rfl)).1 w
theorem hok_none (b : Nat → Nat) : HOk b 0 (blocksN (fun _ => 0) 0) (fun _ => 0):=⟨rfl,fun _ h => by omega,fun _ => by decide⟩
theorem new_calls (w : World) :
  Calls Tryz.prog 40 #[] w fun e w' => e = .returned (.pointer (some ⟨w.heap.size,0,none⟩)) ∧ (∀ b,HashIs w' w.heap.size b 0) ∧ Below w.heap.size w w':=by
 have z1:=zero_hash
 have z2:=zH_size
 go_enter Tryz.func40,Tryz.ntmps40
 go_wp2
 generalize hX : Obj.cells _ 118 = X
 have hX2 : X = .cells (arrOf 73 (hcells (blocksN (fun _ => 0) 0) (fun _ => 0) 0)) 118:=by rw [← hX]; rfl
 clear hX
 subst hX2
 have hr : HRow (w.alloc (.cells (arrOf 73 (hcells (blocksN (fun _ => 0) 0) (fun _ => 0) 0)) 118)) w.heap.size (blocksN (fun _ => 0) 0) (fun _ => 0) 0:=zcm w 73 118 _ rfl
 have hb : Below w.heap.size w (w.alloc (.cells (arrOf 73 (hcells (blocksN (fun _ => 0) 0) (fun _ => 0) 0)) 118)):=(Below.refl _ _).alloc (Nat.le_refl _) _
 go_ret
 exact ⟨rfl,fun b => ⟨_,_,hok_none b,hr⟩,hb⟩
theorem infoH : (Tryz.prog.info? 118).map (·.size) = some 73:=by kernel_rfl
theorem hone (s : St) (blk : Nat → Nat) (len : Nat) : (arrOf 73 (hcells s blk len)).all (·.oneCell') = true:=zcj fun j _ => by
 unfold hcells
 split
 ·
  rfl
 ·
  split <;> rfl
theorem clone_calls (g L : Nat) (b : Nat → Nat) (w : World) (hH : HashIs w g b L) :
  Calls Tryz.prog 90 #[.pointer (some ⟨g,0,none⟩)] w fun e w' => e = .returned (.pointer (some ⟨w.heap.size,0,none⟩)) ∧ HashIs w' w.heap.size b L ∧ Below w.heap.size w w':=by
 obtain ⟨s,blk,hok,hrow⟩:=hH
 have hg:=blkOf hrow
 obtain ⟨X,hX⟩ : ∃ X,X = arrOf 73 (hcells s blk L):=⟨_,rfl⟩
 rw [← hX] at hg
 have HG:=veil hg
 have HX:=veil (show X.size = 73 ∧ X.all (·.oneCell') = true from ⟨by rw [hX,zay],by rw [hX]; exact hone s blk L⟩)
 have HI:=veil (show (Tryz.prog.info? 118).map (·.size) = some X.size by rw [HX.out.1]; exact infoH)
 have HXX:=veil hX
 have z1:=zero_hash
 have HO:=veil hok
 clear hg hX hok hrow
 go_enter Tryz.func90,Tryz.ntmps90
 go_wp2_with (first
  | ((with_reducible refine zbk 6 ?_); refine wpList_load_row rfl 118 _ rfl g rfl 118 X (0,0) _ HG.out Tryz.underlying118 rfl HI.out ?_)
  | ((with_reducible refine zbw ?_); refine wpList_store_row rfl 118 _ _ rfl w.heap.size X rfl rfl 118 _ (heap_alloc_last w _) HI.out (by rw [HX.out.1,zH_size]) HX.out.2 ?_; rw [World.setRow_alloc_new]))
 go_ret
 refine ⟨rfl,⟨s,blk,HO.out,?_⟩,(Below.refl _ _).alloc (Nat.le_refl _) _⟩
 rw [HXX.out]
 exact zcm w 73 118 _ rfl
def dByte (s : St) (i : Nat) : Nat:=s.at (i / 4) / 256 ^ (3 - i % 4) % 256
def dgst (b : Nat → Nat) (len : Nat) : Array Value:=arrOf 32 fun i => .int .u8 (dByte (shaSt b len) i : Nat)
theorem infoD : (Tryz.prog.info? 26).map (·.size) = some 32:=by kernel_rfl
theorem zeros32 : (#[.int .u8 0,.int .u8 0,.int .u8 0,.int .u8 0,.int .u8 0,.int .u8 0,.int .u8 0,.int .u8 0,.int .u8 0,.int .u8 0,.int .u8 0,.int .u8 0,.int .u8 0,.int .u8 0,.int .u8 0,.int .u8 0,.int .u8 0,.int .u8 0,.int .u8 0,.int .u8 0,.int .u8 0,.int .u8 0,.int .u8 0,.int .u8 0,.int .u8 0,.int .u8 0,.int .u8 0,.int .u8 0,.int .u8 0,.int .u8 0,.int .u8 0,.int .u8 0] : Array Value) = arrOf 32 (fun _ => .int .u8 0):=rfl
theorem shaSt_of {b : Nat → Nat} {L : Nat} {s : St} {blk : Nat → Nat} (h : HOk (cat b L (padB L)) (L + padN L) s blk) : s = shaSt b L:=by
 rw [h.s,padN_all,cat_pad,Nat.mul_div_cancel_left _ (by decide : 0 < 64)]
 rfl
theorem hsum_calls (g L : Nat) (b : Nat → Nat) (hL : L ≤ 1048576) (w : World) (hK : KT w) (hH : HashIs w g b L) :
  Calls Tryz.prog 42 #[.pointer (some ⟨g,0,none⟩)] w fun e w' => e = .returned (.agg (dgst b L)) ∧ Below w.heap.size w w':=by
 go_enter Tryz.func42,Tryz.ntmps42
 go_upto_region 1 with (fail)
 rw [zeros32]
 have hR0 : (w.alloc (.cells (arrOf 32 (fun _ => .int .u8 0)) 26)).rowIs w.heap.size 26 32 (fun _ => .int .u8 0):=zcm w 32 26 _ rfl
 have hb0 : Below w.heap.size w (w.alloc (.cells (arrOf 32 (fun _ => .int .u8 0)) 26)):=(Below.refl _ _).alloc (Nat.le_refl _) _
 have hK0:=hK.alloc (.cells (arrOf 32 (fun _ => .int .u8 0)) 26)
 have hH0:=hH.alloc (.cells (arrOf 32 (fun _ => .int .u8 0)) 26)
 have hg0 : 0 < w.heap.size:=hK.lt
 generalize w.alloc (.cells (arrOf 32 (fun _ => .int .u8 0)) 26) = w1 at *
 generalize hgr : w.heap.size = gR at *
 have HGR:=veil hgr
 clear hgr hK hH
 go_wp2_with fail
 refine (clone_calls g L b w1 hH0).mono ?_
 rintro e w2 ⟨rfl,hC,hb2⟩
 have hR2:=zad hR0 hb2 hR0.lt
 have hK2:=hK0.call hb2
 have hH2:=hH0.call hb2
 have hB2:=hb0.trans (hb2.mono (Nat.le_of_lt hR0.lt))
 have hgC : gR < w1.heap.size:=hR0.lt
 have hz2:=hC.lt
 generalize w1.heap.size = gC at *
 have cL:=hH2.len
 clear hR0 hK0 hH0 hb0 hb2
 go_wp2_with fail
 refine (padding_calls L (by omega) w2).mono ?_
 rintro e w3 ⟨rfl,hP,hb3⟩
 have hC3:=hC.call hb3
 have hK3:=hK2.call hb3
 have hR3:=zad hR2 hb3 hR2.lt
 have hB3:=hB2.trans (hb3.mono (by omega))
 have hS3 : Src w3 (some ⟨w2.heap.size,0,none⟩) (padN L) (padB L) gC:=.inr ⟨_,0,rfl,hP.lt,by omega,fun j hj => by rw [Nat.zero_add]; exact hP.cell hj⟩
 clear hC hK2 hR2 hB2 hb3 cL hH2 hP
 go_wp2_with fail
 refine (zfp gC b L _ (padN L) (padN L) (padB L) (padB_lt L) (Nat.le_refl _) (by have:=padN_eq L; omega) (by omega) w3 hK3 hC3 hS3).mono ?_
 rintro e w4 ⟨rfl,⟨s,blk,hok,hrow⟩,hb4⟩
 have hR4:=zew hR3 hb4 (by omega)
 have hB4:=hB3.trans (But.new hb4 (B:=gR) (by omega) (by have:=hR3.lt; omega))
 obtain rfl:=shaSt_of hok
 clear hR3 hB3 hS3 hC3 hK3 hb4 hok
 obtain ⟨sh,hsh⟩ : ∃ sh,sh = shaSt b L:=⟨_,rfl⟩
 rw [← hsh] at hrow
 have HSH:=veil hsh
 clear hsh
 have hlt4 : gR < w4.heap.size:=hR4.lt
 go_upto_region 4 with (fail)
 rw [zeros32]
 have hO5 : (w4.alloc (.cells (arrOf 32 (fun _ => .int .u8 0)) 26)).rowIs w4.heap.size 26 32 (fun _ => .int .u8 0):=zcm w4 32 26 _ rfl
 have hR5:=hR4.alloc (.cells (arrOf 32 (fun _ => .int .u8 0)) 26)
 have hB5:=hB4.alloc (by omega) (.cells (arrOf 32 (fun _ => .int .u8 0)) 26)
 have hw5:=veil (hrow.alloc (.cells (arrOf 32 (fun _ => .int .u8 0)) 26)).words
 generalize w4.alloc (.cells (arrOf 32 (fun _ => .int .u8 0)) 26) = w5 at *
 generalize hgo : w4.heap.size = gO at *
 have hgRO : gR < gO:=by omega
 clear hrow hR4 hB4 hgo
 have kx : ∀ j : Nat,j < 8 → ∀ W,(Instr.index 115 (.agg (stArr sh)) (.int .i64 (j : Int))).run Tryz.prog W = .ok (.int .u32 (sh.at j : Nat)) W:=fun j hj W =>
  zem (P:=Tryz.prog) (t:=115) (v:=.int .u32 (sh.at j : Nat)) Tryz.underlying115 (by kernel_rfl) (fun W => run_part_plain (P:=Tryz.prog) W (e:=114) (by kernel_rfl) (off:=j) (zcu (n:=8) (fun i => .int .u32 (sh.at i : Nat)) hj)) hj .i64 W
 have KX:=veil kx
 have HSL:=veil (stList sh)
 clear kx
 go_wp2_with ((with_reducible refine zbk 20 ?_); refine wpList_load_mid rfl 115 _ rfl gC 0 rfl _ _ hw5.out Tryz.underlying115 rfl (by simpa using infoS) ?_; rw [HSL.out]; generalize hSA : stArr sh = SA at *; have HSA:=veil hSA; clear hSA)
 clear hw5
 go_loopw [21] (fun v wr => ∃ i : Nat,i ≤ 8 ∧ v = .int .i64 (i : Int) ∧ wr.rowIs gO 26 32 (fun p => .int .u8 ((if p < 4 * i then dByte sh p else 0 : Nat) : Int)) ∧ wr.rowIs gR 26 32 (fun _ => .int .u8 0) ∧ Below gR w wr)
  (fun v _ => 8 - (intOf v).toNat)
 case atStart => exact ⟨0,by omega,rfl,hO5,hR5,hB5⟩
 case round =>
  obtain ⟨i,hi,rfl,hO,hR,hB⟩:=hrel
  by_cases hlt : i < 8
  ·
   have ki:=KX.out i hlt
   obtain ⟨x,hx⟩ : ∃ x,x = sh.at i:=⟨_,rfl⟩
   rw [← hx] at ki
   have HX:=veil hx
   have hd : decide ((i : Int) < 8) = true:=by simp; omega
   clear hx
   go_wp2
   go_loopw [25] (fun v wr => ∃ j : Nat,j ≤ 4 ∧ v = .int .i64 (j : Int) ∧ wr.rowIs gO 26 32 (fun p => .int .u8 ((if p < 4 * i + j then dByte sh p else 0 : Nat) : Int)) ∧ wr.rowIs gR 26 32 (fun _ => .int .u8 0) ∧ Below gR w wr)
    (fun v _ => 4 - (intOf v).toNat)
   case atStart => exact ⟨0,by omega,rfl,hO,hR,hB⟩
   case round =>
    obtain ⟨j,hj,rfl,hO,hR,hB⟩:=hrel
    by_cases hlj : j < 4
    ·
     obtain ⟨p,hp⟩ : ∃ p,p = 4 * i + j:=⟨_,rfl⟩
     have hp32 : p < 32:=by omega
     have hpi : (i : Int) * 4 + (j : Int) = (p : Int):=by omega
     have c0:=hO.cell hp32
     have f0:=hO.frozen p
     have HP:=veil hp
     clear hp
     go_wp2
     go_roundw
     case rel =>
      refine ⟨j + 1,by omega,by go_num,(hO.set p _).congr fun q hq => ?_,zba hR (by omega) _,zav hB (by omega) _⟩
      have hp:=HP.out
      by_cases h : q = p
      ·
       rw [if_pos h,if_pos (by omega),byte_shift]
       unfold dByte
       rw [show q / 4 = i by omega,show 3 - q % 4 = 3 - j by omega,← HX.out]
      ·
       rw [if_neg h]
       by_cases h2 : q < 4 * i + j
       ·
        rw [if_pos h2,if_pos (by omega)]
       ·
        rw [if_neg h2,if_neg (by omega)]
     case measure => simp [intOf]; omega
    ·
     have e4 : j = 4:=by omega
     have hjf : decide ((j : Int) < 4) = false:=by simp; omega
     have hO : wr.rowIs gO 26 32 (fun p => .int .u8 ((if p < 4 * (i + 1) then dByte sh p else 0 : Nat) : Int)):=hO.congr fun p _ => by rw [e4,show 4 * (i + 1) = 4 * i + 4 by omega]
     clear e4 hlj hj
     go_wp2
     go_roundw
     case rel => exact ⟨i + 1,by omega,by go_num,hO,hR,hB⟩
     case measure => simp [intOf]; omega
  ·
   have e8 : i = 8:=by omega
   have hif : decide ((i : Int) < 8) = false:=by simp; omega
   have hO : wr.rowIs gO 26 32 (fun p => .int .u8 (dByte sh p : Nat)):=hO.congr fun p hp => by rw [if_pos (by omega)]
   have HA:=veil (blkOf hO)
   have HN:=veil (blkOf hR)
   obtain ⟨D,hD⟩ : ∃ D,D = arrOf 32 (fun p => .int .u8 (dByte sh p : Nat)):=⟨_,rfl⟩
   rw [← hD] at HA
   have hs : D.size = 32:=by rw [hD,zay]
   have h1 : D.all (·.oneCell') = true:=by rw [hD]; exact zcj fun _ _ => rfl
   have HZ:=veil (And.intro hs (And.intro h1 (show (Tryz.prog.info? 26).map (·.size) = some D.size by rw [hs]; exact infoD)))
   have HD:=veil (show D = dgst b L by rw [hD,HSH.out]; rfl)
   clear hs h1 hD e8 hlt hi hO hR
   go_wp2_with (first
    | ((with_reducible refine zbk 41 ?_); refine wpList_load_row rfl 26 _ rfl gO rfl 26 D (0,0) _ HA.out Tryz.underlying26 rfl HZ.out.2.2 ?_)
    | ((with_reducible refine zbw ?_); refine wpList_store_row rfl 26 _ _ rfl gR D rfl rfl 26 _ HN.out HZ.out.2.2 (by rw [HZ.out.1,zay]) HZ.out.2.1 ?_))
   exact bodyPost_ret (results_cell_row rfl _ _ gR 26 D (0,0) _ rfl (setRow_heap wr gR _ D 26 (0,0) HN.out) Tryz.underlying26 rfl HZ.out.2.2) rfl ⟨by rw [HD.out],by rw [HGR.out]; exact zbr hB (Nat.le_refl _) _⟩
theorem zcr (b : Nat → Nat) (n : Nat) : (dgst b n).size = 32:=zay _ _
theorem Src.at {w : World} {A : Option Addr} {n g g' : Nat} {y : Nat → Nat} (h : Src w A n y g) (hg : w.heap.size ≤ g') : Src w A n y g':=by
 rcases h with h | ⟨b,o,ha,hlt,_,hc⟩
 ·
  exact .inl h
 ·
  exact .inr ⟨b,o,ha,hlt,by omega,hc⟩
theorem zhg (b y : Nat → Nat) : cat b 0 y = y:=by funext i; unfold cat; rw [if_neg (by omega),Nat.sub_zero]
theorem sum_calls (A : Option Addr) (n c : Nat) (y : Nat → Nat) (hy : ∀ j,y j < 256) (hnc : n ≤ c) (hn : n ≤ 1048576) (w : World) (hK : KT w) (hS : Src w A n y w.heap.size) :
  Calls Tryz.prog 13 #[.slice A n c] w fun e w' => e = .returned (.agg (dgst y n)) ∧ Below w.heap.size w w':=by
 have hS0:=hS.at (Nat.le_refl w.heap.size)
 go_enter Tryz.func13,Tryz.ntmps13
 go_upto_region 1 with (fail)
 rw [zeros32]
 have hR0 : (w.alloc (.cells (arrOf 32 (fun _ => .int .u8 0)) 26)).rowIs w.heap.size 26 32 (fun _ => .int .u8 0):=zcm w 32 26 _ rfl
 have hb0 : Below w.heap.size w (w.alloc (.cells (arrOf 32 (fun _ => .int .u8 0)) 26)):=(Below.refl _ _).alloc (Nat.le_refl _) _
 have hK0:=hK.alloc (.cells (arrOf 32 (fun _ => .int .u8 0)) 26)
 have hg0 : 0 < w.heap.size:=hK.lt
 have hS1:=(hS.at (g':=w.heap.size + 1) (by omega)).below hb0
 have hsz : (w.alloc (.cells (arrOf 32 (fun _ => .int .u8 0)) 26)).heap.size = w.heap.size + 1:=by simp
 generalize w.alloc (.cells (arrOf 32 (fun _ => .int .u8 0)) 26) = w1 at *
 generalize hgr : w.heap.size = gR at *
 have HGR:=veil hgr
 have HY:=veil hy
 clear hgr hK hS hS0 hy
 go_wp2_with fail
 refine (new_calls w1).mono ?_
 rintro e w2 ⟨rfl,hC,hb2⟩
 have hR2:=zad hR0 hb2 hR0.lt
 have hK2:=hK0.call hb2
 have hB2:=hb0.trans (hb2.mono (by omega))
 have hS2:=hS1.below hb2
 rw [hsz] at hC ⊢
 have HC:=veil (hC (fun _ => 0))
 clear hR0 hK0 hb0 hb2 hS1 hC hsz
 go_wp2_with fail
 refine (zfp (gR + 1) (fun _ => 0) 0 A n c y HY.out hnc (by omega) (by omega) w2 hK2 HC.out hS2).mono ?_
 rintro e w3 ⟨rfl,hH3,hb3⟩
 rw [Nat.zero_add,zhg] at hH3
 have hR3:=zew hR2 hb3 (by omega)
 have hK3:=hK2.grown hb3 (by omega)
 have hB3:=hB2.trans (But.new hb3 (B:=gR) (by omega) (by have:=hR2.lt; omega))
 clear hR2 hK2 hB2 hS2 HC hb3
 go_wp2_with fail
 refine (hsum_calls (gR + 1) n y hn w3 hK3 hH3).mono ?_
 rintro e w4 ⟨rfl,hb4⟩
 have hR4:=zad hR3 hb4 hR3.lt
 have hB4:=hB3.trans (hb4.mono (by have:=hR3.lt; omega))
 have HN:=veil (blkOf hR4)
 have HZ:=veil (And.intro (zcr y n) (And.intro (show (dgst y n).all (·.oneCell') = true from zcj fun _ _ => rfl) (show (Tryz.prog.info? 26).map (·.size) = some (dgst y n).size by rw [zcr]; exact infoD)))
 obtain ⟨D,hD⟩ : ∃ D,D = dgst y n:=⟨_,rfl⟩
 rw [← hD] at HZ ⊢
 have HD:=veil hD
 clear hR3 hK3 hB3 hH3 hb4 hR4 hD
 go_wp2_with ((with_reducible refine zbw ?_); refine wpList_store_row rfl 26 _ _ rfl gR D rfl rfl 26 _ HN.out HZ.out.2.2 (by rw [HZ.out.1,zay]) HZ.out.2.1 ?_)
 exact bodyPost_ret (results_cell_row rfl _ _ gR 26 D (0,0) _ rfl (setRow_heap w4 gR _ D 26 (0,0) HN.out) Tryz.underlying26 rfl HZ.out.2.2) rfl ⟨by rw [HD.out],by rw [HGR.out]; exact zbr hB4 (Nat.le_refl _) _⟩
def Own (w : World) (base e : Nat) (v : Value) (n : Nat) (f : Nat → Value) : Prop:=w.ownsRow base e 1 v n ((List.range n).map f)
section
variable {w w' : World} {base e n : Nat} {v : Value} {f h : Nat → Value}
theorem Own.congr (o : Own w base e v n f) (hf : ∀ i,i < n → f i = h i) : Own w base e v n h:=by
 unfold Own at *
 have : (List.range n).map f = (List.range n).map h:=List.map_congr_left fun i hi => hf i (by simpa using hi)
 rw [← this]; exact o
theorem Own.nil (w : World) (base e : Nat) (f : Nat → Value) : Own w base e (.slice none 0 0) 0 f:=World.ownsRow_nil _ _ _ _
theorem Own.made (w : World) {cs : Array Value} {base : Nat} (hb : base ≤ w.heap.size) (hm : cs.size ≤ maxLen) (hf : ∀ i,i < cs.size → cs[i]? = some (f i)) :
  Own (w.alloc (.cells cs e)) base e (.slice (some ⟨w.heap.size,0,none⟩) cs.size cs.size) cs.size f:=by
 refine ⟨by simp,.inr ⟨w.heap.size,cs.size,cs,rfl,hb,heap_alloc_new w _,Nat.le_refl _,hm,by simp,?_⟩⟩
 rw [Nat.mul_one,List.take_of_length_le (by simp)]
 apply List.ext_getElem?
 intro i
 by_cases hi : i < cs.size
 ·
  simp [hi]; have:=hf i hi; simpa [hi] using this
 ·
  simp [hi]
theorem Own.alloc (o : Own w base e v n f) (ob : Obj) : Own (w.alloc ob) base e v n f:=World.ownsRow.alloc o ob
theorem Own.drew (o : Own w base e v n f) : Own w.drew base e v n f:=o
theorem Own.drewN (o : Own w base e v n f) (k : Nat) : Own (w.drewN k) base e v n f:=o
theorem Own.lt (o : Own w base e v n f) {k : Nat} (hk : v.ownBlock = some k) : base ≤ k ∧ k < w.heap.size:=World.ownsRow.lt o k hk
theorem Own.kept {row : Option Nat} (o : Own w base e v n f) (hg : w.grownBy w' row) (hne : v.ownBlock = none ∨ v.ownBlock ≠ row) : Own w' base e v n f:=World.ownsRow.kept o hg hne
theorem Own.below {B : Nat} (o : Own w base e v n f) (hb : Below B w w') (hB : w.heap.size ≤ B) : Own w' base e v n f:=by
 refine ⟨o.1,?_⟩
 rcases o.2 with hn | ⟨g,cap,cur,rfl,hbg,hh,rest⟩
 ·
  exact .inl hn
 ·
  exact .inr ⟨g,cap,cur,rfl,hbg,(hb.block g (by have:=(Array.getElem?_eq_some_iff.1 hh).1; omega)).trans hh,rest⟩
theorem Own.base_le {base' : Nat} (o : Own w base e v n f) (hb : base' ≤ base) : Own w base' e v n f :=
 ⟨o.1,o.2.elim .inl fun ⟨g,cap,cur,hv,hg,r⟩ => .inr ⟨g,cap,cur,hv,Nat.le_trans hb hg,r⟩⟩
theorem Own.pre (o : Own w base e v n f) (hn : 0 < n) : ∃ g cap,v = .slice (some ⟨g,0,none⟩) n cap ∧ n ≤ cap ∧ base ≤ g ∧ Pre w g e n f:=Pre.of_own o hn
end
def From (w : World) (A : Option Addr) (m : Nat) (y : Nat → Value) : Prop:=m = 0 ∨ ∃ ad,A = some ad ∧ ∀ j,j < m → w.cell? (ad.add j) = some (y j)
theorem own_append {P : Program} (w : World) (base t ty e : Nat) (i : TypeInfo) (z : Value) (bytes : Nat) (ht : P.underlying t = some (.slice e)) (hi : P.info? e = some i) (hz : i.zero = some z) (hsize : i.size = 1) (hby : i.bytes = bytes) (hzs : z.cells.size = 1)
  (v : Value) (n : Nat) (f : Nat → Value) (hown : Own w base e v n f) (A : Option Addr) (m c : Nat) (y : Nat → Value) (hs : From w A m y) (h1 : ∀ j,(y j).oneCell' = true)
  (h63 : n + m ≤ maxLen) (hbytes : (n + m) * bytes ≤ 140737488355328) (hbase : base ≤ w.heap.size) :
  ∃ v' w',(Builtin.append_ #[t,t] ty #[v,.slice A m c]).run P w = .ok v' w' ∧ Own w' base e v' (n + m) (fun j => if j < n then f j else y (j - n)) ∧ w.grownBy w' v.ownBlock ∧ (v'.ownBlock = v.ownBlock ∨ v'.ownBlock = some w.heap.size) ∧ (∀ g,v.ownBlock = some g → ∀ j,j < n → w'.cell? ⟨g,j,none⟩ = w.cell? ⟨g,j,none⟩):=by
 have hl : (List.range n).map f ++ (List.range m).map y = (List.range (n + m)).map (fun j => if j < n then f j else y (j - n)):=by
  apply List.ext_getElem?
  intro k
  by_cases h1 : k < n
  ·
   rw [List.getElem?_append_left (by simpa using h1)]; simp [h1,show k < n + m by omega]
  ·
   rw [List.getElem?_append_right (by simpa using Nat.le_of_not_lt h1)]
   by_cases h2 : k < n + m
   ·
    simp [h1,h2,show k - n < m by omega]
   ·
    simp [h2,show ¬ k - n < m by omega]
 rcases A with _ | ad
 ·
  have hm : m = 0:=by
   rcases hs with h | ⟨ad,h,_⟩
   ·
    exact h
   ·
    cases h
  subst hm
  refine ⟨v,w,?_,hown.congr fun j hj => (if_pos hj).symm,World.grownBy.refl w _,.inl rfl,fun _ _ _ _ => rfl⟩
  rcases hown.2 with ⟨rfl,rfl⟩ | ⟨g,cap,cur,rfl,_,_,hnc,_⟩
  ·
   simp [Builtin.append_,run_underlying ht,sizeOf,typeInfo,hi,Builtin.lenOf,Builtin.firstCells]
  ·
   simp [Builtin.append_,run_underlying ht,sizeOf,typeInfo,hi,Builtin.lenOf,Builtin.firstCells,hnc,storeCells]
 ·
  have hc : ∀ j,j < m → w.cell? (ad.add j) = some (y j):=by
   rcases hs with h | ⟨ad',h,hc⟩
   ·
    intro j hj; omega
   ·
    cases h; exact hc
  obtain ⟨v',w',hr,h2,h3,_,h5⟩:=run_append_own_at (P:=P) w base t ty e i z 1 bytes ht hi hz hsize hby hzs (by omega) v n _ hown ad m c ((List.range m).map y) (by simp) (fun j u hu => by
   have hj : j < m:=by have:=(List.getElem?_eq_some_iff.1 hu).1; simpa using this
   rw [hc j hj,← hu]; simp [hj]) (fun u hu => by simp at hu; obtain ⟨j,_,rfl⟩:=hu; exact h1 j) h63 hbytes hbase
  rw [hl] at h2
  refine ⟨v',w',hr,h2,h3,h5,fun g hg j hj => ?_⟩
  have cellAt : ∀ (b k : Nat),(⟨b,0,none⟩ : Addr).add k = ⟨b,k,none⟩:=fun b k => by rw [Addr.add_mid,Nat.zero_add]
  rcases hown.2 with ⟨rfl,_⟩ | ⟨g',cap,cur,rfl,hbg,hgc,hnc,hcm,hcs,htake⟩
  ·
   simp [Value.ownBlock] at hg
  ·
   obtain rfl : g' = g:=by simpa [Value.ownBlock] using hg
   have hold : w.cell? ⟨g',j,none⟩ = some (f j):=by
    rw [← cellAt g' j]
    exact hown.cells (g:=g') rfl j _ (by simp [hj])
   by_cases hroom : n + m ≤ cap
   ·
    have hr2:=run_append_room (P:=P) w t ty e i ht hi g' n cap cur hgc ad m c ((List.range m).map y) (by simp [hsize]) (fun j u hu => by
     have hj : j < m:=by have:=(List.getElem?_eq_some_iff.1 hu).1; simpa using this
     rw [hc j hj,← hu]; simp [hj]) (fun u hu => by simp at hu; obtain ⟨j,_,rfl⟩:=hu; exact h1 j) hroom (by rw [hsize]; simp; omega)
    rw [hr] at hr2
    injection hr2 with hv _
    rw [hold]
    rw [← cellAt g' j]
    rw [World.ownsRow.cells (g:=g') h2 (by rw [hv]; rfl) j (f j) (by simp [hj,show j < n + m by omega])]
   ·
    have hr2:=run_append_grow (P:=P) w t ty e i z ht hi hz ⟨g',0,none⟩ n cap ((List.range n).map f) (by simp [hsize]) (fun j u hu => hown.cells (g:=g') rfl j u hu) ad m c ((List.range m).map y) (by simp [hsize]) (fun j u hu => by
     have hj : j < m:=by have:=(List.getElem?_eq_some_iff.1 hu).1; simpa using this
     rw [hc j hj,← hu]; simp [hj]) (by omega) (by simp only [maxLen] at h63; omega) (growslice_fits (by omega) (by rw [hby]; exact hbytes))
    rw [hr] at hr2
    injection hr2 with _ hw
    rw [hw]
    exact World.cell?_of_block (w:=w) (a:=⟨g',j,none⟩) (Below.heap_alloc w.drew _ g' (Array.getElem?_eq_some_iff.1 hgc).1)
theorem zdr {P : Program} (w : World) {ops : Array Oper} {rest : List Oper} {o : Oper} {a : Act} {Q : Exit → Act → World → Prop} (hgd : o.guard = none) (s x : Operand) (t : TypeId)
  (ho : o.op = .call { callee:=.builtin .append,args:=#[s,x],argTypes:=#[t,t] })
  (base e : Nat) (i : TypeInfo) (z : Value) (bytes : Nat) (ht : P.underlying t = some (.slice e)) (hi : P.info? e = some i) (hz : i.zero = some z) (hsize : i.size = 1) (hby : i.bytes = bytes) (hzs : z.cells.size = 1)
  (v : Value) (n : Nat) (f : Nat → Value) (hs : a.eval s = v) (hown : Own w base e v n f) (A : Option Addr) (m c : Nat) (hx : a.eval x = .slice A m c) (y : Nat → Value) (hsr : From w A m y) (h1 : ∀ j,(y j).oneCell' = true)
  (h63 : n + m ≤ maxLen) (hbytes : (n + m) * bytes ≤ 140737488355328) (hbase : base ≤ w.heap.size)
  (h : ∀ v' w',Own w' base e v' (n + m) (fun j => if j < n then f j else y (j - n)) → w.grownBy w' v.ownBlock → (v'.ownBlock = v.ownBlock ∨ v'.ownBlock = some w.heap.size) → wpList P ops Q rest (a.put o.dst v') w') : wpList P ops Q (o :: rest) a w:=by
 refine wpList_plain hgd fun K hK => ?_
 obtain ⟨v',w',hr,h2,h3,h5,_⟩:=own_append (P:=P) w base t o.type e i z bytes ht hi hz hsize hby hzs v n f hown A m c y hsr h1 h63 hbytes hbase
 unfold Oper.wp execOp
 simp only [ho,resolve,invoke,builtin,Sem.run_bind,Sem.run_pure,Result.andThen_ok,List.map_toArray,List.map_cons,List.map_nil,hs,hx,hr]
 exact hK _ _ (h v' w' h2 h3 h5)
theorem zes {B : Nat} {a w w' : World} {row : Option Nat} (h : Below B a w) (hg : w.grownBy w' row) (hB : B ≤ w.heap.size) (hr : ∀ k,row = some k → B ≤ k) : Below B a w':=h.grown hg hB hr
section
variable {w wr w' : World} {gR gT gH gK N : Nat} {tx : Nat → Value} {st st' : Nat → Value}
end
def hst (s : St) : Nat → Value:=fun j => .int .u32 (s.at j : Nat)
theorem wrap8 (n : Int) : IntKind.u8.wrap n = n % 256:=by simp [IntKind.wrap,IntKind.signed,IntKind.bits]
theorem xor8 (a b : Nat) (ha : a < 256) (hb : b < 256) : bits .xor .u8 (a : Int) (b : Int) = ((a ^^^ b : Nat) : Int):=by
 have hx : a ^^^ b < 2 ^ 8:=Nat.xor_lt_two_pow (by omega) (by omega)
 have e1 : (BitVec.ofInt 8 (a : Int)).toNat = a:=by rw [BitVec.ofInt_natCast,BitVec.toNat_ofNat]; exact Nat.mod_eq_of_lt (by omega)
 have e2 : (BitVec.ofInt 8 (b : Int)).toNat = b:=by rw [BitVec.ofInt_natCast,BitVec.toNat_ofNat]; exact Nat.mod_eq_of_lt (by omega)
 show IntKind.u8.wrap ((BitVec.ofInt 8 (a : Int) ^^^ BitVec.ofInt 8 (b : Int)).toNat : Int) = _
 rw [BitVec.toNat_xor,e1,e2,wrap8]
 omega
theorem xor8_lt {a b : Nat} (ha : a < 256) (hb : b < 256) : a ^^^ b < 256:=Nat.xor_lt_two_pow (n:=8) (by omega) (by omega)
def upTo (y : Nat → Nat) (n j : Nat) : Nat:=if j < n then y j else 0
def kb (y : Nat → Nat) (n : Nat) : Nat → Nat:=if n > 64 then upTo (fun j => dByte (shaSt y n) j) 32 else upTo y n
theorem upTo_lt {y : Nat → Nat} (hy : ∀ j,y j < 256) (n j : Nat) : upTo y n j < 256:=by
 unfold upTo
 split
 ·
  exact hy j
 ·
  omega
theorem ziu (s : St) (i : Nat) : dByte s i < 256:=Nat.mod_lt _ (by omega)
theorem kb_lt {y : Nat → Nat} (hy : ∀ j,y j < 256) (n j : Nat) : kb y n j < 256:=by
 unfold kb
 split
 ·
  exact upTo_lt (fun j => ziu _ j) _ _
 ·
  exact upTo_lt hy _ _
def kx (k : Nat → Nat) (x : Nat) (j : Nat) : Value:=.int .u8 ((k j ^^^ x : Nat) : Int)
end Go.Proofs.YtmfjigcdhijkjaaGreatDoor
namespace Go.Proofs.YtmfjigcdhijkjaaGreatDoor
open Go.ChangeShapes Go.WideShapes Go.ChangeAt Go.RowKit
theorem own : ownKnob Tryz.prog.godebug = none:=by kernel_rfl
def laidL : List (String × DataW Unit):=[("clapper/sha.roundWords",Rows.laid_clapper_sha_roundWords)]
theorem gRound : Tryz.prog.globalNamed "clapper/sha.roundWords" = some 0:=by kernel_rfl
theorem tRound : (Tryz.prog.globals[0]?).map (·.type) = some 134:=by kernel_rfl
theorem cellsU32 : Tryz.prog.cellsOf 114 = 1:=by kernel_rfl
theorem laid_list : Rows.laid_clapper_sha_roundWords (H:=Unit) = .agg (kList.map fun (k : Nat) => (.lit (.int .u32 (k : Int)) : DataW Unit)):=rfl
theorem kc_get {j : Nat} (hj : j < 64) : kList[j]? = some (kc j):=by
 have hl : kList.length = 64:=by decide
 unfold kc
 simp [List.getD,hl,hj]
theorem kt_of_laid {W : World} (h : laidMetH Tryz.prog laidL W) : KT W:=by
 unfold laidL at h
 rw [MakeChecks.laidMetH_plain _ _ _ (by kernel_rfl)] at h
 obtain ⟨ps,⟨g0,t0,cs0,f0,p0,q0,hg0,ht0,hv0,hd0,_⟩,_,_⟩:=h
 obtain rfl:=Option.some.inj (gRound.symm.trans hg0)
 obtain rfl:=Option.some.inj (tRound.symm.trans ht0)
 obtain ⟨xs,m1,rfl,hx1,hlen,hn,hel⟩:=DataW.trod_array Tryz.underlying134 hd0
 have hx2 : xs.map (·.1) = kList.map fun (k : Nat) => (.lit (.int .u32 (k : Int)) : DataW Unit):=by
  rw [laid_list] at hx1
  simp only [Prod.mk.injEq,DataW.agg.injEq] at hx1
  exact hx1.1.symm
 have cell : ∀ j,j < 64 → W.cell? ⟨0,j,none⟩ = some (.int .u32 (kc j : Nat)):=fun j hj => by
  have h1:=hel j hj
  rw [cellsU32,Nat.mul_one] at h1
  obtain ⟨x,hx⟩ : ∃ x,xs[j]? = some x:=⟨xs[j],by rw [List.getElem?_eq_getElem]⟩
  rw [hx] at h1
  obtain ⟨k,e1,e2,_⟩:=DataW.trod_int Tryz.underlying114 h1
  have h3 : (xs.map (·.1))[j]? = some (.lit (.int .u32 k)):=by simp [hx,e2]
  rw [hx2] at h3
  simp only [List.getElem?_map,kc_get hj,Option.map_some,Option.some.injEq,DataW.lit.injEq,Lit.int.injEq,true_and] at h3
  have h4 : cs0.toList[j]? = some (.int .u32 k):=by
   have : ((cs0.toList.drop j).take 1)[0]? = some (.int .u32 k):=by rw [e1]; rfl
   simpa [List.getElem?_take,List.getElem?_drop] using this
  have h5:=World.var?_cell hg0 hv0 j
  rw [h5,h3]
  simpa using h4
 exact ⟨World.block_lt_of_cell? W _ (cell 0 (by decide)),cell⟩
theorem door_met (os : Os) (args : Array Value) : laidMetH Tryz.prog laidL ((World.doorLaid Tryz.prog 14 os).forCall (fun _ _ => 0) ⟨#[],args,[]⟩).memory :=
 laidMetH_of_parts3 (fuel:=8) (laidMet_of_run' 8 (by kernel_rfl) (by kernel_rfl)) (by kernel_rfl) (by kernel_rfl)
end Go.Proofs.YtmfjigcdhijkjaaGreatDoor
namespace Go.Proofs.YtmfjigcdhijkjaaGreatDoor
open Go.ChangeShapes Go.WideShapes Go.ChangeAt Go.RowKit
/-! ### a text -/
/-! ### '==' between sums -/
/-! ### slices cut anywhere -/
theorem src_now {w wr : World} {A : Option Addr} {n g : Nat} {y : Nat → Nat} (h : Src w A n y w.heap.size) (hb : Below w.heap.size w wr) (hg : w.heap.size ≤ g) : Src wr A n y g:=(h.at hg).below hb
theorem from_now {w wr : World} {A : Option Addr} {n : Nat} {y : Nat → Nat} (h : Src w A n y w.heap.size) (hb : Below w.heap.size w wr) : From wr A n (fun j => .int .u8 (y j : Nat)):=by
 rcases h.below hb with h | ⟨b,o,rfl,_,_,hc⟩
 ·
  exact .inl h
 ·
  exact .inr ⟨_,rfl,fun j hj => by rw [Addr.add_mid]; exact hc j hj⟩
theorem zhw {w wr : World} (h : KT w) (hb : Below w.heap.size w wr) : KT wr:=h.call hb
theorem but_below {w w1 w2 : World} {r : Nat} (h : Below w.heap.size w w1) (hb : But r w1 w2) (hr : w.heap.size ≤ r) : Below w.heap.size w w2:=h.trans (But.new hb hr h.size)
theorem Own.but {w w' : World} {base e n r : Nat} {v : Value} {f : Nat → Value} (o : Own w base e v n f) (hb : But r w w') (hr : r < base) : Own w' base e v n f :=
 o.kept hb (by
  cases h : v.ownBlock with
  | none => exact .inl rfl
  | some k => exact .inr (fun e => by have:=(o.lt h).1; simp at e; omega))
theorem Own.call {w w' : World} {base e n : Nat} {v : Value} {f : Nat → Value} (o : Own w base e v n f) (hb : Below w.heap.size w w') : Own w' base e v n f:=o.below hb (Nat.le_refl _)
theorem HashIs.grown {w w' : World} {g L : Nat} {b : Nat → Nat} {row : Option Nat} (h : HashIs w g b L) (hg : w.grownBy w' row) (hne : some g ≠ row) : HashIs w' g b L:=h.of_block (hg.block g h.lt hne)
theorem cat_lt {y0 y1 : Nat → Nat} {n : Nat} (h0 : ∀ j,y0 j < 256) (h1 : ∀ j,y1 j < 256) (j : Nat) : cat y0 n y1 j < 256:=by
 unfold cat
 split
 ·
  exact h0 j
 ·
  exact h1 _
/-! ### arguments -/
theorem laidOut : laidOutB Tryz.prog = true:=by kernel_rfl
end Go.Proofs.YtmfjigcdhijkjaaGreatDoor
namespace Go.Proofs.YtmfjigcdhijkjaaGreatDoor
open Go.RowKit
open Go.Act renaming put → aP
open List renaming setIfInBounds_toArray → lA, set_cons_zero → lZ, set_cons_succ → lS
structure Parts3 (W : World) (AL : Option Addr) (nl : Nat) (A : Nat → Option Addr) (L C : Nat → Nat) (Y : Nat → Nat → Nat) : Prop where
 row : nl = 0 ∨ ∃ b o,AL = some ⟨b,o,none⟩ ∧ b < W.heap.size ∧ ∀ r,r < nl → W.cell? ⟨b,o + r,none⟩ = some (.slice (A r) (L r) (C r))
 src : ∀ r,r < nl → Src W (A r) (L r) (Y r) W.heap.size
 cap : ∀ r,r < nl → L r ≤ C r
 lt : ∀ r j,Y r j < 256
def lenN (L : Nat → Nat) : Nat → Nat
 | 0 => 0
 | i + 1 => lenN L i + L i
def textN (L : Nat → Nat) (Y : Nat → Nat → Nat) : Nat → Nat → Nat
 | 0 => fun _ => 0
 | i + 1 => cat (textN L Y i) (lenN L i) (Y i)
section
open Go.ChangeShapes Go.WideShapes Go.ChangeAt
end
end Go.Proofs.YtmfjigcdhijkjaaGreatDoor
namespace Go.Proofs.YtmfjigcdhijkjaaGreatDoor
open Go.RowKit
open Go.Act renaming put → aP
open List renaming setIfInBounds_toArray → lA, set_cons_zero → lZ, set_cons_succ → lS
def macIn (y : Nat → Nat) (n : Nat) (t : Nat → Nat) : Nat → Nat:=cat (fun j => kb y n j ^^^ 54) 64 t
def macOut (y : Nat → Nat) (n : Nat) (t : Nat → Nat) (m : Nat) : Nat → Nat:=cat (fun j => kb y n j ^^^ 92) 64 (fun j => dByte (shaSt (macIn y n t) (64 + m)) j)
def macD (y : Nat → Nat) (n : Nat) (t : Nat → Nat) (m : Nat) : Array Value:=dgst (macOut y n t m) 96
/-! ### steps of a region that draws its order -/
def nb (k : Nat → Nat) (n : Nat) (t : Nat → Nat) (m : Nat) : Nat → Nat:=fun j => dByte (shaSt (macOut k n t m) 96) j
theorem nb_lt (k : Nat → Nat) (n : Nat) (t : Nat → Nat) (m j : Nat) : nb k n t m j < 256:=Nat.mod_lt _ (by decide)
theorem macD_nb (k : Nat → Nat) (n : Nat) (t : Nat → Nat) (m : Nat) : macD k n t m = arrOf 32 (fun i => .int .u8 (nb k n t m i : Nat)):=rfl
theorem infoInt : (Tryz.prog.info? 3).map (fun i => (i.zero,i.size,i.bytes)) = some (some (.int .i64 0),1,8):=by kernel_rfl
def ptv (X j : Nat) : Value:=.int .i64 (pt X j)
theorem ptL_succ (X m : Nat) : (List.range (m + 1)).map (ptv X) = (List.range m).map (ptv X) ++ [.int .i64 (pt X m)]:=by
 rw [List.range_succ,List.map_append]; rfl
theorem parts_any (X : Nat) (w : World) :
  Calls Tryz.prog 61 #[.agg #[.int .u64 (wd X 0),.int .u64 (wd X 1),.int .u64 (wd X 2),.int .u64 (wd X 3)]] w fun e w' => ∃ v,e = .returned v ∧ w'.ownsRow (w.heap.size + 1) 3 1 v 16 ((List.range 16).map (ptv X)) ∧ Below w.heap.size w w':=by
 obtain ⟨i0,hi,hz0,hz1,hz2⟩:=info_parts infoInt
 go_enter Tryz.func61,Tryz.ntmps61
 go_wp2
 go_loopw [3,4] (fun v i wr => ∃ k : Nat,k ≤ 4 ∧ i = .int .i64 k ∧ wr.ownsRow (w.heap.size + 1) 3 1 v (4 * k) ((List.range (4 * k)).map (ptv X)) ∧ wr.rowIs w.heap.size 24 4 (fun j => .int .u64 (wd X j)) ∧ Below w.heap.size w wr)
  (fun _ i _ => 4 - (intOf i).toNat)
 case atStart => exact ⟨0,by omega,rfl,World.ownsRow_nil _ _ _ _,zai (n:=4) (by simp) rfl (arr4 fun j => .int .u64 (wd X j)),(Below.refl _ _).alloc (by simp) _⟩
 case round =>
  obtain ⟨i,hi4,rfl,hown,hR,hbel⟩:=hrel
  by_cases hlt : i < 4
  ·
   have c1:=hR.cell hlt
   have hd : decide ((i : Int) < 4) = true:=by simp; omega
   go_wp2
   clear c1
   obtain ⟨wo,hwo⟩ : ∃ wo : World,wo = wr:=⟨_,rfl⟩
   rw [← hwo] at hown hR hbel ⊢
   clear hwo
   go_loopw [3,5,6] (fun v q k wq => ∃ m : Nat,m ≤ 4 ∧ k = .int .i64 m ∧ q = .int .u64 (wk X i m) ∧ wq.ownsRow (w.heap.size + 1) 3 1 v (4 * i + m) ((List.range (4 * i + m)).map (ptv X)) ∧ wq.rowIs w.heap.size 24 4 (fun j => .int .u64 (wd X j)) ∧ Below w.heap.size w wq)
    (fun _ _ k _ => 4 - (intOf k).toNat)
   case atStart => exact ⟨0,by omega,rfl,by rw [wk_zero],hown,hR,hbel⟩
   case round =>
    obtain ⟨m,hm4,rfl,rfl,hown,hR,hbel⟩:=hrel
    have hq:=wk_lo X i m
    have hq2:=wk_le X i m
    by_cases hlm : m < 4
    ·
     have hsz:=hR.lt
     go_wp2_with (at_builtin; refine wpList_append_own _ rfl _ _ 96 rfl (w.heap.size + 1) 3 i0 (.int .i64 0) 1 8 Tryz.underlying96 hi hz0 hz1 hz2 rfl (by decide) _ _ _ rfl (hown.alloc _) ⟨wr.heap.size,0,none⟩ 1 1 [.int .i64 (wk X i m % 65536)] rfl rfl ?c1 ?c2 ?c3 ?c4 ?c5 ?_)
     case c1 =>
      intro j u hj
      match j,hj with
      | 0,hj => simp at hj; subst hj; simp [Addr.add]
     case c2 => intro u hu; simp at hu; subst hu; rfl
     case c3 => unfold maxLen; omega
     case c4 => omega
     case c5 => simp; omega
     intro v' w1 hown' hgrow _
     rw [wk_pt X i m hlm,← ptL_succ] at hown'
     have hR1:=row_grown (hR.alloc _) hgrow (fun e => by have:=(hown.lt _ e.symm).1; omega)
     have hb1:=(hbel.alloc (by omega) _).grown hgrow (by simp; omega) (fun k e => by have:=(hown.lt _ e).1; omega)
     clear hown hgrow hR hbel
     go_wp2
     go_roundw
     case rel => exact ⟨m + 1,by omega,by go_num,by rw [wk_succ],hown',hR1,hb1⟩
     case measure => simp [intOf]; omega
    ·
     obtain rfl : m = 4:=by omega
     go_wp2
     go_roundw
     case rel => exact ⟨i + 1,by omega,by go_num,by rw [show 4 * (i + 1) = 4 * i + 4 by omega]; exact hown,hR,hbel⟩
     case measure => simp [intOf]; omega
  ·
   obtain rfl : i = 4:=by omega
   go_wp2
   go_ret
   exact ⟨_,rfl,hown,hbel⟩
theorem zgw (X : Nat) (w : World) :
  Calls Tryz.prog 61 #[.agg #[.int .u64 (wd X 0),.int .u64 (wd X 1),.int .u64 (wd X 2),.int .u64 (wd X 3)]] w fun e w' => ∃ g cap,e = .returned (.slice (some ⟨g,0,none⟩) 16 cap) ∧ w.heap.size ≤ g ∧ Pre w' g 3 16 (ptv X) ∧ Below w.heap.size w w':=by
 refine (parts_any X w).mono ?_
 rintro e w' ⟨v,rfl,hown,hb⟩
 obtain ⟨g,cap,rfl,_,hg,hp⟩:=Pre.of_own hown (by omega)
 exact ⟨g,cap,rfl,by omega,hp,hb⟩
end Go.Proofs.YtmfjigcdhijkjaaGreatDoor
namespace Go.Proofs.YtmfjigcdhijkjaaGreatDoor
theorem top_w16 : top = w16 ^ 16:=by unfold top; rw [w64_w16,← Nat.pow_mul]
end Go.Proofs.YtmfjigcdhijkjaaGreatDoor
namespace Go.Proofs.YtmfjigcdhijkjaaGreatDoor
open Go.RowKit
open Go.Act renaming put → aP
open List renaming setIfInBounds_toArray → lA, set_cons_zero → lZ, set_cons_succ → lS
def cmpK (X Y k : Nat) : Int:=cmpN (X % w16 ^ k) (Y % w16 ^ k)
theorem cmpK_lt {X Y k : Nat} (h : pt X k < pt Y k) : cmpK X Y (k + 1) = -1:=by
 unfold pt at h
 unfold cmpK
 rw [ziv _ _ _ _ zih,if_pos (by omega)]
theorem cmpK_gt {X Y k : Nat} (h : pt Y k < pt X k) : cmpK X Y (k + 1) = 1:=by
 unfold pt at h
 unfold cmpK
 rw [ziv _ _ _ _ zih,if_neg (by omega),if_pos (by omega)]
theorem cmpK_eq {X Y k : Nat} (h : pt X k = pt Y k) : cmpK X Y (k + 1) = cmpK X Y k:=by
 unfold pt at h
 unfold cmpK
 rw [ziv _ _ _ _ zih,if_neg (by omega),if_neg (by omega)]
theorem cmpK_top {X Y : Nat} (hX : X < top) (hY : Y < top) : cmpK X Y 16 = cmpN X Y:=by
 rw [top_w16] at *
 unfold cmpK
 rw [Nat.mod_eq_of_lt hX,Nat.mod_eq_of_lt hY]
theorem zds (X Y : Nat) (hX : X < top) (hY : Y < top) (w : World) :
  Calls Tryz.prog 21 #[.agg #[.int .u64 (wd X 0),.int .u64 (wd X 1),.int .u64 (wd X 2),.int .u64 (wd X 3)],.agg #[.int .u64 (wd Y 0),.int .u64 (wd Y 1),.int .u64 (wd Y 2),.int .u64 (wd Y 3)]] w fun e w' => e = .returned (.int .i64 (cmpN X Y)) ∧ Below w.heap.size w w':=by
 have hRB : ((w.alloc (.cells #[.int .u64 (wd X 0),.int .u64 (wd X 1),.int .u64 (wd X 2),.int .u64 (wd X 3)] 24)).alloc (.cells #[.int .u64 (wd Y 0),.int .u64 (wd Y 1),.int .u64 (wd Y 2),.int .u64 (wd Y 3)] 24)).rowIs (w.heap.size + 1) 24 4 (fun j => .int .u64 (wd Y j)):=zai (n:=4) (by simp) rfl (arr4 fun j => .int .u64 (wd Y j))
 have hB0 : Below w.heap.size w ((w.alloc (.cells #[.int .u64 (wd X 0),.int .u64 (wd X 1),.int .u64 (wd X 2),.int .u64 (wd X 3)] 24)).alloc (.cells #[.int .u64 (wd Y 0),.int .u64 (wd Y 1),.int .u64 (wd Y 2),.int .u64 (wd Y 3)] 24)):=((Below.refl _ _).alloc (by simp) _).alloc (by simp) _
 go_enter Tryz.func21,Tryz.ntmps21
 go_wp2_with fail
 refine (zgw X _).mono ?_
 rintro e w1 ⟨g1,cap1,rfl,hg1,hp1a,hb1⟩
 simp only [World.size_alloc] at hg1
 have hRB1:=zad hRB hb1 (by simp)
 have hB1:=hB0.trans (hb1.mono (by simp; omega))
 clear hRB hB0 hb1
 obtain ⟨c0,c1,c2,c3⟩:=zag hRB1
 go_wp2_with fail
 refine (zgw Y _).mono ?_
 rintro e w2 ⟨g2,cap2,rfl,hg2,hp2b,hb2⟩
 have hp1b:=hp1a.below hb2 hp1a.lt
 have hB2:=hB1.trans (hb2.mono hB1.size)
 clear hRB1 hB1 hb2 c0 c1 c2 c3 hp1a hg2 hg1
 go_wp2
 go_loopw [7,8] (fun c i wr => ∃ k : Nat,k ≤ 16 ∧ i = .int .i64 k ∧ c = .int .i64 (cmpK X Y k) ∧ Pre wr g1 3 16 (ptv X) ∧ Pre wr g2 3 16 (ptv Y) ∧ Below w.heap.size w wr)
  (fun _ i _ => 16 - (intOf i).toNat)
 case atStart => exact ⟨0,by omega,rfl,by simp [cmpK,cmpN,Nat.mod_one],hp1b,hp2b,hB2⟩
 case round =>
  clear hp1b hp2b hB2
  obtain ⟨k,hk,rfl,rfl,hp1,hp2,hbel⟩:=hrel
  by_cases hlt : k < 16
  ·
   have c1:=hp1.cell hlt
   have c2:=hp2.cell hlt
   simp only [ptv] at c1 c2
   go_wp2
   rcases Int.lt_trichotomy (pt X k) (pt Y k) with h | h | h
   ·
    have h2 : ¬ pt Y k < pt X k:=by omega
    go_quiet (fail)
    go_wp2
    go_quiet (fail)
    go_wp2
    go_roundw
    case rel => exact ⟨k + 1,by omega,by go_num,by rw [cmpK_lt h],hp1.drewN _,hp2.drewN _,zbq hbel _⟩
    case measure => simp [intOf]; omega
   ·
    have h1 : ¬ pt X k < pt Y k:=by omega
    have h2 : ¬ pt Y k < pt X k:=by omega
    have H:=veil h
    clear h
    go_quiet (fail)
    go_wp2
    go_quiet (fail)
    go_wp2
    go_roundw
    case rel => exact ⟨k + 1,by omega,by go_num,by rw [cmpK_eq H.out],hp1.drewN _,hp2.drewN _,zbq hbel _⟩
    case measure => simp [intOf]; omega
   ·
    have h1 : ¬ pt X k < pt Y k:=by omega
    go_quiet (fail)
    go_wp2
    go_quiet (fail)
    go_wp2
    go_roundw
    case rel => exact ⟨k + 1,by omega,by go_num,by rw [cmpK_gt h],hp1.drewN _,hp2.drewN _,zbq hbel _⟩
    case measure => simp [intOf]; omega
  ·
   obtain rfl : k = 16:=by omega
   go_wp2
   go_ret
   rw [← cmpK_top hX hY]
   exact ⟨rfl,hbel⟩
theorem zdi : Pt.nn < top:=by decide +kernel
theorem nn_words : wd Pt.nn 0 = 17562291160714782033 ∧ wd Pt.nn 1 = 13611842547513532036 ∧ wd Pt.nn 2 = 18446744073709551615 ∧ wd Pt.nn 3 = 18446744069414584320:=by decide +kernel
theorem nn_is (w : World) : Calls Tryz.prog 22 #[] w fun e w' => e = .returned (nv Pt.nn) ∧ Ext w w':=by
 obtain ⟨l0,l1,l2,l3⟩:=nn_words
 unfold nv nc
 rw [l0,l1,l2,l3]
 clear l0 l1 l2 l3
 go_enter Tryz.func22,Tryz.ntmps22
 go_wp2
 exact bodyPost_ret (results_cell_row rfl _ _ w.heap.size 24 #[.int .u64 17562291160714782033,.int .u64 13611842547513532036,.int .u64 18446744073709551615,.int .u64 18446744069414584320] (0,0) _ rfl (heap_alloc_last w _) Tryz.underlying24 rfl (by kernel_rfl)) rfl ⟨rfl,(Below.refl _ _).alloc (Nat.le_refl _) _⟩
theorem neN0 {X : Nat} (hX : X < top) (h0 : X ≠ 0) (W : World) : (binOp .neq 24 (nv X) (nv 0)).run Tryz.prog W = .ok (.bool true) W:=by
 have e:=zhm hX zcp W
 rw [decide_eq_false h0] at e
 exact neq_of e rfl
section
variable {P : Program} {o : Oper} {a : Act} {w : World}
theorem zgd {x : Operand} {ty ty2 : TypeId} {c : Int} {v : Bool} (ho : o.op = .binOp .lss ty x (.const (.int .i64 0)) ty2) (hx : a.eval x = .int .i64 c) (hv : decide (c < 0) = v) : Made P o (.bool v) a w:=zcn fun W _ => by
 have h0 : a.eval (.const (.int .i64 0)) = .int .i64 0:=rfl
 unfold execOp
 simp only [ho]
 generalize a.eval = ρ at *
 subst hv
 rw [hx,h0]
 simp [go_sem,eqGuard]
end
theorem cmpL {X Y : Nat} (h : X < Y) : decide (cmpN X Y < 0) = true:=by unfold cmpN; rw [if_pos h]; rfl
theorem cmpG {X Y : Nat} (h : ¬ X < Y) : decide (cmpN X Y < 0) = false:=by
 unfold cmpN
 rw [if_neg h]
 split <;> rfl
theorem may_zero  (w : World) :
  Calls Tryz.prog 8 #[nv 0] w fun e w' => e = .returned (.bool false) ∧ Ext w w':=by
 unfold nv nc
 go_enter Tryz.func8,Tryz.ntmps8
 go_upto_region 1 with (fail)
 obtain ⟨hx,b0⟩:=blocks1 w (.cells #[.int .u64 (wd 0 0),.int .u64 (wd 0 1),.int .u64 (wd 0 2),.int .u64 (wd 0 3)] 24)
 generalize w.alloc (.cells #[.int .u64 (wd 0 0),.int .u64 (wd 0 1),.int .u64 (wd 0 2),.int .u64 (wd 0 3)] 24) = w1 at *
 have b0 : w1.heap[w.heap.size]? = some (.cells (nc 0) 24 (0,0)):=b0
 refine' zcf (m:=10) (A:=_) 10 (by kernel_rfl) (by kernel_rfl) ?h1 ?h2
 case h1 =>
  refine zaa (nv 0) rfl (zac rfl rfl b0 rfl uN rfl (iN _)) ?_
  refine zaa (nv 0) rfl (zbc rfl rfl (bldN0 ·)) ?_;simp only [aP,lA,lZ,lS]
  refine zaa (.bool false) rfl (zed rfl rfl rfl (gN _ _ _ _ _) neN) ?_
  refine zaa (.bool false) rfl (zaf (.inl rfl) rfl) ?_;simp only [aP,lA,lZ,lS]
  refine zau rfl ?_
  refine zau rfl ?_;simp only [aP,lA,lZ,lS]
  refine zau rfl ?_
  refine zau rfl ?_;simp only [aP,lA,lZ,lS]
  refine zaa (.bool false) rfl (zat rfl rfl rfl) ?_
  refine zaa (.bool false) rfl (zaf (.inr rfl) rfl) ?_;simp only [aP,lA,lZ,lS]
  exact zaj
 refine zbt rfl (by kernel_rfl) ?_
 intro w2 hE
 refine NoPanic.normal ?_
 replace hx:=hx.trans hE
 clear hE
 go_wp2
 go_ret
 exact ⟨rfl,hx⟩
theorem may_in (X : Nat) (hX : X < top) (h0 : X ≠ 0) (hl : X < Pt.nn) (w : World) :
  Calls Tryz.prog 8 #[nv X] w fun e w' => e = .returned (.bool true) ∧ Ext w w':=by
 have kX:=veil hX
 have k0:=veil h0
 have kl:=veil hl
 clear hX h0 hl
 unfold nv nc
 go_enter Tryz.func8,Tryz.ntmps8
 go_upto_region 1 with (fail)
 obtain ⟨hx,b0⟩:=blocks1 w (.cells #[.int .u64 (wd X 0),.int .u64 (wd X 1),.int .u64 (wd X 2),.int .u64 (wd X 3)] 24)
 generalize w.alloc (.cells #[.int .u64 (wd X 0),.int .u64 (wd X 1),.int .u64 (wd X 2),.int .u64 (wd X 3)] 24) = w1 at *
 have b0 : w1.heap[w.heap.size]? = some (.cells (nc X) 24 (0,0)):=b0
 refine' zcf (m:=10) (A:=_) 10 (by kernel_rfl) (by kernel_rfl) ?h1 ?h2
 case h1 =>
  refine zaa (nv X) rfl (zac rfl rfl b0 rfl uN rfl (iN _)) ?_
  refine zaa (nv 0) rfl (zbc rfl rfl (bldN0 ·)) ?_;simp only [aP,lA,lZ,lS]
  refine zaa (.bool true) rfl (zed rfl rfl rfl (gN _ _ _ _ _) (neN0 kX.out k0.out ·)) ?_
  refine zaa (.bool true) rfl (zaf (.inl rfl) rfl) ?_;simp only [aP,lA,lZ,lS]
  refine zam (nv X) rfl (zac rfl rfl b0 rfl uN rfl (iN _)) ?_
  refine zam (nv Pt.nn) rfl (zah (args:=[]) rfl rfl (fun W => zab Tryz.func22 rfl rfl _ W) (fun W hW => nn_is W)) ?_;simp only [aP,lA,lZ,lS]
  refine zam (.int .i64 (cmpN X Pt.nn)) rfl (zah (args:=[nv X,nv Pt.nn]) rfl rfl (fun W => zab Tryz.func21 rfl rfl _ W) (fun W hW => zds X Pt.nn kX.out zdi W)) ?_
  refine zam (.bool true) rfl (zgd rfl rfl (cmpL kl.out)) ?_;simp only [aP,lA,lZ,lS]
  refine zaa (.bool true) rfl (zat rfl rfl rfl) ?_
  refine zaa (.bool true) rfl (zaf (.inr rfl) rfl) ?_;simp only [aP,lA,lZ,lS]
  exact zaj
 refine zbt rfl (by kernel_rfl) ?_
 intro w2 hE
 refine NoPanic.normal ?_
 replace hx:=hx.trans hE
 clear hE
 go_wp2
 go_ret
 exact ⟨rfl,hx⟩
theorem may_out (X : Nat) (hX : X < top) (h0 : X ≠ 0) (hl : ¬ X < Pt.nn) (w : World) :
  Calls Tryz.prog 8 #[nv X] w fun e w' => e = .returned (.bool false) ∧ Ext w w':=by
 have kX:=veil hX
 have k0:=veil h0
 have kl:=veil hl
 clear hX h0 hl
 unfold nv nc
 go_enter Tryz.func8,Tryz.ntmps8
 go_upto_region 1 with (fail)
 obtain ⟨hx,b0⟩:=blocks1 w (.cells #[.int .u64 (wd X 0),.int .u64 (wd X 1),.int .u64 (wd X 2),.int .u64 (wd X 3)] 24)
 generalize w.alloc (.cells #[.int .u64 (wd X 0),.int .u64 (wd X 1),.int .u64 (wd X 2),.int .u64 (wd X 3)] 24) = w1 at *
 have b0 : w1.heap[w.heap.size]? = some (.cells (nc X) 24 (0,0)):=b0
 refine' zcf (m:=10) (A:=_) 10 (by kernel_rfl) (by kernel_rfl) ?h1 ?h2
 case h1 =>
  refine zaa (nv X) rfl (zac rfl rfl b0 rfl uN rfl (iN _)) ?_
  refine zaa (nv 0) rfl (zbc rfl rfl (bldN0 ·)) ?_;simp only [aP,lA,lZ,lS]
  refine zaa (.bool true) rfl (zed rfl rfl rfl (gN _ _ _ _ _) (neN0 kX.out k0.out ·)) ?_
  refine zaa (.bool true) rfl (zaf (.inl rfl) rfl) ?_;simp only [aP,lA,lZ,lS]
  refine zam (nv X) rfl (zac rfl rfl b0 rfl uN rfl (iN _)) ?_
  refine zam (nv Pt.nn) rfl (zah (args:=[]) rfl rfl (fun W => zab Tryz.func22 rfl rfl _ W) (fun W hW => nn_is W)) ?_;simp only [aP,lA,lZ,lS]
  refine zam (.int .i64 (cmpN X Pt.nn)) rfl (zah (args:=[nv X,nv Pt.nn]) rfl rfl (fun W => zab Tryz.func21 rfl rfl _ W) (fun W hW => zds X Pt.nn kX.out zdi W)) ?_
  refine zam (.bool false) rfl (zgd rfl rfl (cmpG kl.out)) ?_;simp only [aP,lA,lZ,lS]
  refine zaa (.bool false) rfl (zat rfl rfl rfl) ?_
  refine zaa (.bool false) rfl (zaf (.inr rfl) rfl) ?_;simp only [aP,lA,lZ,lS]
  exact zaj
 refine zbt rfl (by kernel_rfl) ?_
 intro w2 hE
 refine NoPanic.normal ?_
 replace hx:=hx.trans hE
 clear hE
 go_wp2
 go_ret
 exact ⟨rfl,hx⟩
def mayB (X : Nat) : Bool:=decide (X ≠ 0) && decide (X < Pt.nn)
theorem may_calls (X : Nat) (hX : X < top) (w : World) : Calls Tryz.prog 8 #[nv X] w fun e w' => e = .returned (.bool (mayB X)) ∧ Ext w w':=by
 unfold mayB
 by_cases h0 : X = 0
 ·
  subst h0
  exact may_zero w
 ·
  by_cases hl : X < Pt.nn
  ·
   rw [decide_eq_true h0,decide_eq_true hl]
   exact may_in X hX h0 hl w
  ·
   rw [decide_eq_true h0,decide_eq_false hl]
   exact may_out X hX h0 hl w
end Go.Proofs.YtmfjigcdhijkjaaGreatDoor
