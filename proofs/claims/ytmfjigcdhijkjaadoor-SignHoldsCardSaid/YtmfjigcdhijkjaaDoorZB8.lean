/-
  Of HWrite HPad HSum SSumA M1 HLaid HLaw HParts MDef N1 M3 NK NR.
-/
import Derived.Laws.CopyOwn
import Derived.WalkKit
import Derived.WalkSpells
import Derived.WalkLawsBesides
import Derived.Deep.LoopGhost
import Derived.Deep.Cut
import Derived.Deep.CutRange
import Derived.Deep.OwnRows
import Derived.Deep.RegionHeld3
import Derived.BigQuiet
import Derived.IntWalk
import Derived.Deep.QuietTactic
import Derived.StillTailTactics
import Derived.Test.YtmfjigcdhijkjaaDoorRows
import Derived.Deep.CutBlock
import Derived.ProofKit
import Derived.LaidMore
import Derived.OpenShut
import Derived.Stop.Joined
import Derived.MakeChecks
import Derived.Carry
import Derived.ChangeKeysEq
import Derived.Laws.BytesString
import Derived.BigFrame
import Derived.Deep.Matrix
import Derived.Deep.MidRow
import Derived.Test.YtmfjigcdhijkjaaDoorZB6
import Derived.Test.YtmfjigcdhijkjaaDoorZB1
import Derived.Test.YtmfjigcdhijkjaaDoorZB5
import Derived.Test.YtmfjigcdhijkjaaDoorZB3
import Derived.Test.YtmfjigcdhijkjaaDoorZB7
set_option maxRecDepth 1000000
set_option maxHeartbeats 20000000
namespace Go.Proofs.YtmfjigcdhijkjaaDoor
open Go.RowKit
open Go.Act renaming put → aP
open List renaming setIfInBounds_toArray → lA, set_cons_zero → lZ, set_cons_succ → lS
theorem zfn {P : Program} {w : World} {ops : Array Oper} {rest : List Oper} {o : Oper} {a : Act} {Q : Exit → Act → World → Prop} (hgd : o.guard = none) (d s : Operand) (dT sT : TypeId)
  (ho : o.op = .call { callee:=.builtin .copy,args:=#[d,s],argTypes:=#[dT,sT] }) (elem : TypeId) (hu : P.underlying dT = some (.slice elem)) (hsz : (P.info? elem).map (·.size) = some 1)
  (g off dLen dCap : Nat) (ad : Addr) (sLen sCap : Nat) (hd : a.eval d = .slice (some ⟨g,off,none⟩) dLen dCap) (hs : a.eval s = .slice (some ad) sLen sCap)
  (t n : Nat) (f : Nat → Value) (hrow : w.rowIs g t n f) (m : Nat) (hm : m = Nat.min sLen dLen) (v : Nat → Value) (hsrc : ∀ j,j < m → w.cell? (ad.add j) = some (v j)) (hfit : off + m ≤ n)
  (h1 : ∀ j,j < m → (v j).oneCell' = true)
  (h : ∀ w',But g w w' → w'.rowIs g t n (fun j => if off ≤ j ∧ j < off + m then v (j - off) else f j) → wpList P ops Q rest (a.put o.dst (goInt (m : Nat))) w') : wpList P ops Q (o :: rest) a w:=by
 have hcs : ((List.range m).map v).length = m:=by simp
 have hk:=wpList_copy_own (P:=P) (w:=w) (ops:=ops) (rest:=rest) (o:=o) (a:=a) (Q:=Q) hgd d s dT sT ho elem hu hsz g off dLen dCap ad sLen sCap hd hs (arrOf n f) t (blkOf hrow) ((List.range m).map v) (by rw [hcs,hm])
  (fun j u hu => by
   have hj : j < m:=by have:=(List.getElem?_eq_some_iff.1 hu).1; simpa using this
   rw [hsrc j hj,← hu]; simp [hj]) (by rw [hcs,zbb]; exact hfit) (fun u hu => by
   simp at hu; obtain ⟨j,hj,rfl⟩:=hu; exact h1 j hj)
 rw [hcs] at hk
 refine hk (h _ ⟨rfl,rfl,rfl,by simp [World.setRow],fun k _ hne => zdc w _ (by simpa using hne)⟩ ?_)
 refine row_setRow hrow (by simp [zbb]; omega) fun i hi => ?_
 have hl : (arrOf n f).toList.length = n:=by simp [zbb]
 by_cases c1 : i < off
 ·
  rw [if_neg (by omega)]
  simp only [List.getElem?_toArray]
  rw [List.getElem?_append_left (by simp [hl]; omega),List.getElem?_take_of_lt c1]
  simpa using zcw f hi
 ·
  by_cases c2 : i < off + m
  ·
   rw [if_pos ⟨by omega,c2⟩]
   simp only [List.getElem?_toArray]
   rw [List.getElem?_append_right (by simp [hl]; omega),List.getElem?_append_left (by simp [hl]; omega)]
   simp [hl,show min off n = off by omega,show i - off < m by omega]
  ·
   rw [if_neg (by omega)]
   simp only [List.getElem?_toArray]
   rw [List.getElem?_append_right (by simp [hl]; omega),List.getElem?_append_right (by simp [hl]; omega),List.getElem?_drop]
   rw [show off + m + (i - (List.take off (arrOf n f).toList).length - ((List.range m).map v).length) = i by simp [hl]; omega]
   simpa using zcw f hi
theorem blockN_congr {m m' : Nat → Nat} (h : ∀ t,t < 16 → m t = m' t) (s : St) : blockN m s = blockN m' s:=by
 have hs : ∀ k,sched m k = sched m' k:=by
  intro k
  induction k with
  | zero => simp only [sched]
  | succ k ihk =>
   simp only [sched]
   rw [ihk]
   by_cases hk : k < 16
   ·
    simp only [if_pos hk]; rw [h k hk]
   ·
    simp only [if_neg hk]
 have hr : ∀ k,roundsN m s k = roundsN m' s k:=by
  intro k
  induction k with
  | zero => simp only [roundsN]
  | succ k ihk =>
   simp only [roundsN]
   rw [ihk]; unfold wt; rw [hs]
 unfold blockN; rw [hr]
structure HOk (b : Nat → Nat) (L : Nat) (s : St) (blk : Nat → Nat) : Prop where
 s : s = blocksN b (L / 64)
 pre : ∀ j,j < L % 64 → blk j = b (64 * (L / 64) + j)
 lt : ∀ j,blk j < 256
theorem HOk.part {b : Nat → Nat} {L m : Nat} {s : St} {blk : Nat → Nat} (h : HOk b L s blk) (hm : L % 64 + m < 64) (hb : ∀ i,L ≤ i → i < L + m → b i < 256) :
  HOk b (L + m) s (fun j => if L % 64 ≤ j ∧ j < L % 64 + m then b (L + (j - L % 64)) else blk j):=by
 have e1 : (L + m) / 64 = L / 64:=by omega
 refine ⟨by rw [e1]; exact h.s,fun j hj => ?_,fun j => ?_⟩
 ·
  rw [e1]
  by_cases c : j < L % 64
  ·
   rw [if_neg (by omega),h.pre j c]
  ·
   rw [if_pos (by omega)]; congr 1; omega
 ·
  show (if _ then _ else _) < 256
  split
  ·
   exact hb _ (by omega) (by omega)
  ·
   exact h.lt j
theorem HOk.full {b : Nat → Nat} {L m : Nat} {s : St} {blk : Nat → Nat} (h : HOk b L s blk) (hm : L % 64 + m = 64) (hb : ∀ i,L ≤ i → i < L + m → b i < 256) :
  HOk b (L + m) (blockN (fun t => word (fun j => if L % 64 ≤ j ∧ j < L % 64 + m then b (L + (j - L % 64)) else blk j) (4 * t)) s) (fun j => if L % 64 ≤ j ∧ j < L % 64 + m then b (L + (j - L % 64)) else blk j):=by
 have e1 : (L + m) / 64 = L / 64 + 1:=by omega
 have e2 : ∀ j,j < 64 → (if L % 64 ≤ j ∧ j < L % 64 + m then b (L + (j - L % 64)) else blk j) = b (64 * (L / 64) + j):=fun j hj => by
  by_cases c : j < L % 64
  ·
   rw [if_neg (by omega),h.pre j c]
  ·
   rw [if_pos (by omega)]; congr 1; omega
 refine ⟨?_,fun j hj => by omega,fun j => ?_⟩
 ·
  rw [e1]
  show _ = blockN (fun t => word b (64 * (L / 64) + 4 * t)) (blocksN b (L / 64))
  rw [← h.s]
  refine blockN_congr (fun t ht => ?_) s
  show word _ (4 * t) = word b (64 * (L / 64) + 4 * t)
  unfold word
  dsimp only
  rw [e2 _ (by omega),e2 _ (by omega),e2 _ (by omega),e2 _ (by omega)]
  rfl
 ·
  show (if _ then _ else _) < 256
  split
  ·
   exact hb _ (by omega) (by omega)
  ·
   exact h.lt j
theorem HOk.congr {b b' : Nat → Nat} {L : Nat} {s : St} {blk : Nat → Nat} (h : HOk b L s blk) (e : ∀ i,i < L → b i = b' i) : HOk b' L s blk :=
 ⟨by rw [h.s]; exact zey _ (fun i hi => e i (by omega)),fun j hj => by rw [h.pre j hj,e _ (by omega)],h.lt⟩
def HashIs (w : World) (g : Nat) (b : Nat → Nat) (L : Nat) : Prop:=∃ s blk,HOk b L s blk ∧ HRow w g s blk L
section
variable {w w' : World} {g B L : Nat} {b b' : Nat → Nat}
theorem HashIs.lt (h : HashIs w g b L) : g < w.heap.size:=by obtain ⟨_,_,_,h⟩:=h; exact h.lt
theorem HashIs.of_block (h : HashIs w g b L) (e : w'.heap[g]? = w.heap[g]?) : HashIs w' g b L:=by obtain ⟨s,k,o,h⟩:=h; exact ⟨s,k,o,h.of_block e⟩
theorem HashIs.call (h : HashIs w g b L) (hb : Below w.heap.size w w') : HashIs w' g b L:=h.of_block (hb.block g h.lt)
theorem HashIs.below (h : HashIs w g b L) (hb : Below B w w') (hlt : g < B) : HashIs w' g b L:=h.of_block (hb.block g hlt)
theorem HashIs.but {r : Nat} (h : HashIs w g b L) (k : But r w w') (hne : g ≠ r) : HashIs w' g b L:=h.of_block (k.block g h.lt (by simpa using hne))
theorem HashIs.alloc (h : HashIs w g b L) (o : Obj) : HashIs (w.alloc o) g b L:=h.of_block (Below.heap_alloc _ _ _ h.lt)
theorem HashIs.drew (h : HashIs w g b L) : HashIs w.drew g b L:=h
theorem HashIs.congr (h : HashIs w g b L) (e : ∀ i,i < L → b i = b' i) : HashIs w g b' L:=by obtain ⟨s,k,o,h⟩:=h; exact ⟨s,k,o.congr e,h⟩
theorem HashIs.len (h : HashIs w g b L) : w.cell? ⟨g,72,none⟩ = some (.int .i64 (L : Int)):=by obtain ⟨_,_,_,h⟩:=h; exact h.length
end
def cat (b : Nat → Nat) (len : Nat) (y : Nat → Nat) : Nat → Nat:=fun i => if i < len then b i else y (i - len)
def Src (w : World) (A : Option Addr) (n : Nat) (y : Nat → Nat) (g : Nat) : Prop:=n = 0 ∨ ∃ b o,A = some ⟨b,o,none⟩ ∧ b < w.heap.size ∧ b ≠ g ∧ ∀ j,j < n → w.cell? ⟨b,o + j,none⟩ = some (.int .u8 (y j : Nat))
section
variable {w w' : World} {A : Option Addr} {n g B : Nat} {y : Nat → Nat}
theorem Src.below (h : Src w A n y g) (hb : Below w.heap.size w w') : Src w' A n y g:=by
 rcases h with h | ⟨b,o,ha,hlt,hne,hc⟩
 ·
  exact .inl h
 ·
  exact .inr ⟨b,o,ha,Nat.lt_of_lt_of_le hlt hb.size,hne,fun j hj => (hb.cell (p:=⟨b,o + j,none⟩) hlt).trans (hc j hj)⟩
theorem Src.but (h : Src w A n y g) (hb : But g w w') : Src w' A n y g:=by
 rcases h with h | ⟨b,o,ha,hlt,hne,hc⟩
 ·
  exact .inl h
 ·
  exact .inr ⟨b,o,ha,Nat.lt_of_lt_of_le hlt hb.size,hne,fun j hj => (World.cell?_of_block (w:=w) (a:=⟨b,o + j,none⟩) (hb.block b hlt (by simpa using hne))).trans (hc j hj)⟩
theorem Src.congr {y' : Nat → Nat} (h : Src w A n y g) (e : ∀ j,j < n → y j = y' j) : Src w A n y' g:=by
 rcases h with h | ⟨b,o,ha,hlt,hne,hc⟩
 ·
  exact .inl h
 ·
  exact .inr ⟨b,o,ha,hlt,hne,fun j hj => by rw [hc j hj,e j hj]⟩
end
theorem sliceAt_arr (g fl : Nat) (hf : fl < 64) (w : World) : (Instr.sliceAt 112 (.pointer (some ⟨g,8,none⟩)) (some (.int .i64 (fl : Int))) none none).run Tryd.prog w = .ok (.slice (some ⟨g,8 + fl,none⟩) (64 - fl) (64 - fl)) w:=by
 have e1 : Tryd.prog.arrayLen 112 = 64:=by kernel_rfl
 have e2 : ((sizeOf (Tryd.prog.elem 112)).run Tryd.prog w) = .ok 1 w:=by kernel_rfl
 rw [run_sliceAt_array_l w 112 ⟨g,8,none⟩ (by kernel_rfl) .i64 (fl : Int) (by omega) (by rw [e1]; omega),e2,e1]
 have h64 : ¬ 64 = fl:=by omega
 simp [slicedAt,Result.andThen,h64,Addr.add_mid]
def tailAt (b o m c : Nat) : Option Addr:=if c = m then some ⟨b,o,none⟩ else some ⟨b,o + m,none⟩
theorem slice_from (b o r c m : Nat) (hm : m ≤ r) (w : World) : (Instr.slice 27 (.slice (some ⟨b,o,none⟩) r c) (some (.int .i64 (m : Int))) none none).run Tryd.prog w = .ok (.slice (tailAt b o m c) (r - m) (c - m)) w:=by
 have e2 : ((sizeOf (Tryd.prog.elem 27)).run Tryd.prog w) = .ok 1 w:=by kernel_rfl
 rw [run_slice_l w 27 (some ⟨b,o,none⟩) r c (by kernel_rfl) .i64 (m : Int) (by omega) (by omega),e2]
 by_cases h : c = m
 ·
  simp [sliced,Result.andThen,tailAt,h]
 ·
  simp [sliced,Result.andThen,tailAt,h,Addr.add_mid]
theorem sliceAt_from (b o r c m : Nat) (hm : m ≤ r) (w : World) : (Instr.sliceAt 27 (.slice (some ⟨b,o,none⟩) r c) (some (.int .i64 (m : Int))) none none).run Tryd.prog w = .ok (.slice (tailAt b o m c) (r - m) (c - m)) w:=by
 rw [run_sliceAt_slice w 27 _ _ _ _ (by kernel_rfl)]
 exact slice_from b o r c m hm w
theorem Src.tail {w : World} {b o r c m g : Nat} {y : Nat → Nat} (h : Src w (some ⟨b,o,none⟩) r y g) (hm : m ≤ r) (hc : r ≤ c) : Src w (tailAt b o m c) (r - m) (fun j => y (m + j)) g:=by
 by_cases h0 : r - m = 0
 ·
  exact .inl h0
 ·
  rcases h with h | ⟨b',o',e,hlt,hne,hcl⟩
  ·
   omega
  ·
   simp only [Option.some.injEq,Addr.mk.injEq] at e
   obtain ⟨rfl,rfl,_⟩:=e
   refine .inr ⟨b,o + m,by unfold tailAt; rw [if_neg (by omega)],hlt,hne,fun j hj => ?_⟩
   rw [Nat.add_assoc]
   exact hcl (m + j) (by omega)
def lenOf : Value → Nat | .slice _ r _ => r | _ => 0
theorem infoB : (Tryd.prog.info? 5).map (·.size) = some 1:=by kernel_rfl
theorem zew (g : Nat) (b : Nat → Nat) (L : Nat) (A : Option Addr) (n c : Nat) (y : Nat → Nat) (hy : ∀ j,y j < 256) (hnc : n ≤ c) (hLn : L + n ≤ 4611686018427387904) (hg : g ≠ 0)
  (w : World) (hK : KT w) (hH : HashIs w g b L) (hS : Src w A n y g) :
  Calls Tryd.prog 42 #[.pointer (some ⟨g,0,none⟩),.slice A n c] w fun e w' => e = .returned (.tuple #[]) ∧ HashIs w' g (cat b L y) (L + n) ∧ But g w w':=by
 obtain ⟨T,hT⟩ : ∃ T,T = cat b L y:=⟨_,rfl⟩
 have hH : HashIs w g T L:=hH.congr fun i hi => by rw [hT]; unfold cat; rw [if_pos hi]
 have hTy : ∀ i,T (L + i) = y i:=fun i => by rw [hT]; unfold cat; rw [if_neg (by omega),Nat.add_sub_cancel_left]
 have HT:=veil hT
 have HTy:=veil hTy
 have HY:=veil hy
 have HG:=veil hg
 clear hT hTy hy hg
 go_enter Tryd.func42,Tryd.ntmps42
 go_wp2
 go_loopw [1] (fun v wr => ∃ (A : Option Addr) (k r c : Nat),k + r = n ∧ r ≤ c ∧ v = .slice A r c ∧ Src wr A r (fun j => y (k + j)) g ∧ HashIs wr g T (L + k) ∧ But g w wr ∧ KT wr)
  (fun v _ => lenOf v)
 case atStart => exact ⟨A,0,n,c,by omega,hnc,rfl,hS.congr fun j _ => by rw [Nat.zero_add],hH,But.refl _ _,hK⟩
 case round =>
  obtain ⟨A,k,r,c,hkr,hrc,rfl,hS,hH,hB,hK⟩:=hrel
  by_cases h0 : r = 0
  ·
   subst h0
   go_wp2
   go_end0
   exact ⟨rfl,by rw [← HT.out,show n = k by omega]; exact hH,hB⟩
  ·
   obtain ⟨bb,o,rfl,hlt,hne,hc⟩ : ∃ b o,A = some ⟨b,o,none⟩ ∧ b < wr.heap.size ∧ b ≠ g ∧ ∀ j,j < r → wr.cell? ⟨b,o + j,none⟩ = some (.int .u8 (y (k + j) : Nat)):=hS.resolve_left h0
   obtain ⟨s,blk,hok,hrow⟩:=hH
   obtain ⟨N,hN⟩ : ∃ N,N = L + k:=⟨_,rfl⟩
   rw [← hN] at hok hrow
   obtain ⟨fl,hfl⟩ : ∃ fl,fl = N % 64:=⟨_,rfl⟩
   have hfi : (N : Int) % 64 = (fl : Int):=by omega
   have hf64 : fl < 64:=by omega
   obtain ⟨m,hm⟩ : ∃ m,m = Nat.min r (64 - fl):=⟨_,rfl⟩
   have hm0 : 0 < m:=by rw [hm]; show 0 < min r (64 - fl); omega
   have hmr : m ≤ r:=by rw [hm]; exact Nat.min_le_left _ _
   have hmf : fl + m ≤ 64:=by rw [hm]; show fl + min r (64 - fl) ≤ 64; omega
   have cL:=hrow.length
   have fL:=World.rowIs.frozen hrow 72
   have hr0 : (0 : Int) < (r : Int):=by omega
   have hN0 : N ≤ 4611686018427387904:=by omega
   have hNm : N + m ≤ 4611686018427387904:=by omega
   have HR:=veil hrow
   have HC:=veil hc
   have HM:=veil hm
   have HF:=veil hfl
   have HN:=veil hN
   have HK:=veil hok
   have HB2:=veil hne
   clear hrow hc hm hfl hN hok hne h0
   have q1:=fun W => sliceAt_arr g fl hf64 W
   have q2:=fun W => slice_from bb o r c m hmr W
   have q3:=fun W => sliceAt_from bb o r c m hmr W
   clear cL fL
   have hsrc : ∀ j,j < m → wr.cell? ((⟨bb,o,none⟩ : Addr).add j) = some (.int .u8 (y (k + j) : Nat)):=fun j hj => by
    rw [Addr.add_mid]; exact HC.out j (by omega)
   have HSRC:=veil hsrc
   have cL:=HR.out.length
   clear hsrc
   go_upto_region 3 with ((with_reducible refine zbw 20 ?_); refine zfn rfl _ _ 27 27 rfl 5 Tryd.underlying27 infoB g (8 + fl) (64 - fl) (64 - fl) ⟨bb,o,none⟩ r c rfl rfl 114 73 _ HR.out m HM.out (fun j => .int .u8 (y (k + j) : Nat)) HSRC.out (by omega) (fun _ _ => rfl) ?_; intro w2 hb2 hr2)
   have hTn : ∀ j,T (N + j) = y (k + j):=fun j => by rw [HN.out,Nat.add_assoc]; exact HTy.out _
   obtain ⟨blk',hblk'⟩ : ∃ blk' : Nat → Nat,blk' = fun j => if N % 64 ≤ j ∧ j < N % 64 + m then T (N + (j - N % 64)) else blk j:=⟨_,rfl⟩
   have hr2 : HRow w2 g s blk' N:=hr2.congr fun j hj => by
    unfold hcells
    rw [hblk',← HF.out]
    dsimp only
    by_cases c1 : 8 + fl ≤ j ∧ j < 8 + fl + m
    ·
     rw [if_pos c1,if_neg (by omega),if_pos (by omega),if_pos (by omega),hTn,show j - 8 - fl = j - (8 + fl) by omega]
    ·
     rw [if_neg c1]
     by_cases c2 : j < 8
     ·
      rw [if_pos c2,if_pos c2]
     ·
      rw [if_neg c2,if_neg c2]
      by_cases c3 : j < 72
      ·
       rw [if_pos c3,if_pos c3,if_neg (by omega)]
      ·
       rw [if_neg c3,if_neg c3]
   have HBLK:=veil hblk'
   have hS2:=hS.but hb2
   have hK2:=hK.grown hb2 HG.out.symm
   have hB2:=But.trans hB hb2
   have cL:=hr2.length
   have fL:=World.rowIs.frozen hr2 72
   clear hb2 hblk' hTn hS hK hB HSRC HR HC
   have hNi : (N : Int) + (m : Int) = ((N + m : Nat) : Int):=by omega
   obtain ⟨N2,hN2⟩ : ∃ N2,N2 = N + m:=⟨_,rfl⟩
   rw [← hN2] at hNi hNm
   have HN2:=veil hN2
   clear hN2
   have hr3 : HRow (w2.setCell ⟨g,72,none⟩ (.int .i64 (N2 : Int))) g s blk' N2:=(World.rowIs.set hr2 72 _).congr fun j hj => by
    unfold hcells
    by_cases h : j = 72
    ·
     subst h; rfl
    ·
     rw [if_neg h]
     by_cases c2 : j < 8
     ·
      rw [if_pos c2,if_pos c2]
     ·
      rw [if_neg c2,if_neg c2,if_pos (by omega),if_pos (by omega)]
   have hbs : But g w2 (w2.setCell ⟨g,72,none⟩ (.int .i64 (N2 : Int))):=But.set (But.refl _ _) _ _
   have hS3:=(hS2.but hbs).tail hmr hrc
   have hK3:=hK2.grown hbs HG.out.symm
   have hB3:=But.trans hB2 hbs
   have hTb : ∀ i,N ≤ i → i < N + m → T i < 256:=fun i h1 h2 => by
    obtain ⟨d,rfl⟩ : ∃ d,i = N + d:=⟨i - N,by omega⟩
    rw [HN.out,Nat.add_assoc,HTy.out]; exact HY.out _
   have HTB:=veil hTb
   have HH3:=veil (And.intro hS3 (And.intro hK3 (And.intro hB3 hr3)))
   clear hTb hS3 hK3 hB3 hr3 hbs hS2 hK2 hB2
   have HSZ:=veil (show lenOf (.slice (tailAt bb o m c) (r - m) (c - m)) < lenOf (.slice (some ⟨bb,o,none⟩) r c) by show r - m < r; omega)
   by_cases hful : fl + m = 64
   ·
    have hq : (fl : Int) + (m : Int) = 64:=by omega
    have hok2:=HK.out.full (m:=m) (by rw [← HF.out]; exact hful) HTB.out
    rw [← HBLK.out,← HN2.out] at hok2
    have HO:=veil hok2
    clear hok2
    go_upto_region 6 with (fail)
    clear cL fL hr2 q1 q2 q3
    generalize w2.setCell ⟨g,72,none⟩ (.int .i64 (N2 : Int)) = w3 at *
    go_wp2_with ((with_reducible refine (mix_calls g s blk' N2 (HK.out.s ▸ blocksN_ok _ _) HO.out.lt _ HH3.out.2.1 HH3.out.2.2.2).mono ?_); rintro e w4 ⟨rfl,hr4,hb4⟩)
    go_roundw
    case rel =>
     refine ⟨_,k + m,r - m,c - m,by omega,by omega,rfl,((HH3.out.1).but hb4).congr fun j _ => by rw [Nat.add_assoc],⟨blockN (fun t => word blk' (4 * t)) s,blk',?_,?_⟩,But.trans HH3.out.2.2.1 hb4,HH3.out.2.1.grown hb4 HG.out.symm⟩
     ·
      rw [← Nat.add_assoc,← HN.out,← HN2.out]; exact HO.out
     ·
      rw [← Nat.add_assoc,← HN.out,← HN2.out]; exact hr4
    case measure => exact HSZ.out
   ·
    have hq : ¬ ((fl : Int) + (m : Int) = 64):=by omega
    have hok2:=HK.out.part (m:=m) (by rw [← HF.out]; omega) HTB.out
    rw [← HBLK.out,← HN2.out] at hok2
    have HO:=veil hok2
    clear hok2
    go_wp2
    go_roundw
    case rel =>
     refine ⟨_,k + m,r - m,c - m,by omega,by omega,rfl,(HH3.out.1).congr fun j _ => by rw [Nat.add_assoc],⟨s,blk',?_,?_⟩,HH3.out.2.2.1,HH3.out.2.1⟩
     ·
      rw [← Nat.add_assoc,← HN.out,← HN2.out]; exact HO.out
     ·
      rw [← Nat.add_assoc,← HN.out,← HN2.out]; exact HH3.out.2.2.2
    case measure => exact HSZ.out
theorem infoB3 : (Tryd.prog.info? 5).map (fun i => (i.zero,i.size,i.bytes)) = some (some (.int .u8 0),1,1):=by kernel_rfl
def padB (len : Nat) (i : Nat) : Nat:=padded (fun _ => 0) len (len + i)
def padN (len : Nat) : Nat:=64 * nBlocks len - len
theorem padN_eq (len : Nat) : padN len = 9 + (64 - (len + 9) % 64) % 64:=by unfold padN nBlocks; omega
theorem padN_all (len : Nat) : len + padN len = 64 * nBlocks len:=by unfold padN nBlocks; omega
theorem padB_lt (len i : Nat) : padB len i < 256:=by
 unfold padB padded
 rw [if_neg (by omega)]
 split
 ·
  omega
 ·
  split
  ·
   omega
  ·
   exact Nat.mod_lt _ (by omega)
theorem cat_pad (b : Nat → Nat) (len : Nat) : cat b len (padB len) = padded b len:=by
 funext i
 unfold cat padB
 by_cases h : i < len
 ·
  rw [if_pos h]; unfold padded; rw [if_pos h]
 ·
  rw [if_neg h,show len + (i - len) = i by omega]; unfold padded; rw [if_neg h,if_neg h]
def padK (len k : Nat) (j : Nat) : Nat:=if j = 0 then 128 else if j + k < padN len then 0 else padB len j
theorem padK_all (len j : Nat) (hj : j < padN len) : padK len 8 j = padB len j:=by
 unfold padK
 by_cases h : j = 0
 ·
  subst h; rw [if_pos rfl]; unfold padB padded; rw [if_neg (by omega),if_pos (by omega)]
 ·
  rw [if_neg h]
  by_cases h2 : j + 8 < padN len
  ·
   rw [if_pos h2]; unfold padB padded
   have:=padN_all len
   rw [if_neg (by omega),if_neg (by omega),if_pos (by omega)]
  ·
   rw [if_neg h2]
theorem padB_last {len k : Nat} (hk : k < 8) : padB len (padN len - 1 - k) = 8 * len / 256 ^ k % 256:=by
 have h1:=padN_eq len
 have h2:=padN_all len
 unfold padB padded
 rw [if_neg (by omega),if_neg (by omega),if_neg (by omega),show 64 * nBlocks len - 1 - (len + (padN len - 1 - k)) = k by omega]
theorem byte_shift (x k : Nat) : (x : Int) / 2 ^ (8 * k) % 256 = ((x / 256 ^ k % 256 : Nat) : Int):=by
 rw [Int.natCast_emod,Int.natCast_ediv,Int.natCast_pow,Nat.mul_comm 8 k,Nat.mul_comm k 8,Int.pow_mul]
 rfl
theorem padding_calls (len : Nat) (hl : len ≤ 288230376151711744) (w : World) :
  Calls Tryd.prog 75 #[.int .i64 (len : Int)] w fun e w' => e = .returned (.slice (some ⟨w.heap.size,0,none⟩) (padN len) (padN len)) ∧ w'.rowIs w.heap.size 5 (padN len) (fun j => .int .u8 (padB len j : Nat)) ∧ Below w.heap.size w w':=by
 have hP:=padN_eq len
 obtain ⟨P,hPP⟩ : ∃ P,P = padN len:=⟨_,rfl⟩
 rw [← hPP] at hP
 obtain ⟨o,ho⟩ : ∃ o,o = (len + 9) % 64:=⟨_,rfl⟩
 obtain ⟨z,hz⟩ : ∃ z,z = (64 - o) % 64:=⟨_,rfl⟩
 have e1 : ((len : Int) + 9) % 64 = (o : Int):=by omega
 have e2 : (64 - (o : Int)) % 64 = (z : Int):=by omega
 have e3 : 9 + (z : Int) = (P : Int):=by omega
 have ho64 : o < 64:=by omega
 have hz64 : z < 64:=by omega
 have hP9 : 9 ≤ P:=by omega
 have hP72 : P ≤ 72:=by omega
 have hmk:=fun W => run_make_row' (P:=Tryd.prog) 27 5 (.int .u8 0) 1 Tryd.underlying27 infoB3 rfl .i64 .i64 P (by omega) (by omega) W
 have HP:=veil hPP
 clear hP hz ho hPP
 go_enter Tryd.func75,Tryd.ntmps75
 go_upto_region 5 with (fail)
 have hR:=World.rowIs_made w (.int .u8 0) P 5
 have hb : Below w.heap.size w (w.alloc (.cells (madeCells #[.int .u8 0] P) 5)):=(Below.refl _ _).alloc (Nat.le_refl _) _
 generalize w.alloc (.cells (madeCells #[.int .u8 0] P) 5) = w1 at *
 generalize hgz : w.heap.size = g at *
 have HGZ:=veil hgz
 clear hgz hmk
 have c0:=hR.cell (show 0 < P by omega)
 have f0:=hR.frozen 0
 have hP0 : 0 < P:=by omega
 go_upto_region 6 with (fail)
 have hR1 : (w1.setCell ⟨g,0,none⟩ (.int .u8 128)).rowIs g 5 P (fun j => .int .u8 (padK len 0 j : Nat)):=(hR.set 0 _).congr fun j hj => by
  unfold padK
  by_cases h : j = 0
  ·
   rw [if_pos h,if_pos h]; rfl
  ·
   rw [if_neg h,if_neg h,if_pos (by rw [← HP.out]; omega)]; rfl
 have hb1 : Below g w (w1.setCell ⟨g,0,none⟩ (.int .u8 128)):=zax hb (Nat.le_refl _) _
 generalize w1.setCell ⟨g,0,none⟩ (.int .u8 128) = w2 at *
 have e4 : (len : Int) * 8 = ((8 * len : Nat) : Int):=by omega
 obtain ⟨bc,hbc⟩ : ∃ bc,bc = 8 * len:=⟨_,rfl⟩
 have hbl : bc ≤ 2305843009213693952:=by omega
 rw [← hbc] at e4
 have HBC:=veil hbc
 clear c0 f0 hR hb hbc
 go_wp2
 go_loopw [25] (fun v wr => ∃ k : Nat,k ≤ 8 ∧ v = .int .i64 (k : Int) ∧ wr.rowIs g 5 P (fun j => .int .u8 (padK len k j : Nat)) ∧ Below g w wr)
  (fun v _ => 8 - (intOf v).toNat)
 case atStart => exact ⟨0,by omega,rfl,hR1,hb1⟩
 case round =>
  obtain ⟨k,hk,rfl,hR,hb⟩:=hrel
  by_cases hlt : k < 8
  ·
   obtain ⟨d,hd⟩ : ∃ d,d = P - 1 - k:=⟨_,rfl⟩
   have hdP : d < P:=by omega
   have hdi : (P : Int) - 1 - (k : Int) = (d : Int):=by omega
   have c0:=hR.cell hdP
   have f0:=hR.frozen d
   have HD:=veil hd
   clear hd
   go_wp2
   go_roundw
   case rel =>
    refine ⟨k + 1,by omega,by go_num,(hR.set d _).congr fun j hj => ?_,zax hb (Nat.le_refl _) _⟩
    by_cases h : j = d
    ·
     rw [if_pos h,byte_shift]
     have hd:=HD.out
     unfold padK
     rw [if_neg (by omega),← HP.out,if_neg (by omega),h,hd,HP.out,padB_last hlt,HBC.out]
    ·
     rw [if_neg h]
     have hd:=HD.out
     unfold padK
     rw [← HP.out]
     by_cases h0 : j = 0
     ·
      rw [if_pos h0,if_pos h0]
     ·
      rw [if_neg h0,if_neg h0]
      by_cases h1 : j + k < P
      ·
       rw [if_pos h1,if_pos (by omega)]
      ·
       rw [if_neg h1,if_neg (by omega)]
   case measure => simp [intOf]; omega
  ·
   obtain rfl : k = 8:=by omega
   go_wp2
   go_ret
   exact ⟨by rw [HP.out,HGZ.out]; rfl,by rw [HGZ.out,← HP.out]; exact hR.congr (fun j hj => by rw [padK_all len j (by rw [← HP.out]; exact hj)]),by rw [HGZ.out]; exact hb⟩
/-! ### New,Len,Clone -/
def zH : Array Value:=arrOf 73 (hcells ⟨0,0,0,0,0,0,0,0⟩ (fun _ => 0) 0)
theorem zH_size : zH.size = 73:=zbb _ _
theorem zero_hash (w : World) : (zeroValue 114).run Tryd.prog w = .ok (.agg zH) w:=(zero_of_info (P:=Tryd.prog) (t:=114) (v:=.agg zH) (n:=73) (by kernel_rfl)).1 w
theorem hok_none (b : Nat → Nat) : HOk b 0 (blocksN (fun _ => 0) 0) (fun _ => 0):=⟨rfl,fun _ h => by omega,fun _ => by decide⟩
theorem new_calls (w : World) :
  Calls Tryd.prog 41 #[] w fun e w' => e = .returned (.pointer (some ⟨w.heap.size,0,none⟩)) ∧ (∀ b,HashIs w' w.heap.size b 0) ∧ Below w.heap.size w w':=by
 have z1:=zero_hash
 have z2:=zH_size
 go_enter Tryd.func41,Tryd.ntmps41
 go_wp2
 generalize hX : Obj.cells _ 114 = X
 have hX2 : X = .cells (arrOf 73 (hcells (blocksN (fun _ => 0) 0) (fun _ => 0) 0)) 114:=by rw [← hX]; rfl
 clear hX
 subst hX2
 have hr : HRow (w.alloc (.cells (arrOf 73 (hcells (blocksN (fun _ => 0) 0) (fun _ => 0) 0)) 114)) w.heap.size (blocksN (fun _ => 0) 0) (fun _ => 0) 0:=zcd w 73 114 _ rfl
 have hb : Below w.heap.size w (w.alloc (.cells (arrOf 73 (hcells (blocksN (fun _ => 0) 0) (fun _ => 0) 0)) 114)):=(Below.refl _ _).alloc (Nat.le_refl _) _
 go_ret
 exact ⟨rfl,fun b => ⟨_,_,hok_none b,hr⟩,hb⟩
theorem infoH : (Tryd.prog.info? 114).map (·.size) = some 73:=by kernel_rfl
theorem hone (s : St) (blk : Nat → Nat) (len : Nat) : (arrOf 73 (hcells s blk len)).all (·.oneCell') = true:=zca fun j _ => by
 unfold hcells
 split
 ·
  rfl
 ·
  split <;> rfl
theorem clone_calls (g L : Nat) (b : Nat → Nat) (w : World) (hH : HashIs w g b L) :
  Calls Tryd.prog 74 #[.pointer (some ⟨g,0,none⟩)] w fun e w' => e = .returned (.pointer (some ⟨w.heap.size,0,none⟩)) ∧ HashIs w' w.heap.size b L ∧ Below w.heap.size w w':=by
 obtain ⟨s,blk,hok,hrow⟩:=hH
 have hg:=blkOf hrow
 obtain ⟨X,hX⟩ : ∃ X,X = arrOf 73 (hcells s blk L):=⟨_,rfl⟩
 rw [← hX] at hg
 have HG:=veil hg
 have HX:=veil (show X.size = 73 ∧ X.all (·.oneCell') = true from ⟨by rw [hX,zbb],by rw [hX]; exact hone s blk L⟩)
 have HI:=veil (show (Tryd.prog.info? 114).map (·.size) = some X.size by rw [HX.out.1]; exact infoH)
 have HXX:=veil hX
 have z1:=zero_hash
 have HO:=veil hok
 clear hg hX hok hrow
 go_enter Tryd.func74,Tryd.ntmps74
 go_wp2_with (first
  | ((with_reducible refine zbw 6 ?_); refine wpList_load_row rfl 114 _ rfl g rfl 114 X (0,0) _ HG.out Tryd.underlying114 rfl HI.out ?_)
  | ((with_reducible refine zck ?_); refine wpList_store_row rfl 114 _ _ rfl w.heap.size X rfl rfl 114 _ (heap_alloc_last w _) HI.out (by rw [HX.out.1,zH_size]) HX.out.2 ?_; rw [World.setRow_alloc_new]))
 go_ret
 refine ⟨rfl,⟨s,blk,HO.out,?_⟩,(Below.refl _ _).alloc (Nat.le_refl _) _⟩
 rw [HXX.out]
 exact zcd w 73 114 _ rfl
def dByte (s : St) (i : Nat) : Nat:=s.at (i / 4) / 256 ^ (3 - i % 4) % 256
def dgst (b : Nat → Nat) (len : Nat) : Array Value:=arrOf 32 fun i => .int .u8 (dByte (shaSt b len) i : Nat)
theorem infoD : (Tryd.prog.info? 38).map (·.size) = some 32:=by kernel_rfl
theorem zeros32 : (#[.int .u8 0,.int .u8 0,.int .u8 0,.int .u8 0,.int .u8 0,.int .u8 0,.int .u8 0,.int .u8 0,.int .u8 0,.int .u8 0,.int .u8 0,.int .u8 0,.int .u8 0,.int .u8 0,.int .u8 0,.int .u8 0,.int .u8 0,.int .u8 0,.int .u8 0,.int .u8 0,.int .u8 0,.int .u8 0,.int .u8 0,.int .u8 0,.int .u8 0,.int .u8 0,.int .u8 0,.int .u8 0,.int .u8 0,.int .u8 0,.int .u8 0,.int .u8 0] : Array Value) = arrOf 32 (fun _ => .int .u8 0):=rfl
theorem shaSt_of {b : Nat → Nat} {L : Nat} {s : St} {blk : Nat → Nat} (h : HOk (cat b L (padB L)) (L + padN L) s blk) : s = shaSt b L:=by
 rw [h.s,padN_all,cat_pad,Nat.mul_div_cancel_left _ (by decide : 0 < 64)]
 rfl
theorem hsum_calls (g L : Nat) (b : Nat → Nat) (hL : L ≤ 1048576) (w : World) (hK : KT w) (hH : HashIs w g b L) :
  Calls Tryd.prog 43 #[.pointer (some ⟨g,0,none⟩)] w fun e w' => e = .returned (.agg (dgst b L)) ∧ Below w.heap.size w w':=by
 go_enter Tryd.func43,Tryd.ntmps43
 go_upto_region 1 with (fail)
 rw [zeros32]
 have hR0 : (w.alloc (.cells (arrOf 32 (fun _ => .int .u8 0)) 38)).rowIs w.heap.size 38 32 (fun _ => .int .u8 0):=zcd w 32 38 _ rfl
 have hb0 : Below w.heap.size w (w.alloc (.cells (arrOf 32 (fun _ => .int .u8 0)) 38)):=(Below.refl _ _).alloc (Nat.le_refl _) _
 have hK0:=hK.alloc (.cells (arrOf 32 (fun _ => .int .u8 0)) 38)
 have hH0:=hH.alloc (.cells (arrOf 32 (fun _ => .int .u8 0)) 38)
 have hg0 : 0 < w.heap.size:=hK.lt
 generalize w.alloc (.cells (arrOf 32 (fun _ => .int .u8 0)) 38) = w1 at *
 generalize hgr : w.heap.size = gR at *
 have HGR:=veil hgr
 clear hgr hK hH
 go_wp2_with fail
 refine (clone_calls g L b w1 hH0).mono ?_
 rintro e w2 ⟨rfl,hC,hb2⟩
 have hR2:=zak hR0 hb2 hR0.lt
 have hK2:=hK0.call hb2
 have hH2:=hH0.call hb2
 have hB2:=hb0.trans (hb2.mono (Nat.le_of_lt hR0.lt))
 have hgC : gR < w1.heap.size:=hR0.lt
 have hz2:=hC.lt
 generalize w1.heap.size = gC at *
 have cL:=hH2.len
 clear hR0 hK0 hH0 hb0 hb2
 go_wp2_with fail
 refine (padding_calls L (by omega) w2).mono ?_
 rintro e w3 ⟨rfl,hP,hb3⟩
 have hC3:=hC.call hb3
 have hK3:=hK2.call hb3
 have hR3:=zak hR2 hb3 hR2.lt
 have hB3:=hB2.trans (hb3.mono (by omega))
 have hS3 : Src w3 (some ⟨w2.heap.size,0,none⟩) (padN L) (padB L) gC:=.inr ⟨_,0,rfl,hP.lt,by omega,fun j hj => by rw [Nat.zero_add]; exact hP.cell hj⟩
 clear hC hK2 hR2 hB2 hb3 cL hH2 hP
 go_wp2_with fail
 refine (zew gC b L _ (padN L) (padN L) (padB L) (padB_lt L) (Nat.le_refl _) (by have:=padN_eq L; omega) (by omega) w3 hK3 hC3 hS3).mono ?_
 rintro e w4 ⟨rfl,⟨s,blk,hok,hrow⟩,hb4⟩
 have hR4:=zei hR3 hb4 (by omega)
 have hB4:=hB3.trans (But.new hb4 (B:=gR) (by omega) (by have:=hR3.lt; omega))
 obtain rfl:=shaSt_of hok
 clear hR3 hB3 hS3 hC3 hK3 hb4 hok
 obtain ⟨sh,hsh⟩ : ∃ sh,sh = shaSt b L:=⟨_,rfl⟩
 rw [← hsh] at hrow
 have HSH:=veil hsh
 clear hsh
 have hlt4 : gR < w4.heap.size:=hR4.lt
 go_upto_region 4 with (fail)
 rw [zeros32]
 have hO5 : (w4.alloc (.cells (arrOf 32 (fun _ => .int .u8 0)) 38)).rowIs w4.heap.size 38 32 (fun _ => .int .u8 0):=zcd w4 32 38 _ rfl
 have hR5:=hR4.alloc (.cells (arrOf 32 (fun _ => .int .u8 0)) 38)
 have hB5:=hB4.alloc (by omega) (.cells (arrOf 32 (fun _ => .int .u8 0)) 38)
 have hw5:=veil (hrow.alloc (.cells (arrOf 32 (fun _ => .int .u8 0)) 38)).words
 generalize w4.alloc (.cells (arrOf 32 (fun _ => .int .u8 0)) 38) = w5 at *
 generalize hgo : w4.heap.size = gO at *
 have hgRO : gR < gO:=by omega
 clear hrow hR4 hB4 hgo
 have kx : ∀ j : Nat,j < 8 → ∀ W,(Instr.index 111 (.agg (stArr sh)) (.int .i64 (j : Int))).run Tryd.prog W = .ok (.int .u32 (sh.at j : Nat)) W:=fun j hj W =>
  zdx (P:=Tryd.prog) (t:=111) (v:=.int .u32 (sh.at j : Nat)) Tryd.underlying111 (by kernel_rfl) (fun W => run_part_plain (P:=Tryd.prog) W (e:=110) (by kernel_rfl) (off:=j) (zcw (n:=8) (fun i => .int .u32 (sh.at i : Nat)) hj)) hj .i64 W
 have KX:=veil kx
 have HSL:=veil (stList sh)
 clear kx
 go_wp2_with ((with_reducible refine zbw 20 ?_); refine wpList_load_mid rfl 111 _ rfl gC 0 rfl _ _ hw5.out Tryd.underlying111 rfl (by simpa using infoS) ?_; rw [HSL.out]; generalize hSA : stArr sh = SA at *; have HSA:=veil hSA; clear hSA)
 clear hw5
 go_loopw [21] (fun v wr => ∃ i : Nat,i ≤ 8 ∧ v = .int .i64 (i : Int) ∧ wr.rowIs gO 38 32 (fun p => .int .u8 ((if p < 4 * i then dByte sh p else 0 : Nat) : Int)) ∧ wr.rowIs gR 38 32 (fun _ => .int .u8 0) ∧ Below gR w wr)
  (fun v _ => 8 - (intOf v).toNat)
 case atStart => exact ⟨0,by omega,rfl,hO5,hR5,hB5⟩
 case round =>
  obtain ⟨i,hi,rfl,hO,hR,hB⟩:=hrel
  by_cases hlt : i < 8
  ·
   have ki:=KX.out i hlt
   obtain ⟨x,hx⟩ : ∃ x,x = sh.at i:=⟨_,rfl⟩
   rw [← hx] at ki
   have HX:=veil hx
   have hd : decide ((i : Int) < 8) = true:=by simp; omega
   clear hx
   go_wp2
   go_loopw [25] (fun v wr => ∃ j : Nat,j ≤ 4 ∧ v = .int .i64 (j : Int) ∧ wr.rowIs gO 38 32 (fun p => .int .u8 ((if p < 4 * i + j then dByte sh p else 0 : Nat) : Int)) ∧ wr.rowIs gR 38 32 (fun _ => .int .u8 0) ∧ Below gR w wr)
    (fun v _ => 4 - (intOf v).toNat)
   case atStart => exact ⟨0,by omega,rfl,hO,hR,hB⟩
   case round =>
    obtain ⟨j,hj,rfl,hO,hR,hB⟩:=hrel
    by_cases hlj : j < 4
    ·
     obtain ⟨p,hp⟩ : ∃ p,p = 4 * i + j:=⟨_,rfl⟩
     have hp32 : p < 32:=by omega
     have hpi : (i : Int) * 4 + (j : Int) = (p : Int):=by omega
     have c0:=hO.cell hp32
     have f0:=hO.frozen p
     have HP:=veil hp
     clear hp
     go_wp2
     go_roundw
     case rel =>
      refine ⟨j + 1,by omega,by go_num,(hO.set p _).congr fun q hq => ?_,zbh hR (by omega) _,zax hB (by omega) _⟩
      have hp:=HP.out
      by_cases h : q = p
      ·
       rw [if_pos h,if_pos (by omega),byte_shift]
       unfold dByte
       rw [show q / 4 = i by omega,show 3 - q % 4 = 3 - j by omega,← HX.out]
      ·
       rw [if_neg h]
       by_cases h2 : q < 4 * i + j
       ·
        rw [if_pos h2,if_pos (by omega)]
       ·
        rw [if_neg h2,if_neg (by omega)]
     case measure => simp [intOf]; omega
    ·
     have e4 : j = 4:=by omega
     have hjf : decide ((j : Int) < 4) = false:=by simp; omega
     have hO : wr.rowIs gO 38 32 (fun p => .int .u8 ((if p < 4 * (i + 1) then dByte sh p else 0 : Nat) : Int)):=hO.congr fun p _ => by rw [e4,show 4 * (i + 1) = 4 * i + 4 by omega]
     clear e4 hlj hj
     go_wp2
     go_roundw
     case rel => exact ⟨i + 1,by omega,by go_num,hO,hR,hB⟩
     case measure => simp [intOf]; omega
  ·
   have e8 : i = 8:=by omega
   have hif : decide ((i : Int) < 8) = false:=by simp; omega
   have hO : wr.rowIs gO 38 32 (fun p => .int .u8 (dByte sh p : Nat)):=hO.congr fun p hp => by rw [if_pos (by omega)]
   have HA:=veil (blkOf hO)
   have HN:=veil (blkOf hR)
   obtain ⟨D,hD⟩ : ∃ D,D = arrOf 32 (fun p => .int .u8 (dByte sh p : Nat)):=⟨_,rfl⟩
   rw [← hD] at HA
   have hs : D.size = 32:=by rw [hD,zbb]
   have h1 : D.all (·.oneCell') = true:=by rw [hD]; exact zca fun _ _ => rfl
   have HZ:=veil (And.intro hs (And.intro h1 (show (Tryd.prog.info? 38).map (·.size) = some D.size by rw [hs]; exact infoD)))
   have HD:=veil (show D = dgst b L by rw [hD,HSH.out]; rfl)
   clear hs h1 hD e8 hlt hi hO hR
   go_wp2_with (first
    | ((with_reducible refine zbw 41 ?_); refine wpList_load_row rfl 38 _ rfl gO rfl 38 D (0,0) _ HA.out Tryd.underlying38 rfl HZ.out.2.2 ?_)
    | ((with_reducible refine zck ?_); refine wpList_store_row rfl 38 _ _ rfl gR D rfl rfl 38 _ HN.out HZ.out.2.2 (by rw [HZ.out.1,zbb]) HZ.out.2.1 ?_))
   exact bodyPost_ret (results_cell_row rfl _ _ gR 38 D (0,0) _ rfl (setRow_heap wr gR _ D 38 (0,0) HN.out) Tryd.underlying38 rfl HZ.out.2.2) rfl ⟨by rw [HD.out],by rw [HGR.out]; exact zcy hB (Nat.le_refl _) _⟩
theorem zch (b : Nat → Nat) (n : Nat) : (dgst b n).size = 32:=zbb _ _
theorem Src.at {w : World} {A : Option Addr} {n g g' : Nat} {y : Nat → Nat} (h : Src w A n y g) (hg : w.heap.size ≤ g') : Src w A n y g':=by
 rcases h with h | ⟨b,o,ha,hlt,_,hc⟩
 ·
  exact .inl h
 ·
  exact .inr ⟨b,o,ha,hlt,by omega,hc⟩
theorem zgc (b y : Nat → Nat) : cat b 0 y = y:=by funext i; unfold cat; rw [if_neg (by omega),Nat.sub_zero]
theorem sum_calls (A : Option Addr) (n c : Nat) (y : Nat → Nat) (hy : ∀ j,y j < 256) (hnc : n ≤ c) (hn : n ≤ 1048576) (w : World) (hK : KT w) (hS : Src w A n y w.heap.size) :
  Calls Tryd.prog 18 #[.slice A n c] w fun e w' => e = .returned (.agg (dgst y n)) ∧ Below w.heap.size w w':=by
 have hS0:=hS.at (Nat.le_refl w.heap.size)
 go_enter Tryd.func18,Tryd.ntmps18
 go_upto_region 1 with (fail)
 rw [zeros32]
 have hR0 : (w.alloc (.cells (arrOf 32 (fun _ => .int .u8 0)) 38)).rowIs w.heap.size 38 32 (fun _ => .int .u8 0):=zcd w 32 38 _ rfl
 have hb0 : Below w.heap.size w (w.alloc (.cells (arrOf 32 (fun _ => .int .u8 0)) 38)):=(Below.refl _ _).alloc (Nat.le_refl _) _
 have hK0:=hK.alloc (.cells (arrOf 32 (fun _ => .int .u8 0)) 38)
 have hg0 : 0 < w.heap.size:=hK.lt
 have hS1:=(hS.at (g':=w.heap.size + 1) (by omega)).below hb0
 have hsz : (w.alloc (.cells (arrOf 32 (fun _ => .int .u8 0)) 38)).heap.size = w.heap.size + 1:=by simp
 generalize w.alloc (.cells (arrOf 32 (fun _ => .int .u8 0)) 38) = w1 at *
 generalize hgr : w.heap.size = gR at *
 have HGR:=veil hgr
 have HY:=veil hy
 clear hgr hK hS hS0 hy
 go_wp2_with fail
 refine (new_calls w1).mono ?_
 rintro e w2 ⟨rfl,hC,hb2⟩
 have hR2:=zak hR0 hb2 hR0.lt
 have hK2:=hK0.call hb2
 have hB2:=hb0.trans (hb2.mono (by omega))
 have hS2:=hS1.below hb2
 rw [hsz] at hC ⊢
 have HC:=veil (hC (fun _ => 0))
 clear hR0 hK0 hb0 hb2 hS1 hC hsz
 go_wp2_with fail
 refine (zew (gR + 1) (fun _ => 0) 0 A n c y HY.out hnc (by omega) (by omega) w2 hK2 HC.out hS2).mono ?_
 rintro e w3 ⟨rfl,hH3,hb3⟩
 rw [Nat.zero_add,zgc] at hH3
 have hR3:=zei hR2 hb3 (by omega)
 have hK3:=hK2.grown hb3 (by omega)
 have hB3:=hB2.trans (But.new hb3 (B:=gR) (by omega) (by have:=hR2.lt; omega))
 clear hR2 hK2 hB2 hS2 HC hb3
 go_wp2_with fail
 refine (hsum_calls (gR + 1) n y hn w3 hK3 hH3).mono ?_
 rintro e w4 ⟨rfl,hb4⟩
 have hR4:=zak hR3 hb4 hR3.lt
 have hB4:=hB3.trans (hb4.mono (by have:=hR3.lt; omega))
 have HN:=veil (blkOf hR4)
 have HZ:=veil (And.intro (zch y n) (And.intro (show (dgst y n).all (·.oneCell') = true from zca fun _ _ => rfl) (show (Tryd.prog.info? 38).map (·.size) = some (dgst y n).size by rw [zch]; exact infoD)))
 obtain ⟨D,hD⟩ : ∃ D,D = dgst y n:=⟨_,rfl⟩
 rw [← hD] at HZ ⊢
 have HD:=veil hD
 clear hR3 hK3 hB3 hH3 hb4 hR4 hD
 go_wp2_with ((with_reducible refine zck ?_); refine wpList_store_row rfl 38 _ _ rfl gR D rfl rfl 38 _ HN.out HZ.out.2.2 (by rw [HZ.out.1,zbb]) HZ.out.2.1 ?_)
 exact bodyPost_ret (results_cell_row rfl _ _ gR 38 D (0,0) _ rfl (setRow_heap w4 gR _ D 38 (0,0) HN.out) Tryd.underlying38 rfl HZ.out.2.2) rfl ⟨by rw [HD.out],by rw [HGR.out]; exact zcy hB4 (Nat.le_refl _) _⟩
section
variable {w wr w' : World} {gR gT gH gK N : Nat} {tx : Nat → Value} {st st' : Nat → Value}
end
def hst (s : St) : Nat → Value:=fun j => .int .u32 (s.at j : Nat)
theorem wrap8 (n : Int) : IntKind.u8.wrap n = n % 256:=by simp [IntKind.wrap,IntKind.signed,IntKind.bits]
theorem xor8 (a b : Nat) (ha : a < 256) (hb : b < 256) : bits .xor .u8 (a : Int) (b : Int) = ((a ^^^ b : Nat) : Int):=by
 have hx : a ^^^ b < 2 ^ 8:=Nat.xor_lt_two_pow (by omega) (by omega)
 have e1 : (BitVec.ofInt 8 (a : Int)).toNat = a:=by rw [BitVec.ofInt_natCast,BitVec.toNat_ofNat]; exact Nat.mod_eq_of_lt (by omega)
 have e2 : (BitVec.ofInt 8 (b : Int)).toNat = b:=by rw [BitVec.ofInt_natCast,BitVec.toNat_ofNat]; exact Nat.mod_eq_of_lt (by omega)
 show IntKind.u8.wrap ((BitVec.ofInt 8 (a : Int) ^^^ BitVec.ofInt 8 (b : Int)).toNat : Int) = _
 rw [BitVec.toNat_xor,e1,e2,wrap8]
 omega
theorem xor8_lt {a b : Nat} (ha : a < 256) (hb : b < 256) : a ^^^ b < 256:=Nat.xor_lt_two_pow (n:=8) (by omega) (by omega)
def upTo (y : Nat → Nat) (n j : Nat) : Nat:=if j < n then y j else 0
def kb (y : Nat → Nat) (n : Nat) : Nat → Nat:=if n > 64 then upTo (fun j => dByte (shaSt y n) j) 32 else upTo y n
theorem upTo_lt {y : Nat → Nat} (hy : ∀ j,y j < 256) (n j : Nat) : upTo y n j < 256:=by
 unfold upTo
 split
 ·
  exact hy j
 ·
  omega
theorem zhi (s : St) (i : Nat) : dByte s i < 256:=Nat.mod_lt _ (by omega)
theorem kb_lt {y : Nat → Nat} (hy : ∀ j,y j < 256) (n j : Nat) : kb y n j < 256:=by
 unfold kb
 split
 ·
  exact upTo_lt (fun j => zhi _ j) _ _
 ·
  exact upTo_lt hy _ _
def kx (k : Nat → Nat) (x : Nat) (j : Nat) : Value:=.int .u8 ((k j ^^^ x : Nat) : Int)
end Go.Proofs.YtmfjigcdhijkjaaDoor
namespace Go.Proofs.YtmfjigcdhijkjaaDoor
open Go.ChangeShapes Go.WideShapes Go.ChangeAt Go.RowKit
theorem own : ownKnob Tryd.prog.godebug = none:=by kernel_rfl
def laidL : List (String × DataW Unit):=[("clapper/sha.roundWords",Rows.laid_clapper_sha_roundWords)]
theorem gRound : Tryd.prog.globalNamed "clapper/sha.roundWords" = some 0:=by kernel_rfl
theorem tRound : (Tryd.prog.globals[0]?).map (·.type) = some 126:=by kernel_rfl
theorem cellsU32 : Tryd.prog.cellsOf 110 = 1:=by kernel_rfl
theorem laid_list : Rows.laid_clapper_sha_roundWords (H:=Unit) = .agg (kList.map fun (k : Nat) => (.lit (.int .u32 (k : Int)) : DataW Unit)):=rfl
theorem kc_get {j : Nat} (hj : j < 64) : kList[j]? = some (kc j):=by
 have hl : kList.length = 64:=by decide
 unfold kc
 simp [List.getD,hl,hj]
theorem zgn {W : World} (h : laidMetH Tryd.prog laidL W) : KT W:=by
 unfold laidL at h
 rw [MakeChecks.laidMetH_plain _ _ _ (by kernel_rfl)] at h
 obtain ⟨ps,⟨g0,t0,cs0,f0,p0,q0,hg0,ht0,hv0,hd0,_⟩,_,_⟩:=h
 obtain rfl:=Option.some.inj (gRound.symm.trans hg0)
 obtain rfl:=Option.some.inj (tRound.symm.trans ht0)
 obtain ⟨xs,m1,rfl,hx1,hlen,hn,hel⟩:=DataW.trod_array Tryd.underlying126 hd0
 have hx2 : xs.map (·.1) = kList.map fun (k : Nat) => (.lit (.int .u32 (k : Int)) : DataW Unit):=by
  rw [laid_list] at hx1
  simp only [Prod.mk.injEq,DataW.agg.injEq] at hx1
  exact hx1.1.symm
 have cell : ∀ j,j < 64 → W.cell? ⟨0,j,none⟩ = some (.int .u32 (kc j : Nat)):=fun j hj => by
  have h1:=hel j hj
  rw [cellsU32,Nat.mul_one] at h1
  obtain ⟨x,hx⟩ : ∃ x,xs[j]? = some x:=⟨xs[j],by rw [List.getElem?_eq_getElem]⟩
  rw [hx] at h1
  obtain ⟨k,e1,e2,_⟩:=DataW.trod_int Tryd.underlying110 h1
  have h3 : (xs.map (·.1))[j]? = some (.lit (.int .u32 k)):=by simp [hx,e2]
  rw [hx2] at h3
  simp only [List.getElem?_map,kc_get hj,Option.map_some,Option.some.injEq,DataW.lit.injEq,Lit.int.injEq,true_and] at h3
  have h4 : cs0.toList[j]? = some (.int .u32 k):=by
   have : ((cs0.toList.drop j).take 1)[0]? = some (.int .u32 k):=by rw [e1]; rfl
   simpa [List.getElem?_take,List.getElem?_drop] using this
  have h5:=World.var?_cell hg0 hv0 j
  rw [h5,h3]
  simpa using h4
 exact ⟨World.block_lt_of_cell? W _ (cell 0 (by decide)),cell⟩
theorem door_met (os : Os) (args : Array Value) : laidMetH Tryd.prog laidL ((World.doorLaid Tryd.prog 14 os).forCall (fun _ _ => 0) ⟨#[],args,[]⟩).memory :=
 laidMetH_of_parts3 (fuel:=8) (laidMet_of_run' 8 (by kernel_rfl) (by kernel_rfl)) (by kernel_rfl) (by kernel_rfl)
end Go.Proofs.YtmfjigcdhijkjaaDoor
namespace Go.Proofs.YtmfjigcdhijkjaaDoor
open Go.ChangeShapes Go.WideShapes Go.ChangeAt Go.RowKit
/-! ### a text -/
/-! ### '==' between sums -/
/-! ### slices cut anywhere -/
theorem src_now {w wr : World} {A : Option Addr} {n g : Nat} {y : Nat → Nat} (h : Src w A n y w.heap.size) (hb : Below w.heap.size w wr) (hg : w.heap.size ≤ g) : Src wr A n y g:=(h.at hg).below hb
theorem from_now {w wr : World} {A : Option Addr} {n : Nat} {y : Nat → Nat} (h : Src w A n y w.heap.size) (hb : Below w.heap.size w wr) : From wr A n (fun j => .int .u8 (y j : Nat)):=by
 rcases h.below hb with h | ⟨b,o,rfl,_,_,hc⟩
 ·
  exact .inl h
 ·
  exact .inr ⟨_,rfl,fun j hj => by rw [Addr.add_mid]; exact hc j hj⟩
theorem zgp {w wr : World} (h : KT w) (hb : Below w.heap.size w wr) : KT wr:=h.call hb
theorem but_below {w w1 w2 : World} {r : Nat} (h : Below w.heap.size w w1) (hb : But r w1 w2) (hr : w.heap.size ≤ r) : Below w.heap.size w w2:=h.trans (But.new hb hr h.size)
theorem Own.but {w w' : World} {base e n r : Nat} {v : Value} {f : Nat → Value} (o : Own w base e v n f) (hb : But r w w') (hr : r < base) : Own w' base e v n f :=
 o.kept hb (by
  cases h : v.ownBlock with
  | none => exact .inl rfl
  | some k => exact .inr (fun e => by have:=(o.lt h).1; simp at e; omega))
theorem Own.call {w w' : World} {base e n : Nat} {v : Value} {f : Nat → Value} (o : Own w base e v n f) (hb : Below w.heap.size w w') : Own w' base e v n f:=o.below hb (Nat.le_refl _)
theorem HashIs.grown {w w' : World} {g L : Nat} {b : Nat → Nat} {row : Option Nat} (h : HashIs w g b L) (hg : w.grownBy w' row) (hne : some g ≠ row) : HashIs w' g b L:=h.of_block (hg.block g h.lt hne)
theorem cat_lt {y0 y1 : Nat → Nat} {n : Nat} (h0 : ∀ j,y0 j < 256) (h1 : ∀ j,y1 j < 256) (j : Nat) : cat y0 n y1 j < 256:=by
 unfold cat
 split
 ·
  exact h0 j
 ·
  exact h1 _
/-! ### arguments -/
theorem laidOut : laidOutB Tryd.prog = true:=by kernel_rfl
theorem cellsByte : Tryd.prog.cellsOf 5 = 1:=by kernel_rfl
theorem add_plain (b o j : Nat) : (⟨b,o,none⟩ : Addr).add j = ⟨b,o + j,none⟩:=Addr.add_mid b o j
theorem src_of {H : Type} {enc : TypeId × Value → H} {W : World} {A : Option Addr} {len cap fuel : Nat} {d : DataW H} {p : List MemPlace}
  (hf : DataW.trod enc Tryd.prog W 0 (fun _ => true) true fuel 27 [.slice A len cap] = some (d,p)) (hlt : ∀ x ∈ p,x.block < W.heap.size) : ∃ y : Nat → Nat,(∀ j,y j < 256) ∧ Src W A len y W.heap.size ∧ len ≤ cap:=by
 rcases open_ints Tryd.underlying27 Tryd.underlying5 cellsByte hf with ⟨hcs,hx⟩ | ⟨a,len',cap',zs,hcs,_,hlc,_,hz,hx,hcell,hwz⟩
 ·
  simp only [List.cons.injEq,Value.slice.injEq,and_true] at hcs
  obtain ⟨_,rfl,rfl⟩:=hcs
  exact ⟨fun _ => 0,fun _ => (by decide : (0 : Nat) < 256),.inl rfl,Nat.le_refl _⟩
 ·
  simp only [List.cons.injEq,Value.slice.injEq,and_true] at hcs
  obtain ⟨rfl,rfl,rfl⟩:=hcs
  simp only [Prod.mk.injEq] at hx
  obtain ⟨_,rfl⟩:=hx
  simp only [if_true] at hz
  have hb : ∀ j,0 ≤ zs.getD j 0 ∧ zs.getD j 0 < 256:=fun j => by
   by_cases hj : j < zs.length
   ·
    have h:=hwz (zs.getD j 0) (by rw [List.getD_eq_getElem?_getD,List.getElem?_eq_getElem hj]; exact List.getElem_mem hj)
    simp only [Lit.wf,Bool.and_eq_true,decide_eq_true_eq] at h
    have e1 : IntKind.u8.min = 0:=rfl
    have e2 : IntKind.u8.max = 255:=rfl
    omega
   ·
    rw [List.getD_eq_getElem?_getD,List.getElem?_eq_none (by omega)]; exact ⟨by decide,by decide⟩
  refine ⟨fun j => (zs.getD j 0).toNat,fun j => by have:=hb j; show (zs.getD j 0).toNat < 256; omega,?_,hlc⟩
  by_cases h0 : len = 0
  ·
   exact .inl h0
  ·
   obtain ⟨b,off,spot⟩:=a
   have hspot : spot = none:=by simpa [Addr.add] using World.cell?_spot (hcell 0 (by omega))
   subst hspot
   have hblk : b < W.heap.size:=hlt (.cell b off) (MemPlace.mem_row.2 ⟨0,by omega,by simp⟩)
   refine .inr ⟨b,off,rfl,hblk,by omega,fun j hj => ?_⟩
   rw [← add_plain,hcell j (by omega),Int.toNat_of_nonneg (hb j).1]
end Go.Proofs.YtmfjigcdhijkjaaDoor
namespace Go.Proofs.YtmfjigcdhijkjaaDoor
open Go.RowKit
open Go.Act renaming put → aP
open List renaming setIfInBounds_toArray → lA, set_cons_zero → lZ, set_cons_succ → lS
structure Parts3 (W : World) (AL : Option Addr) (nl : Nat) (A : Nat → Option Addr) (L C : Nat → Nat) (Y : Nat → Nat → Nat) : Prop where
 row : nl = 0 ∨ ∃ b o,AL = some ⟨b,o,none⟩ ∧ b < W.heap.size ∧ ∀ r,r < nl → W.cell? ⟨b,o + r,none⟩ = some (.slice (A r) (L r) (C r))
 src : ∀ r,r < nl → Src W (A r) (L r) (Y r) W.heap.size
 cap : ∀ r,r < nl → L r ≤ C r
 lt : ∀ r j,Y r j < 256
def lenN (L : Nat → Nat) : Nat → Nat
 | 0 => 0
 | i + 1 => lenN L i + L i
def textN (L : Nat → Nat) (Y : Nat → Nat → Nat) : Nat → Nat → Nat
 | 0 => fun _ => 0
 | i + 1 => cat (textN L Y i) (lenN L i) (Y i)
section
open Go.ChangeShapes Go.WideShapes Go.ChangeAt
end
end Go.Proofs.YtmfjigcdhijkjaaDoor
namespace Go.Proofs.YtmfjigcdhijkjaaDoor
open Go.RowKit
open Go.Act renaming put → aP
open List renaming setIfInBounds_toArray → lA, set_cons_zero → lZ, set_cons_succ → lS
def macIn (y : Nat → Nat) (n : Nat) (t : Nat → Nat) : Nat → Nat:=cat (fun j => kb y n j ^^^ 54) 64 t
def macOut (y : Nat → Nat) (n : Nat) (t : Nat → Nat) (m : Nat) : Nat → Nat:=cat (fun j => kb y n j ^^^ 92) 64 (fun j => dByte (shaSt (macIn y n t) (64 + m)) j)
def macD (y : Nat → Nat) (n : Nat) (t : Nat → Nat) (m : Nat) : Array Value:=dgst (macOut y n t m) 96
/-! ### steps of a region that draws its order -/
def nb (k : Nat → Nat) (n : Nat) (t : Nat → Nat) (m : Nat) : Nat → Nat:=fun j => dByte (shaSt (macOut k n t m) 96) j
theorem nb_lt (k : Nat → Nat) (n : Nat) (t : Nat → Nat) (m j : Nat) : nb k n t m j < 256:=Nat.mod_lt _ (by decide)
theorem macD_nb (k : Nat → Nat) (n : Nat) (t : Nat → Nat) (m : Nat) : macD k n t m = arrOf 32 (fun i => .int .u8 (nb k n t m i : Nat)):=rfl
theorem cat_assoc (a b c : Nat → Nat) (n m : Nat) : cat (cat a n b) (n + m) c = cat a n (cat b m c):=by
 funext i
 unfold cat
 by_cases h1 : i < n
 ·
  have h2 : i < n + m:=by omega
  simp only [h1,h2,if_true]
 ·
  by_cases h2 : i < n + m
  ·
   have h3 : i - n < m:=by omega
   simp only [h1,h2,h3,if_true,if_false]
  ·
   have h3 : ¬ i - n < m:=by omega
   simp only [h1,h2,h3,if_false]
   congr 1; omega
theorem lenN_mono {L : Nat → Nat} {i j : Nat} (h : i ≤ j) : lenN L i ≤ lenN L j:=by
 induction j with
 | zero =>
      obtain rfl : i = 0:=by omega
      exact Nat.le_refl _
 | succ j ih =>
  by_cases e : i = j + 1
  ·
   subst e; exact Nat.le_refl _
  ·
   have:=ih (by omega)
   show _ ≤ lenN L j + L j
   omega
theorem Parts3.call {W W' : World} {AL : Option Addr} {nl : Nat} {A : Nat → Option Addr} {L C : Nat → Nat} {Y : Nat → Nat → Nat} (h : Parts3 W AL nl A L C Y) (hb : Below W.heap.size W W') : Parts3 W' AL nl A L C Y where
 row:=h.row.imp id fun ⟨b,o,e,hlt,hc⟩ => ⟨b,o,e,by have:=hb.size; omega,fun r hr => (hb.cell (p:=⟨b,o + r,none⟩) hlt).trans (hc r hr)⟩
 src:=fun r hr => ((h.src r hr).at (g':=W'.heap.size) hb.size).below hb
 cap:=h.cap
 lt:=h.lt
theorem zhd (k : Nat → Nat) (hk : ∀ j,k j < 256) (x : Nat) (hx : x < 256) (AL : Option Addr) (nl cl : Nat) (A : Nat → Option Addr) (L C : Nat → Nat) (Y : Nat → Nat → Nat) (hnl : nl ≤ 100000) (hT : lenN L nl ≤ 100000) (w : World) (hK : KT w) (hP : Parts3 w AL nl A L C Y) :
  Calls Tryd.prog 103 #[.agg (arrOf 64 fun j => .int .u8 (k j : Nat)),.int .u8 (x : Int),.slice AL nl cl] w fun e w' => e = .returned (.agg (dgst (cat (fun j => k j ^^^ x) 64 (textN L Y nl)) (64 + lenN L nl))) ∧ Below w.heap.size w w':=by
 obtain ⟨F,hF⟩ : ∃ F,F = arrOf 64 fun j => Value.int .u8 (k j : Nat):=⟨_,rfl⟩
 rw [← hF]
 have HF:=veil hF
 have HK:=veil hK
 have HP:=veil hP
 have HX:=veil (And.intro hx hk)
 have HT:=veil hT
 have hg0:=hK.lt
 clear hF hK hP hx hk hT
 go_enter Tryd.func103,Tryd.ntmps103
 go_upto_region 1 with (fail)
 rw [zeros32]
 have hB0 : (w.alloc (.cells F 112)).rowIs w.heap.size 112 64 (fun j => Value.int .u8 (k j : Nat)):=by rw [HF.out]; exact zcd w 64 112 _ rfl
 have hb0 : Below w.heap.size w (w.alloc (.cells F 112)):=(Below.refl _ _).alloc (Nat.le_refl _) _
 have hz0 : (w.alloc (.cells F 112)).heap.size = w.heap.size + 1:=by simp
 generalize w.alloc (.cells F 112) = w0 at *
 have hR1:=zcd w0 32 38 (fun _ => Value.int .u8 0) rfl
 rw [hz0] at hR1
 have hB1:=hB0.alloc (.cells (arrOf 32 (fun _ => .int .u8 0)) 38)
 have hb1:=hb0.alloc hb0.size (.cells (arrOf 32 (fun _ => .int .u8 0)) 38)
 generalize w0.alloc (.cells (arrOf 32 (fun _ => .int .u8 0)) 38) = w1 at *
 clear hB0 hb0 hz0
 go_wp2
 go_loopw [11] (fun v wr => ∃ i : Nat,i ≤ 64 ∧ v = .int .i64 (i : Int) ∧ wr.rowIs w.heap.size 112 64 (fun j => .int .u8 ((if j < i then k j ^^^ x else k j : Nat) : Int)) ∧ wr.rowIs (w.heap.size + 1) 38 32 (fun _ => .int .u8 0) ∧ Below w.heap.size w wr)
  (fun v _ => 64 - (intOf v).toNat)
 case atStart => exact ⟨0,by omega,rfl,hB1,hR1,hb1⟩
 case round =>
  obtain ⟨i,hi,rfl,hRB,hR,hB⟩:=hrel
  by_cases hlt : i < 64
  ·
   obtain ⟨c,hc⟩ : ∃ c,c = k i:=⟨_,rfl⟩
   have c0:=hRB.cell hlt
   have f0:=hRB.frozen i
   rw [if_neg (Nat.lt_irrefl i),← hc] at c0
   have hxor:=xor8 c x (by rw [hc]; exact HX.out.2 i) HX.out.1
   have HC:=veil hc
   clear hc
   go_wp2
   go_roundw
   case rel =>
    refine ⟨i + 1,by omega,by go_num,(hRB.set i _).congr fun q hq => ?_,zbh hR (by omega) _,zax hB (Nat.le_refl _) _⟩
    by_cases h : q = i
    ·
     rw [if_pos h,if_pos (by omega),HC.out,h]
    ·
     rw [if_neg h]
     by_cases h2 : q < i
     ·
      rw [if_pos h2,if_pos (by omega)]
     ·
      rw [if_neg h2,if_neg (by omega)]
   case measure => simp [intOf]; omega
  ·
   have e64 : i = 64:=by omega
   have hRB : wr.rowIs w.heap.size 112 64 (fun j => .int .u8 ((k j ^^^ x : Nat) : Int)):=hRB.congr fun p hp => by rw [if_pos (by omega)]
   have hd : decide ((i : Int) < 64) = false:=by simp; omega
   clear e64 hlt hi
   go_wp2_with fail
   refine (new_calls wr).mono ?_
   rintro e w2 ⟨rfl,hC,hb2⟩
   have hRB2:=zak hRB hb2 hRB.lt
   have hR2:=zak hR hb2 hR.lt
   have hB2:=hB.trans (hb2.mono hB.size)
   have hC2:=hC (fun _ => 0)
   have hgH:=hC2.lt
   have hHR:=hR.lt
   generalize wr.heap.size = gH at *
   clear hRB hR hB hC hb2
   have hS2 : Src w2 (some ⟨w.heap.size,0,none⟩) 64 (fun j => k j ^^^ x) gH:=.inr ⟨_,0,rfl,hRB2.lt,by omega,fun j hj => by rw [Nat.zero_add]; exact hRB2.cell hj⟩
   go_wp2_with fail
   refine (zew gH (fun _ => 0) 0 _ 64 64 (fun j => k j ^^^ x) (fun j => xor8_lt (HX.out.2 j) HX.out.1) (by decide) (by decide) (by omega) w2 (zgp HK.out hB2) hC2 hS2).mono ?_
   rintro e w3 ⟨rfl,hH3,hb3⟩
   rw [Nat.zero_add,zgc] at hH3
   have hR3:=zei hR2 hb3 (by omega)
   have hB3:=but_below hB2 hb3 (by omega)
   clear hRB2 hR2 hB2 hC2 hS2 hb3
   have hH3 : HashIs w3 gH (cat (fun j => k j ^^^ x) 64 (textN L Y 0)) (64 + lenN L 0):=hH3.congr fun i hi => by unfold cat; rw [if_pos hi]
   go_wp2
   go_loopw [27] (fun v wr => ∃ i : Nat,i ≤ nl ∧ v = .int .i64 (i : Int) ∧ HashIs wr gH (cat (fun j => k j ^^^ x) 64 (textN L Y i)) (64 + lenN L i) ∧ wr.rowIs (w.heap.size + 1) 38 32 (fun _ => .int .u8 0) ∧ Below w.heap.size w wr)
    (fun v _ => nl - (intOf v).toNat)
   case atStart => exact ⟨0,by omega,rfl,hH3,hR3,hB3⟩
   case round =>
    obtain ⟨i,hi,rfl,hH,hR,hB⟩:=hrel
    by_cases hlt : i < nl
    ·
     have hd2 : decide ((i : Int) < (nl : Int)) = true:=by simp; omega
     have hd1 : decide (i < nl) = true:=by simp; omega
     have hii : (i : Int) < (nl : Int):=by omega
     obtain ⟨bl,ol,hAL,hbl,hcl⟩:=HP.out.row.resolve_left (by omega)
     have cr : wr.cell? ⟨bl,ol + i,none⟩ = some (.slice (A i) (L i) (C i)):=(hB.cell (p:=⟨bl,ol + i,none⟩) hbl).trans (hcl i hlt)
     clear hcl
     subst hAL
     go_wp2_with fail
     have hL1:=lenN_mono (L:=L) (show i + 1 ≤ nl by omega)
     have hT:=HT.out
     have hL2 : lenN L (i + 1) = lenN L i + L i:=rfl
     refine (zew gH _ (64 + lenN L i) (A i) (L i) (C i) (Y i) (HP.out.lt i) (HP.out.cap i hlt) (by omega) (by omega) wr (zgp HK.out hB) hH (src_now (HP.out.src i hlt) hB (by omega))).mono ?_
     rintro e w4 ⟨rfl,hH4,hb4⟩
     rw [cat_assoc,Nat.add_assoc] at hH4
     have hH5 : HashIs w4 gH (cat (fun j => k j ^^^ x) 64 (textN L Y (i + 1))) (64 + lenN L (i + 1)):=hH4
     clear hH4
     have hR4:=zei hR hb4 (by omega)
     have hB4:=but_below hB hb4 (by omega)
     clear hR hB hH hb4 cr hT hL1 hL2
     go_wp2
     go_roundw
     case rel => exact ⟨i + 1,by omega,by go_num,hH5,hR4,hB4⟩
     case measure => simp [intOf]; omega
    ·
     obtain rfl : i = nl:=by omega
     go_wp2_with fail
     have hT:=HT.out
     refine (hsum_calls gH _ _ (by omega) wr (zgp HK.out hB) hH).mono ?_
     rintro e w4 ⟨rfl,hb4⟩
     have hR4:=zak hR hb4 hR.lt
     have hB4:=hB.trans (hb4.mono hB.size)
     obtain ⟨y,hy⟩ : ∃ y,y = cat (fun j => k j ^^^ x) 64 (textN L Y i):=⟨_,rfl⟩
     obtain ⟨n,hn⟩ : ∃ n,n = 64 + lenN L i:=⟨_,rfl⟩
     rw [← hy,← hn]
     have HN:=veil (blkOf hR4)
     have HZ:=veil (And.intro (zch y n) (And.intro (show (dgst y n).all (·.oneCell') = true from zca fun _ _ => rfl) (show (Tryd.prog.info? 38).map (·.size) = some (dgst y n).size by rw [zch]; exact infoD)))
     obtain ⟨D,hD⟩ : ∃ D,D = dgst y n:=⟨_,rfl⟩
     rw [← hD] at HZ ⊢
     have HD:=veil (show D = dgst (cat (fun j => k j ^^^ x) 64 (textN L Y i)) (64 + lenN L i) by rw [hD,hy,hn])
     clear hD hR4 hR hB hH hb4 hy hn hT hH3 hR3 hB3
     go_wp2_with ((with_reducible refine zck ?_); refine wpList_store_row rfl 38 _ _ rfl (w.heap.size + 1) D rfl rfl 38 _ HN.out HZ.out.2.2 (by rw [HZ.out.1,zbb]) HZ.out.2.1 ?_)
     exact bodyPost_ret (results_cell_row rfl _ _ (w.heap.size + 1) 38 D (0,0) _ rfl (setRow_heap w4 (w.heap.size + 1) _ D 38 (0,0) HN.out) Tryd.underlying38 rfl HZ.out.2.2) rfl ⟨by rw [HD.out],zcy hB4 (by omega) _⟩
structure KV where
 k : Nat → Nat
 v : Nat → Nat
structure KV.Ok (s : KV) : Prop where
 k : ∀ j,s.k j < 256
 v : ∀ j,s.v j < 256
def num32 (y : Nat → Nat) : Nat:=lev (fun k => y (32 - 1 - k)) 32
theorem zfv {y : Nat → Nat} (hy : ∀ j,y j < 256) : num32 y < top:=by
 have h:=zfz (z:=fun k => y (32 - 1 - k)) (fun j => hy _) 32
 have e : 256 ^ 32 = top:=by decide +kernel
 unfold num32
 omega
def tx (v : Nat → Nat) (b : Nat) (t : Nat → Nat) : Nat → Nat:=cat v 32 (cat (fun _ => b) 1 t)
def KV.step (s : KV) : KV:=⟨s.k,nb s.k 32 s.v 32⟩
def KV.mix (s : KV) (b : Nat) (t : Nat → Nat) (m : Nat) : KV:=KV.step ⟨nb s.k 32 (tx s.v b t) (33 + m),s.v⟩
def none0 : Nat → Nat:=fun _ => 0
def KV.next (s : KV) : KV:=s.step.mix 0 none0 0
theorem KV.Ok.step {s : KV} (h : s.Ok) : s.step.Ok:=⟨h.k,fun j => nb_lt _ _ _ _ j⟩
theorem KV.Ok.mix {s : KV} (_h : s.Ok) (b : Nat) (t : Nat → Nat) (m : Nat) : (s.mix b t m).Ok:=⟨fun j => nb_lt _ _ _ _ j,fun j => nb_lt _ _ _ _ j⟩
theorem KV.Ok.next {s : KV} (h : s.Ok) : s.next.Ok:=h.step.mix _ _ _
def kv0 : KV:=⟨fun _ => 0,fun _ => 1⟩
theorem kv0_ok : kv0.Ok:=⟨fun _ => by show (0 : Nat) < 256; decide,fun _ => by show (1 : Nat) < 256; decide⟩
def be (X j : Nat) : Nat:=dg 256 X (31 - j)
theorem be_lt (X j : Nat) : be X j < 256:=Nat.mod_lt _ (by decide)
def two (D M : Nat) : Nat → Nat:=cat (be D) 32 (be M)
def kvS (D M : Nat) : KV:=(kv0.mix 0 (two D M) 64).mix 1 (two D M) 64
def kvN (D M : Nat) : Nat → KV
 | 0 => kvS D M
 | i + 1 => (kvN D M i).next
theorem kvN_ok (D M : Nat) : ∀ i,(kvN D M i).Ok
 | 0 => (kv0_ok.mix _ _ _).mix _ _ _
 | i + 1 => (kvN_ok D M i).next
def numN (D M i : Nat) : Nat:=num32 (kvN D M i).step.v
theorem numN_lt (D M i : Nat) : numN D M i < top:=zfv (kvN_ok D M i).step.v
def outN (D M : Nat) : Nat → List Nat
 | 0 => []
 | i + 1 => if mayB (numN D M i) = true then outN D M i ++ [numN D M i] else outN D M i
theorem outN_step (D M i : Nat) : (outN D M i).length ≤ (outN D M (i + 1)).length ∧ (outN D M (i + 1)).length ≤ (outN D M i).length + 1:=by
 have e : outN D M (i + 1) = if mayB (numN D M i) = true then outN D M i ++ [numN D M i] else outN D M i:=rfl
 rw [e]
 split <;> simp
theorem outN_mono (D M i : Nat) : ∀ j,i ≤ j → ∃ r,outN D M j = outN D M i ++ r:=by
 intro j
 induction j with
 | zero =>
      intro h; obtain rfl : i = 0:=by omega
      exact ⟨[],by simp⟩
 | succ j ih =>
  intro h
  by_cases e : i = j + 1
  ·
   subst e; exact ⟨[],by simp⟩
  ·
   obtain ⟨r,hr⟩:=ih (by omega)
   show ∃ r',(if mayB (numN D M j) = true then outN D M j ++ [numN D M j] else outN D M j) = _
   split
   ·
    exact ⟨r ++ [numN D M j],by rw [hr,List.append_assoc]⟩
   ·
    exact ⟨r,hr⟩
theorem zgz (D M : Nat) : ∀ i,∀ x ∈ outN D M i,mayB x = true ∧ x < top
 | 0,x,h => by simp [outN] at h
 | i + 1,x,h => by
  unfold outN at h
  split at h
  ·
   rcases List.mem_append.1 h with h | h
   ·
    exact zgz D M i x h
   ·
    simp only [List.mem_singleton] at h
    subst h
    exact ⟨by assumption,numN_lt D M i⟩
  ·
   exact zgz D M i x h
structure Ends (D M many s : Nat) : Prop where
 le : s ≤ 100
 pre : ∀ j,j < s → (outN D M j).length < many
 fin : s = 100 ∨ ¬ (outN D M s).length < many
theorem Ends.same {D M many s s' : Nat} (h : Ends D M many s) (h' : Ends D M many s') : s = s':=by
 rcases Nat.lt_trichotomy s s' with e | e | e
 ·
  have:=h'.pre s e
  rcases h.fin with f | f
  ·
   have:=h'.le; omega
  ·
   exact absurd this f
 ·
  exact e
 ·
  have:=h.pre s' e
  rcases h'.fin with f | f
  ·
   have:=h.le; omega
  ·
   exact absurd this f
theorem Ends.most {D M many s : Nat} (h : Ends D M many s) : (outN D M s).length ≤ many:=by
 cases s with
 | zero => simp [outN]
 | succ s =>
  have h1:=h.pre s (by omega)
  have h2:=(outN_step D M s).2
  omega
theorem Ends.full {D M many s : Nat} (h : Ends D M many s) (hn : ¬ (outN D M s).length < many) : (outN D M s).length = many:=by
 have:=h.most
 omega
theorem pre_more {D M many i : Nat} (h : ∀ j,j < i → (outN D M j).length < many) (hi : (outN D M i).length < many) : ∀ j,j < i + 1 → (outN D M j).length < many:=fun j hj => by
 rcases Nat.lt_or_ge j i with e | e
 ·
  exact h j e
 ·
  have : j = i:=by omega
  subst this
  exact hi
end Go.Proofs.YtmfjigcdhijkjaaDoor
