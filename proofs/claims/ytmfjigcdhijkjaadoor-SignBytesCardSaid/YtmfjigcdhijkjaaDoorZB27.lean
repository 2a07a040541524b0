/-
  Of W0 W2 W4 W5 W6 W7 LB.
-/
import Derived.Test.YtmfjigcdhijkjaaDoorCards
import Derived.Test.YtmfjigcdhijkjaaDoorTie
import Derived.Carry
import Derived.Test.YtmfjigcdhijkjaaDoorZB12
import Derived.Test.YtmfjigcdhijkjaaDoorZB14
import Derived.Test.YtmfjigcdhijkjaaDoorZB25
import Derived.Test.YtmfjigcdhijkjaaDoorZB15
import Derived.Test.YtmfjigcdhijkjaaDoorZB26
import Derived.Test.YtmfjigcdhijkjaaDoorZB8
set_option maxRecDepth 1000000
set_option maxHeartbeats 20000000
namespace Go.Proofs.YtmfjigcdhijkjaaDoor
open Go.RowKit
open Go.Act renaming put → aP
open List renaming setIfInBounds_toArray → lA, set_cons_zero → lZ, set_cons_succ → lS
structure CodeD : Prop where
 on_q : ∀ (q : Pt.Q) w,Calls Tryd.prog 14 #[pv q] w fun e w' => e = .returned (.bool true) ∧ Ext w w'
 bytes : ∀ R S w,Calls Tryd.prog 7 #[gv R S] w fun e w' => (∃ v,e = .returned v ∧ Own w' w.heap.size 5 v 64 (ptB R S)) ∧ Ext w w'
 parse_64 : ∀ b o c (y : Nat → Nat),(∀ j,y j < 256) → 64 ≤ c → ∀ w : World,b < w.heap.size → (∀ j,j < 64 → w.cell? ⟨b,o + j,none⟩ = some (.int .u8 (y j : Nat))) →
  Calls Tryd.prog 8 #[.slice (some ⟨b,o,none⟩) 64 c] w fun e w' => e = .returned (.tuple #[gv (be32 y 0) (be32 y 32),.nilIface]) ∧ Ext w w'
 parse_no : ∀ A n c,n ≠ 64 → ∀ w : World,Calls Tryd.prog 8 #[.slice A n c] w fun e w' => e = .returned (.tuple #[gv 0 0,.iface 34 (.int .i64 2)]) ∧ Ext w w'
theorem mul_base_near {D : Nat} (h : mayB D = true) : Pt.pFar (Pt.grp.mul D Pt.base).1 = false:=by
 cases hf : Pt.pFar (Pt.grp.mul D Pt.base).1 with
 | false => rfl
 | true =>
  have h1:=(Pt.inR_iff D).1 h
  exact absurd ((Pt.far_iff _).1 hf) (Pt.mul_near h1.1 h1.2 Pt.base_near)
theorem pick_holds {D E r s : Nat} {l : List Nat} (hD : mayB D = true) (hl : ∀ k ∈ l,mayB k = true) (h : pick D E l = some (r,s)) : Pt.verB (Pt.grp.mul D Pt.base) E r s = true:=by
 induction l with
 | nil => cases h
 | cons k l ih =>
  unfold pick at h
  split at h
  ·
   injection h with h
   injection h with h1 h2
   rename_i hc
   simp only [Bool.and_eq_true] at hc
   subst h1 h2
   have a:=(Pt.inR_iff D).1 hD
   have b:=(Pt.inR_iff k).1 (hl k (by simp))
   exact Pt.sign_holds a.1 a.2 b.1 b.2 ((Pt.inR_iff _).1 hc.1).1 ((Pt.inR_iff _).1 hc.2).1
  ·
   exact ih (fun k hk => hl k (by simp [hk])) h
theorem sigOf_holds {D E r s : Nat} {l : List Nat} (hD : mayB D = true) (hl : ∀ k ∈ l,mayB k = true) (h : sigOf D E l = some (r,s)) : Pt.verB (Pt.grp.mul D Pt.base) E r s = true:=by
 unfold sigOf at h
 split at h
 ·
  cases h
 ·
  exact pick_holds hD hl h
theorem ver_may {p : Pt.Q} {E R S : Nat} (h : mayB S = false) : Pt.verB p E R S = false:=by
 have h2 : Pt.inR S = false:=h
 unfold Pt.verB
 rw [h2]
 simp
theorem rsubn_is {S T : Nat} (h : mayB S = true) (hT : T = Pt.nn - S) (w : World) : Calls Tryd.prog 16 #[nv Pt.nn,nv S] w fun e w' => e = .returned (.tuple #[nv T,.bool false]) ∧ Ext w w':=by
 subst hT
 have h1:=(Pt.inR_iff S).1 h
 have h2:=rsub_calls Pt.nn S zcs (Nat.lt_trans h1.2 zcs) w
 have e1 : (Pt.nn + top - S) % top = Pt.nn - S:=by
  have h3:=h1.2
  rw [show Pt.nn + top - S = (Pt.nn - S) + top by omega,Nat.add_mod_right,Nat.mod_eq_of_lt (Nat.lt_of_le_of_lt (Nat.sub_le _ _) zcs)]
 rw [e1,decide_eq_false (by have:=h1.2; omega)] at h2
 exact h2
theorem ver_turn (p : Pt.Q) (E R : Nat) {S T : Nat} (h : mayB S = true) (hT : T = Pt.nn - S) {b : Bool} (hb : b = Pt.verB p E R S) : b = Pt.verB p E R T:=by
 have h1:=(Pt.inR_iff S).1 h
 rw [hT,Pt.sign_turns p E R h1.1 h1.2,hb]
theorem rsig_bytes (X Y : Nat) (w : World) :
  Calls Tryd.prog 9 #[gv X Y] w fun e w' => ∃ g cap,e = .returned (.slice (some ⟨g,0,none⟩) 64 cap) ∧ w.heap.size ≤ g ∧ Own w' w.heap.size 5 (.slice (some ⟨g,0,none⟩) 64 cap) 64 (ptB X Y) ∧ Below w.heap.size w w':=by
 obtain ⟨i8,hi8,hz0,hz1,hz2⟩:=info_parts infoByte
 have HI:=veil (And.intro hi8 (And.intro hz0 (And.intro hz1 hz2)))
 clear hi8 hz0 hz1 hz2
 unfold gv gc
 have hA : (w.alloc (.cells #[.int .u64 (wd X 0),.int .u64 (wd X 1),.int .u64 (wd X 2),.int .u64 (wd X 3),.int .u64 (wd Y 0),.int .u64 (wd Y 1),.int .u64 (wd Y 2),.int .u64 (wd Y 3)] 26)).heap[w.heap.size]? = some (.cells #[.int .u64 (wd X 0),.int .u64 (wd X 1),.int .u64 (wd X 2),.int .u64 (wd X 3),.int .u64 (wd Y 0),.int .u64 (wd Y 1),.int .u64 (wd Y 2),.int .u64 (wd Y 3)] 26 (0,0)):=zbm _ _
 have hB : Below w.heap.size w (w.alloc (.cells #[.int .u64 (wd X 0),.int .u64 (wd X 1),.int .u64 (wd X 2),.int .u64 (wd X 3),.int .u64 (wd Y 0),.int .u64 (wd Y 1),.int .u64 (wd Y 2),.int .u64 (wd Y 3)] 26)):=(Below.refl _ _).alloc (Nat.le_refl _) _
 go_enter Tryd.func9,Tryd.ntmps9
 go_upto_region 1 with (fail)
 generalize w.alloc (.cells #[.int .u64 (wd X 0),.int .u64 (wd X 1),.int .u64 (wd X 2),.int .u64 (wd X 3),.int .u64 (wd Y 0),.int .u64 (wd Y 1),.int .u64 (wd Y 2),.int .u64 (wd Y 3)] 26) = wz at *
 have x0 : wz.cell? ⟨w.heap.size,0,none⟩ = some (.int .u64 (wd X 0)):=(cell_of_row wz w.heap.size 0 _ _ _ hA).trans rfl
 have x1 : wz.cell? ⟨w.heap.size,1,none⟩ = some (.int .u64 (wd X 1)):=(cell_of_row wz w.heap.size 1 _ _ _ hA).trans rfl
 have x2 : wz.cell? ⟨w.heap.size,2,none⟩ = some (.int .u64 (wd X 2)):=(cell_of_row wz w.heap.size 2 _ _ _ hA).trans rfl
 have x3 : wz.cell? ⟨w.heap.size,3,none⟩ = some (.int .u64 (wd X 3)):=(cell_of_row wz w.heap.size 3 _ _ _ hA).trans rfl
 have y0 : wz.cell? ⟨w.heap.size,4,none⟩ = some (.int .u64 (wd Y 0)):=(cell_of_row wz w.heap.size 4 _ _ _ hA).trans rfl
 have y1 : wz.cell? ⟨w.heap.size,5,none⟩ = some (.int .u64 (wd Y 1)):=(cell_of_row wz w.heap.size 5 _ _ _ hA).trans rfl
 have y2 : wz.cell? ⟨w.heap.size,6,none⟩ = some (.int .u64 (wd Y 2)):=(cell_of_row wz w.heap.size 6 _ _ _ hA).trans rfl
 have y3 : wz.cell? ⟨w.heap.size,7,none⟩ = some (.int .u64 (wd Y 3)):=(cell_of_row wz w.heap.size 7 _ _ _ hA).trans rfl
 have lz:=(Array.getElem?_eq_some_iff.1 hA).1
 have H1:=veil (fun W => rbytes_own X W)
 have H2:=veil (fun W => rbytes_own Y W)
 clear hA
 go_region_held3 (fun w' => (∀ b o,b < wz.heap.size → w'.cell? ⟨b,o,none⟩ = wz.cell? ⟨b,o,none⟩) ∧ Below wz.heap.size wz w')
  (first
   | with_reducible assumption
   | with_reducible exact keep_drew _
   | exact hS3
   | with_reducible exact keep_old (by assumption) (by assumption)
   | fail)
  (first
   | (go_at_call 22; first
     | ((with_reducible refine (H1.out _).mono ?_); rintro e w1 ⟨g1,c1,rfl,hc1,hg1,ho1,hb1⟩)
     | ((with_reducible refine (H2.out _).mono ?_); rintro e w2 ⟨g2,c2,rfl,hc2,hg2,ho2,hb2⟩))
   | ((with_reducible refine at_slotR 9 ?_); refine step_append_from _ rfl _ _ 27 rfl wz.heap.size 5 i8 (.int .u8 0) 1 Tryd.underlying27 HI.out.1 HI.out.2.1 HI.out.2.2.1 HI.out.2.2.2 rfl (.slice (some ⟨g1,0,none⟩) 32 c1) 32 _ rfl (ho1.below hb2 (Nat.le_refl _)) (some ⟨g2,0,none⟩) 32 c2 rfl _ (from_own ho2) (fun _ => rfl) (by unfold maxLen; omega) (by omega) (Nat.le_trans hb1.size hb2.size) ?_; intro v3 w3 hO3 hg3 _ _; have hX:=keep_old hb2 (keep_old hb1 (keep_drew wz)); have hb3 : Below wz.heap.size wz w3:=hX.2.grown hg3 hX.2.size (fun k e => (ho1.lt e).1); have hS3:=And.intro (fun b o (h : b < wz.heap.size) => hb3.cell (p:=⟨b,o,none⟩) h) hb3; obtain ⟨g3,c3,rfl,-,hg3',-⟩:=hO3.pre (by omega)))
 rename (_ ∧ Below wz.heap.size wz _) => hH
 have hfin : Own w3 w.heap.size 5 (.slice (some ⟨g3,0,none⟩) 64 c3) 64 (ptB X Y):=hO3.base_le hB.size
 clear x0 x1 x2 x3 y0 y1 y2 y3 hO3
 go_wp2
 go_ret
 exact ⟨g3,c3,rfl,Nat.le_trans hB.size hg3',hfin,hB.trans (hH.2.mono hB.size)⟩
def sy (R S j : Nat) : Nat:=if j < 32 then dg 256 R (31 - j) else dg 256 S (31 - (j - 32))
theorem sy_lt (R S j : Nat) : sy R S j < 256:=by unfold sy; split <;> exact dg_lt (by omega) _ _
theorem ptB_sy (R S j : Nat) : ptB R S j = .int .u8 (sy R S j : Nat):=by
 unfold ptB sy bsv byv
 split <;> rfl
theorem lev_digs (X : Nat) (z : Nat → Nat) : ∀ i,(∀ k,k < i → z k = dg 256 X k) → lev z i = X % 256 ^ i
 | 0,_ => by simp [lev,Nat.mod_one]
 | i + 1,h => by
  show lev z i + z i * 256 ^ i = _
  rw [zcv,lev_digs X z i (fun k hk => h k (by omega)),h i (by omega),Nat.mul_comm]
theorem be_sy {R S : Nat} (hR : R < top) (hS : S < top) : be32 (sy R S) 0 = R ∧ be32 (sy R S) 32 = S:=by
 have h256 : 256 ^ 32 = top:=by decide
 constructor
 ·
  unfold be32
  rw [lev_digs R _ 32 (fun k hk => by unfold sy; rw [if_pos (by omega)]; congr 1; omega),h256,Nat.mod_eq_of_lt hR]
 ·
  unfold be32
  rw [lev_digs S _ 32 (fun k hk => by unfold sy; rw [if_neg (by omega)]; congr 1; omega),h256,Nat.mod_eq_of_lt hS]
theorem parse_back (C : CodeD) {R S : Nat} (hR : R < top) (hS : S < top) {w : World} {base : Nat} {v : Value} (ho : Own w base 5 v 64 (ptB R S)) :
  Calls Tryd.prog 8 #[v] w fun e w' => e = .returned (.tuple #[gv R S,.nilIface]) ∧ Ext w w':=by
 obtain ⟨g,c,rfl,hlt,hc,hp⟩:=ho.pre (by decide)
 have hcell : ∀ j,j < 64 → w.cell? ⟨g,0 + j,none⟩ = some (.int .u8 (sy R S j : Nat)):=fun j hj => by
  rw [Nat.zero_add,hp.cell hj,ptB_sy]
 have h:=C.parse_64 g 0 c (sy R S) (sy_lt R S) (by omega) w (World.block_lt_of_cell? w _ (hcell 0 (by decide))) hcell
 rw [(be_sy hR hS).1,(be_sy hR hS).2] at h
 exact h
theorem neG {X Y : Nat} (hX : X < top) (hY : Y < top) (W : World) : (binOp .neq 26 (gv X Y) (gv X Y)).run Tryd.prog W = .ok (.bool false) W:=neq_of (eqG hX hY W) rfl
theorem yif_bin {P : Program} {ops : Array Oper} {o : Oper} {a : Act} {w : World} {op : BinOp} {ty ty2 : TypeId} {x y : Operand} {u u' v : Value} (hw : Region.wanted o (yielded ops a.tmps) = true) (ho : o.op = .binOp op ty x y ty2) (hx : a.eval x = u) (hy : a.eval y = u')
  (hg : ∀ W,(eqGuard op ty x y u u').run P W = .ok () W) (hb : ∀ W,(binOp op ty u u').run P W = .ok v W) : YieldsIf P ops (fun W => Ext w W) o v a:=yif hw fun W _ => by
 unfold execOp
 simp only [ho,hx,hy,Sem.run_bind,hg W,Result.andThen_ok,hb W,Sem.run_pure]
theorem gz_sz (r s : Nat) : (#[.int .u64 0,.int .u64 0,.int .u64 0,.int .u64 0,.int .u64 0,.int .u64 0,.int .u64 0,.int .u64 0] : Array Value).size = (gc r s).size:=by simp [gc]
theorem be_lo (y : Nat → Nat) : lev (fun k => y (32 - 1 - k)) 32 = be32 y 0:=by
 unfold be32
 simp only [Nat.zero_add]
theorem be_hi (y : Nat → Nat) : lev (fun k => y (32 + (32 - 1 - k))) 32 = be32 y 32:=rfl
theorem of_lo {b o c : Nat} {y : Nat → Nat} (hy : ∀ j,y j < 256) {w : World} (hlt : b < w.heap.size) (hcell : ∀ j,j < 64 → w.cell? ⟨b,o + j,none⟩ = some (.int .u8 (y j : Nat))) (W : World) (hW : Ext w W) : Calls Tryd.prog 10 #[.slice (some ⟨b,o,none⟩) 32 c] W fun e W' => e = .returned (nv (be32 y 0)) ∧ Ext W W':=by
 have h:=rof_some b o 32 c y hy (by decide) W (Nat.lt_of_lt_of_le hlt (Below.size hW)) (fun j hj => (Below.cell (p:=⟨b,o + j,none⟩) hW hlt).trans (hcell j (by omega)))
 rw [be_lo] at h
 exact h
theorem of_hi {b o c : Nat} {y : Nat → Nat} (hy : ∀ j,y j < 256) {w : World} (hlt : b < w.heap.size) (hcell : ∀ j,j < 64 → w.cell? ⟨b,o + j,none⟩ = some (.int .u8 (y j : Nat))) (W : World) (hW : Ext w W) : Calls Tryd.prog 10 #[.slice (some ⟨b,o + 32,none⟩) 32 (c - 32)] W fun e W' => e = .returned (nv (be32 y 32)) ∧ Ext W W':=by
 have h:=rof_some b (o + 32) 32 (c - 32) (fun j => y (32 + j)) (fun j => hy _) (by decide) W (Nat.lt_of_lt_of_le hlt (Below.size hW)) (fun j hj => by
  rw [Nat.add_assoc]
  exact (Below.cell (p:=⟨b,o + (32 + j),none⟩) hW hlt).trans (hcell (32 + j) (by omega)))
 rw [be_hi] at h
 exact h
theorem sl_lo (b o : Nat) {c : Nat} (hc : 64 ≤ c) (W : World) : (Instr.sliceAt 27 (.slice (some ⟨b,o,none⟩) 64 c) none (some (.int .i64 32)) none).run Tryd.prog W = .ok (.slice (some ⟨b,o,none⟩) 32 c) W:=by
 have h:=cut_to (some ⟨b,o,none⟩) 64 c 32 (by omega) W
 unfold cutA at h
 by_cases h0 : c = 0
 ·
  omega
 ·
  simpa [Addr.add_mid,h0] using h
theorem sl_hi (b o : Nat) {c : Nat} (hc : 64 ≤ c) (W : World) : (Instr.sliceAt 27 (.slice (some ⟨b,o,none⟩) 64 c) (some (.int .i64 32)) none none).run Tryd.prog W = .ok (.slice (some ⟨b,o + 32,none⟩) 32 (c - 32)) W:=by
 have h:=cut_from (some ⟨b,o,none⟩) 64 c 32 (by omega) W
 unfold cutA at h
 rw [if_neg (by omega)] at h
 simpa [Addr.add_mid] using h
theorem sb_no (hC : Code7) (hA : CodeD) {R S : Nat} (hR : R < top) (hS : S < top) (A : Option Addr) (n c : Nat) (hn : n ≠ 64) {w : World} (hK : KT w) :
  Calls Tryd.prog 3 #[gv R S,.slice A n c] w fun e w' => e = .returned (.bool true) ∧ Ext w w':=by
 have KB:=veil (fun W => hA.bytes R S W)
 have KR:=veil (fun W => rsig_bytes R S W)
 have kP:=fun (W : World) (base : Nat) (v : Value) (ho : Own W base 5 v 64 (ptB R S)) => parse_back hA hR hS ho
 have KP:=veil kP
 obtain ⟨ps,hps⟩ : ∃ ps,ps = pstr R S:=⟨_,rfl⟩
 have kc:=fun (W : World) (base : Nat) (v : Value) (ho : Own W base 5 v 64 (ptB R S)) => str_own ho
 rw [← hps] at kc
 have KC:=veil kc
 clear kc kP hps
 have KL:=veil (fun (W : World) (_ : Ext w W) => hA.parse_no A n c hn W)
 have hn2 : ¬ (n : Int) = 64:=by omega
 clear hn
 have kC:=veil hC
 have kK:=veil hK
 have kR:=veil hR
 have kS:=veil hS
 clear hK hC hA hR hS
 unfold gv gc
 go_enter Tryd.func3,Tryd.ntmps3
 go_upto_region 1 with (fail)
 obtain ⟨hx,b0⟩:=blocks1 w (.cells #[.int .u64 (wd R 0),.int .u64 (wd R 1),.int .u64 (wd R 2),.int .u64 (wd R 3),.int .u64 (wd S 0),.int .u64 (wd S 1),.int .u64 (wd S 2),.int .u64 (wd S 3)] 26)
 generalize w.alloc (.cells #[.int .u64 (wd R 0),.int .u64 (wd R 1),.int .u64 (wd R 2),.int .u64 (wd R 3),.int .u64 (wd S 0),.int .u64 (wd S 1),.int .u64 (wd S 2),.int .u64 (wd S 3)] 26) = w1 at *
 have b0 : w1.heap[w.heap.size]? = some (.cells (gc R S) 26 (0,0)):=b0
 refine' zaj (m:=2) (A:=_) (by kernel_rfl) ?h1 ?h2
 case h1 =>
  refine zaa (.bool true) rfl (zaf (args:=[]) rfl rfl (fun W => zab Tryd.func6 rfl rfl _ W) (fun W hW => kC.out.up W (kK.out.call (hx.trans hW)))) ?_;simp only [aP,lA,lZ,lS]
  refine zaa (.bool true) rfl (zae (.inr rfl) rfl) ?_;simp only [aP,lA,lZ,lS]
  exact zah
 refine zam rfl ?_
 intro w2 hE
 replace b0:=hE.block b0
 replace hx:=hx.trans hE
 clear hE
 go_upto_region 2 with (fail)
 refine wp_region_lit ?_
 refine zez rfl rfl rfl b0 rfl Tryd.underlying26 rfl (iSg _ _) ?_
 simp only [aP,lA,lZ,lS]
 refine zef (R:=fun v W' => Own W' w2.heap.size 5 v 64 (ptB R S) ∧ Ext w2 W') rfl rfl rfl (fun W => zab Tryd.func7 rfl rfl _ W) ((KB.out w2).mono fun e W' ⟨⟨v,he,ho⟩,hE⟩ => ⟨v,he,ho,hE⟩) ?_
 rintro v wb ⟨ho,hE⟩
 replace b0:=hE.block b0
 replace hx:=hx.trans hE
 clear hE
 simp only [aP,lA,lZ,lS]
 have KS:=veil (fun (W : World) (hW : Ext wb W) => KC.out W _ v (ho.below hW (Nat.le_refl _)))
 have KV:=veil (fun (W : World) (hW : Ext wb W) => KP.out W _ v (ho.below hW (Nat.le_refl _)))
 clear ho KB KP
 go_upto_region 3 with (fail)
 refine' zaj (m:=5) (A:=_) (by kernel_rfl) ?h2a ?h2b
 case h2a =>
  refine zaa (v) rfl (zae (.inl rfl) rfl) ?_;simp only [aP,lA,lZ,lS]
  refine zaa (.tuple #[gv R S,.nilIface]) rfl (zaf (args:=[v]) rfl rfl (fun W => zab Tryd.func8 rfl rfl _ W) (fun W hW => KV.out W hW)) ?_;simp only [aP,lA,lZ,lS]
  refine zaa (.tuple #[gv R S,.nilIface]) rfl (zae (.inl rfl) rfl) ?_;simp only [aP,lA,lZ,lS]
  refine zaa (gv R S) rfl (zar rfl rfl rfl) ?_;simp only [aP,lA,lZ,lS]
  refine zaa (.nilIface) rfl (zar rfl rfl rfl) ?_;simp only [aP,lA,lZ,lS]
  exact zah
 refine zbf _ _ rfl rfl rfl rfl rfl rfl rfl (hzG ·) (fun _ => rfl) (fun _ => rfl) (iSg _ _) (gz_sz _ _) (zbu _ _) ?_
 intro gx w21 hgx bx hE
 replace b0:=hE.block b0
 replace hx:=hx.trans hE
 have hE3:=hE
 clear hE
 simp only [aP,lA,lZ,lS]
 clear hgx
 replace KS:=veil (fun (W : World) (hW : Ext w21 W) => KS.out W (hE3.trans hW))
 clear hE3 KV
 go_upto_region 4 with (fail)
 refine' zaj (m:=5) (A:=_) (by kernel_rfl) ?h3a ?h3b
 case h3a =>
  refine zaa (.slice A n c) rfl (zae (.inl rfl) rfl) ?_;simp only [aP,lA,lZ,lS]
  refine zaa (.tuple #[gv 0 0,.iface 34 (.int .i64 2)]) rfl (zaf (args:=[.slice A n c]) rfl rfl (fun W => zab Tryd.func8 rfl rfl _ W) (fun W hW => KL.out W (hx.trans hW))) ?_;simp only [aP,lA,lZ,lS]
  refine zaa (.tuple #[gv 0 0,.iface 34 (.int .i64 2)]) rfl (zae (.inl rfl) rfl) ?_;simp only [aP,lA,lZ,lS]
  refine zaa (gv 0 0) rfl (zar rfl rfl rfl) ?_;simp only [aP,lA,lZ,lS]
  refine zaa (.iface 34 (.int .i64 2)) rfl (zar rfl rfl rfl) ?_;simp only [aP,lA,lZ,lS]
  exact zah
 refine zbf _ _ rfl rfl rfl rfl rfl rfl rfl (hzG ·) (fun _ => rfl) (fun _ => rfl) (iSg _ _) (gz_sz _ _) (zbu _ _) ?_
 intro gz w22 hgz bz hE
 replace b0:=hE.block b0
 replace bx:=hE.block bx
 replace hx:=hx.trans hE
 have hE3:=hE
 clear hE
 simp only [aP,lA,lZ,lS]
 clear hgz
 replace KS:=veil (fun (W : World) (hW : Ext w22 W) => KS.out W (hE3.trans hW))
 clear hE3 KL
 go_upto_region 5 with (fail)
 refine wp_region_noPanic ?_
 refine wp_region_held_drew (S:=fun W => Ext w22 W) (by kernel_rfl) (Ext.drew _) (fun hH => ?_)
 repeat
  ((first
    | (refine wpAnyH_take (i:=0) (v:=v) rfl (by kernel_rfl) (by kernel_rfl) (by decide +kernel) (fun _ _ _ h => h) ((Or.inl ⟨by rfl,fun W hSw => (by dsimp only at hSw; go_simp)⟩)) (by with_reducible assumption) ?_)
    | (refine wpAnyH_take (i:=1) (v:=.string ps) rfl (by kernel_rfl) (by kernel_rfl) (by decide +kernel) (fun _ _ _ h => h) (yif_conv (by rfl) rfl rfl KS.out) (by with_reducible assumption) ?_)
    | (refine wpAnyH_take (i:=2) (v:=gv R S) rfl (by kernel_rfl) (by kernel_rfl) (by decide +kernel) (fun _ _ _ h => h) (zdz (by rfl) rfl rfl b0 Tryd.underlying26 rfl (iSg _ _)) (by with_reducible assumption) ?_)
    | (refine wpAnyH_ready (rs:=[3]) (by decide +kernel) (by simp) ?_; refine AllReadyH.cons rfl (fun K hK => ?_) AllReadyH.nil; go_simp; refine (KR.out _).mono ?_; rintro e v1 ⟨g9,c9,rfl,_,ho9,hb9⟩; refine hK.out _ _ (hH.trans hb9) (fun hH => ?_); clear hK K hb9)
    | (refine wpAnyH_ready (rs:=[4]) (by decide +kernel) (by simp) ?_; refine AllReadyH.cons rfl (fun K hK => ?_) AllReadyH.nil; have kc:=KC.out _ _ _ (by assumption); go_simp; refine hK.out _ _ hH (fun hH => ?_); clear hK K)
    | (refine wpAnyH_take (i:=5) (v:=.bool false) rfl (by kernel_rfl) (by kernel_rfl) (by decide +kernel) (fun _ _ _ h => h) ((Or.inl ⟨by rfl,fun W hSw => (by dsimp only at hSw; go_simp)⟩)) (by with_reducible assumption) ?_)
    | fail);
   try simp only [Act.put,List.setIfInBounds_toArray,List.set_cons_zero,List.set_cons_succ,List.getElem_toArray,List.getElem_cons_zero,List.getElem_cons_succ])
 repeat
  ((first
    | (refine wpAnyH_take (i:=6) (v:=.bool false) rfl (by kernel_rfl) (by kernel_rfl) (by decide +kernel) (fun _ _ _ h => h) ((Or.inl ⟨by rfl,fun W hSw => (by dsimp only at hSw; go_simp)⟩)) (by with_reducible assumption) ?_)
    | (refine wpAnyH_take (i:=7) (v:=.nilIface) rfl (by kernel_rfl) (by kernel_rfl) (by decide +kernel) (fun _ _ _ h => h) ((Or.inl ⟨by rfl,fun W hSw => (by dsimp only at hSw; go_simp)⟩)) (by with_reducible assumption) ?_)
    | (refine wpAnyH_take (i:=8) (v:=.bool false) rfl (by kernel_rfl) (by kernel_rfl) (by decide +kernel) (fun _ _ _ h => h) ((Or.inl ⟨by rfl,fun W hSw => (by dsimp only at hSw; go_simp)⟩)) (by with_reducible assumption) ?_)
    | (refine wpAnyH_take (i:=9) (v:=.bool false) rfl (by kernel_rfl) (by kernel_rfl) (by decide +kernel) (fun _ _ _ h => h) ((Or.inl ⟨by rfl,fun W hSw => (by dsimp only at hSw; go_simp)⟩)) (by with_reducible assumption) ?_)
    | (refine wpAnyH_take (i:=10) (v:=.bool false) rfl (by kernel_rfl) (by kernel_rfl) (by decide +kernel) (fun _ _ _ h => h) ((Or.inl ⟨by rfl,fun W hSw => (by dsimp only at hSw; go_simp)⟩)) (by with_reducible assumption) ?_)
    | (refine wpAnyH_take (i:=11) (v:=gv R S) rfl (by kernel_rfl) (by kernel_rfl) (by decide +kernel) (fun _ _ _ h => h) (zdz (by rfl) rfl rfl bx Tryd.underlying26 rfl (iSg _ _)) (by with_reducible assumption) ?_)
    | fail);
   try simp only [Act.put,List.setIfInBounds_toArray,List.set_cons_zero,List.set_cons_succ,List.getElem_toArray,List.getElem_cons_zero,List.getElem_cons_succ])
 repeat
  ((first
    | (refine wpAnyH_take (i:=12) (v:=gv R S) rfl (by kernel_rfl) (by kernel_rfl) (by decide +kernel) (fun _ _ _ h => h) (zdz (by rfl) rfl rfl b0 Tryd.underlying26 rfl (iSg _ _)) (by with_reducible assumption) ?_)
    | (refine wpAnyH_take (i:=13) (v:=.bool false) rfl (by kernel_rfl) (by kernel_rfl) (by decide +kernel) (fun _ _ _ h => h) (yif_bin (by rfl) rfl rfl rfl (gG _ _ _ _ _ _ _) (neG kR.out kS.out)) (by with_reducible assumption) ?_)
    | (refine wpAnyH_take (i:=14) (v:=.bool false) rfl (by kernel_rfl) (by kernel_rfl) (by decide +kernel) (fun _ _ _ h => h) ((Or.inl ⟨by rfl,fun W hSw => (by dsimp only at hSw; go_simp)⟩)) (by with_reducible assumption) ?_)
    | fail);
   try simp only [Act.put,List.setIfInBounds_toArray,List.set_cons_zero,List.set_cons_succ,List.getElem_toArray,List.getElem_cons_zero,List.getElem_cons_succ])
 refine wpAnyH_done (by decide +kernel) ?_ _
 refine NoPanic.normal ?_
 have hE:=hH
 clear hH
 replace bz:=hE.block bz
 replace hx:=hx.trans hE
 clear hE
 go_upto_region 8 with (fail)
 refine' zbp (m:=12) (A:=_) ?h4a ?h4b
 case h4a =>
  refine zaa (.bool true) rfl (zae (.inl rfl) rfl) ?_;simp only [aP,lA,lZ,lS]
  refine zaa (.bool true) rfl (zae (.inl rfl) rfl) ?_;simp only [aP,lA,lZ,lS]
  refine zag (.iface 34 (.int .i64 2)) rfl (zae (.inl rfl) rfl) ?_;simp only [aP,lA,lZ,lS]
  refine zag (.iface 34 (.int .i64 2)) rfl (zeu rfl (mkErr2 ·)) ?_;simp only [aP,lA,lZ,lS]
  refine zag (.bool true) rfl (zbs rfl rfl rfl (fun _ => by kernel_rfl) (fun _ => by kernel_rfl)) ?_;simp only [aP,lA,lZ,lS]
  refine zaa (.bool true) rfl (zaq rfl rfl rfl) ?_;simp only [aP,lA,lZ,lS]
  refine zaa (.bool true) rfl (zae (.inl rfl) rfl) ?_;simp only [aP,lA,lZ,lS]
  refine zag (gv 0 0) rfl (zac rfl rfl bz rfl Tryd.underlying26 rfl (iSg _ _)) ?_;simp only [aP,lA,lZ,lS]
  refine zag (gv 0 0) rfl (zau rfl rfl (bldG0 ·)) ?_;simp only [aP,lA,lZ,lS]
  refine zag (.bool true) rfl (zbs rfl rfl rfl (gG _ _ _ _ _ _ _) (eqG zcp zcp)) ?_;simp only [aP,lA,lZ,lS]
  refine zaa (.bool true) rfl (zaq rfl rfl rfl) ?_;simp only [aP,lA,lZ,lS]
  refine zaa (.bool true) rfl (zae (.inr rfl) rfl) ?_;simp only [aP,lA,lZ,lS]
  exact zah
 refine zam rfl ?_
 intro w23 hE
 replace hx:=hx.trans hE
 clear hE
 go_wp2
 go_ret
 exact ⟨rfl,hx⟩
theorem sb_yes (hC : Code7) (hA : CodeD) {R S : Nat} (hR : R < top) (hS : S < top) (b o n c : Nat) (hn : n = 64) (y : Nat → Nat) (hy : ∀ j,y j < 256) (hc : 64 ≤ c) {w : World} (hK : KT w) (hlt : b < w.heap.size) (hcell : ∀ j,j < 64 → w.cell? ⟨b,o + j,none⟩ = some (.int .u8 (y j : Nat))) :
  Calls Tryd.prog 3 #[gv R S,.slice (some ⟨b,o,none⟩) n c] w fun e w' => e = .returned (.bool true) ∧ Ext w w':=by
 have KB:=veil (fun W => hA.bytes R S W)
 have KR:=veil (fun W => rsig_bytes R S W)
 have kP:=fun (W : World) (base : Nat) (v : Value) (ho : Own W base 5 v 64 (ptB R S)) => parse_back hA hR hS ho
 have KP:=veil kP
 obtain ⟨ps,hps⟩ : ∃ ps,ps = pstr R S:=⟨_,rfl⟩
 have kc:=fun (W : World) (base : Nat) (v : Value) (ho : Own W base 5 v 64 (ptB R S)) => str_own ho
 rw [← hps] at kc
 have KC:=veil kc
 clear kc kP hps
 have KL:=veil (fun (W : World) (hW : Ext w W) => show Calls Tryd.prog 8 #[.slice (some ⟨b,o,none⟩) n c] W (fun e w' => e = .returned (.tuple #[gv (be32 y 0) (be32 y 32),.nilIface]) ∧ Ext W w') from by rw [hn]; exact hA.parse_64 b o c y hy hc W (Nat.lt_of_lt_of_le hlt (Below.size hW)) (fun j hj => (Below.cell (p:=⟨b,o + j,none⟩) hW hlt).trans (hcell j hj)))
 have kx:=fun (W : World) (hW : Ext w W) => of_lo (c:=c) hy hlt hcell W hW
 have ky:=fun (W : World) (hW : Ext w W) => of_hi (c:=c) hy hlt hcell W hW
 have q1:=sl_lo b o hc
 have q2:=sl_hi b o hc
 rw [← hn] at q1 q2
 have hn2 : (n : Int) = 64:=by omega
 have KX:=veil kx
 have KY:=veil ky
 have Q1:=veil q1
 have Q2:=veil q2
 have kX:=veil (be32_lt hy 0)
 have kY:=veil (be32_lt hy 32)
 clear q1 q2 kx ky hy hc hlt hcell hn
 generalize be32 y 0 = PX at *
 generalize be32 y 32 = PY at *
 have kC:=veil hC
 have kK:=veil hK
 have kR:=veil hR
 have kS:=veil hS
 clear hK hC hA hR hS
 unfold gv gc
 go_enter Tryd.func3,Tryd.ntmps3
 go_upto_region 1 with (fail)
 obtain ⟨hx,b0⟩:=blocks1 w (.cells #[.int .u64 (wd R 0),.int .u64 (wd R 1),.int .u64 (wd R 2),.int .u64 (wd R 3),.int .u64 (wd S 0),.int .u64 (wd S 1),.int .u64 (wd S 2),.int .u64 (wd S 3)] 26)
 generalize w.alloc (.cells #[.int .u64 (wd R 0),.int .u64 (wd R 1),.int .u64 (wd R 2),.int .u64 (wd R 3),.int .u64 (wd S 0),.int .u64 (wd S 1),.int .u64 (wd S 2),.int .u64 (wd S 3)] 26) = w1 at *
 have b0 : w1.heap[w.heap.size]? = some (.cells (gc R S) 26 (0,0)):=b0
 refine' zaj (m:=2) (A:=_) (by kernel_rfl) ?h1 ?h2
 case h1 =>
  refine zaa (.bool true) rfl (zaf (args:=[]) rfl rfl (fun W => zab Tryd.func6 rfl rfl _ W) (fun W hW => kC.out.up W (kK.out.call (hx.trans hW)))) ?_;simp only [aP,lA,lZ,lS]
  refine zaa (.bool true) rfl (zae (.inr rfl) rfl) ?_;simp only [aP,lA,lZ,lS]
  exact zah
 refine zam rfl ?_
 intro w2 hE
 replace b0:=hE.block b0
 replace hx:=hx.trans hE
 clear hE
 go_upto_region 2 with (fail)
 refine wp_region_lit ?_
 refine zez rfl rfl rfl b0 rfl Tryd.underlying26 rfl (iSg _ _) ?_
 simp only [aP,lA,lZ,lS]
 refine zef (R:=fun v W' => Own W' w2.heap.size 5 v 64 (ptB R S) ∧ Ext w2 W') rfl rfl rfl (fun W => zab Tryd.func7 rfl rfl _ W) ((KB.out w2).mono fun e W' ⟨⟨v,he,ho⟩,hE⟩ => ⟨v,he,ho,hE⟩) ?_
 rintro v wb ⟨ho,hE⟩
 replace b0:=hE.block b0
 replace hx:=hx.trans hE
 clear hE
 simp only [aP,lA,lZ,lS]
 have KS:=veil (fun (W : World) (hW : Ext wb W) => KC.out W _ v (ho.below hW (Nat.le_refl _)))
 have KV:=veil (fun (W : World) (hW : Ext wb W) => KP.out W _ v (ho.below hW (Nat.le_refl _)))
 clear ho KB KP
 go_upto_region 3 with (fail)
 refine' zaj (m:=5) (A:=_) (by kernel_rfl) ?h2a ?h2b
 case h2a =>
  refine zaa (v) rfl (zae (.inl rfl) rfl) ?_;simp only [aP,lA,lZ,lS]
  refine zaa (.tuple #[gv R S,.nilIface]) rfl (zaf (args:=[v]) rfl rfl (fun W => zab Tryd.func8 rfl rfl _ W) (fun W hW => KV.out W hW)) ?_;simp only [aP,lA,lZ,lS]
  refine zaa (.tuple #[gv R S,.nilIface]) rfl (zae (.inl rfl) rfl) ?_;simp only [aP,lA,lZ,lS]
  refine zaa (gv R S) rfl (zar rfl rfl rfl) ?_;simp only [aP,lA,lZ,lS]
  refine zaa (.nilIface) rfl (zar rfl rfl rfl) ?_;simp only [aP,lA,lZ,lS]
  exact zah
 refine zbf _ _ rfl rfl rfl rfl rfl rfl rfl (hzG ·) (fun _ => rfl) (fun _ => rfl) (iSg _ _) (gz_sz _ _) (zbu _ _) ?_
 intro gx w21 hgx bx hE
 replace b0:=hE.block b0
 replace hx:=hx.trans hE
 have hE3:=hE
 clear hE
 simp only [aP,lA,lZ,lS]
 clear hgx
 replace KS:=veil (fun (W : World) (hW : Ext w21 W) => KS.out W (hE3.trans hW))
 clear hE3 KV
 go_upto_region 4 with (fail)
 refine' zaj (m:=5) (A:=_) (by kernel_rfl) ?h3a ?h3b
 case h3a =>
  refine zaa (.slice (some ⟨b,o,none⟩) n c) rfl (zae (.inl rfl) rfl) ?_;simp only [aP,lA,lZ,lS]
  refine zaa (.tuple #[gv PX PY,.nilIface]) rfl (zaf (args:=[.slice (some ⟨b,o,none⟩) n c]) rfl rfl (fun W => zab Tryd.func8 rfl rfl _ W) (fun W hW => KL.out W (hx.trans hW))) ?_;simp only [aP,lA,lZ,lS]
  refine zaa (.tuple #[gv PX PY,.nilIface]) rfl (zae (.inl rfl) rfl) ?_;simp only [aP,lA,lZ,lS]
  refine zaa (gv PX PY) rfl (zar rfl rfl rfl) ?_;simp only [aP,lA,lZ,lS]
  refine zaa (.nilIface) rfl (zar rfl rfl rfl) ?_;simp only [aP,lA,lZ,lS]
  exact zah
 refine zbf _ _ rfl rfl rfl rfl rfl rfl rfl (hzG ·) (fun _ => rfl) (fun _ => rfl) (iSg _ _) (gz_sz _ _) (zbu _ _) ?_
 intro gz w22 hgz bz hE
 replace b0:=hE.block b0
 replace bx:=hE.block bx
 replace hx:=hx.trans hE
 have hE3:=hE
 clear hE
 simp only [aP,lA,lZ,lS]
 clear hgz
 replace KS:=veil (fun (W : World) (hW : Ext w22 W) => KS.out W (hE3.trans hW))
 clear hE3 KL
 go_upto_region 5 with (fail)
 refine wp_region_noPanic ?_
 refine wp_region_held_drew (S:=fun W => Ext w22 W) (by kernel_rfl) (Ext.drew _) (fun hH => ?_)
 repeat
  ((first
    | (refine wpAnyH_take (i:=0) (v:=v) rfl (by kernel_rfl) (by kernel_rfl) (by decide +kernel) (fun _ _ _ h => h) ((Or.inl ⟨by rfl,fun W hSw => (by dsimp only at hSw; go_simp)⟩)) (by with_reducible assumption) ?_)
    | (refine wpAnyH_take (i:=1) (v:=.string ps) rfl (by kernel_rfl) (by kernel_rfl) (by decide +kernel) (fun _ _ _ h => h) (yif_conv (by rfl) rfl rfl KS.out) (by with_reducible assumption) ?_)
    | (refine wpAnyH_take (i:=2) (v:=gv R S) rfl (by kernel_rfl) (by kernel_rfl) (by decide +kernel) (fun _ _ _ h => h) (zdz (by rfl) rfl rfl b0 Tryd.underlying26 rfl (iSg _ _)) (by with_reducible assumption) ?_)
    | (refine wpAnyH_ready (rs:=[3]) (by decide +kernel) (by simp) ?_; refine AllReadyH.cons rfl (fun K hK => ?_) AllReadyH.nil; go_simp; refine (KR.out _).mono ?_; rintro e v1 ⟨g9,c9,rfl,_,ho9,hb9⟩; refine hK.out _ _ (hH.trans hb9) (fun hH => ?_); clear hK K hb9)
    | (refine wpAnyH_ready (rs:=[4]) (by decide +kernel) (by simp) ?_; refine AllReadyH.cons rfl (fun K hK => ?_) AllReadyH.nil; have kc:=KC.out _ _ _ (by assumption); go_simp; refine hK.out _ _ hH (fun hH => ?_); clear hK K)
    | (refine wpAnyH_take (i:=5) (v:=.bool false) rfl (by kernel_rfl) (by kernel_rfl) (by decide +kernel) (fun _ _ _ h => h) ((Or.inl ⟨by rfl,fun W hSw => (by dsimp only at hSw; go_simp)⟩)) (by with_reducible assumption) ?_)
    | fail);
   try simp only [Act.put,List.setIfInBounds_toArray,List.set_cons_zero,List.set_cons_succ,List.getElem_toArray,List.getElem_cons_zero,List.getElem_cons_succ])
 repeat
  ((first
    | (refine wpAnyH_take (i:=6) (v:=.bool false) rfl (by kernel_rfl) (by kernel_rfl) (by decide +kernel) (fun _ _ _ h => h) ((Or.inl ⟨by rfl,fun W hSw => (by dsimp only at hSw; go_simp)⟩)) (by with_reducible assumption) ?_)
    | (refine wpAnyH_take (i:=7) (v:=.nilIface) rfl (by kernel_rfl) (by kernel_rfl) (by decide +kernel) (fun _ _ _ h => h) ((Or.inl ⟨by rfl,fun W hSw => (by dsimp only at hSw; go_simp)⟩)) (by with_reducible assumption) ?_)
    | (refine wpAnyH_take (i:=8) (v:=.bool false) rfl (by kernel_rfl) (by kernel_rfl) (by decide +kernel) (fun _ _ _ h => h) ((Or.inl ⟨by rfl,fun W hSw => (by dsimp only at hSw; go_simp)⟩)) (by with_reducible assumption) ?_)
    | (refine wpAnyH_take (i:=9) (v:=.bool false) rfl (by kernel_rfl) (by kernel_rfl) (by decide +kernel) (fun _ _ _ h => h) ((Or.inl ⟨by rfl,fun W hSw => (by dsimp only at hSw; go_simp)⟩)) (by with_reducible assumption) ?_)
    | (refine wpAnyH_take (i:=10) (v:=.bool false) rfl (by kernel_rfl) (by kernel_rfl) (by decide +kernel) (fun _ _ _ h => h) ((Or.inl ⟨by rfl,fun W hSw => (by dsimp only at hSw; go_simp)⟩)) (by with_reducible assumption) ?_)
    | (refine wpAnyH_take (i:=11) (v:=gv R S) rfl (by kernel_rfl) (by kernel_rfl) (by decide +kernel) (fun _ _ _ h => h) (zdz (by rfl) rfl rfl bx Tryd.underlying26 rfl (iSg _ _)) (by with_reducible assumption) ?_)
    | fail);
   try simp only [Act.put,List.setIfInBounds_toArray,List.set_cons_zero,List.set_cons_succ,List.getElem_toArray,List.getElem_cons_zero,List.getElem_cons_succ])
 repeat
  ((first
    | (refine wpAnyH_take (i:=12) (v:=gv R S) rfl (by kernel_rfl) (by kernel_rfl) (by decide +kernel) (fun _ _ _ h => h) (zdz (by rfl) rfl rfl b0 Tryd.underlying26 rfl (iSg _ _)) (by with_reducible assumption) ?_)
    | (refine wpAnyH_take (i:=13) (v:=.bool false) rfl (by kernel_rfl) (by kernel_rfl) (by decide +kernel) (fun _ _ _ h => h) (yif_bin (by rfl) rfl rfl rfl (gG _ _ _ _ _ _ _) (neG kR.out kS.out)) (by with_reducible assumption) ?_)
    | (refine wpAnyH_take (i:=14) (v:=.bool false) rfl (by kernel_rfl) (by kernel_rfl) (by decide +kernel) (fun _ _ _ h => h) ((Or.inl ⟨by rfl,fun W hSw => (by dsimp only at hSw; go_simp)⟩)) (by with_reducible assumption) ?_)
    | fail);
   try simp only [Act.put,List.setIfInBounds_toArray,List.set_cons_zero,List.set_cons_succ,List.getElem_toArray,List.getElem_cons_zero,List.getElem_cons_succ])
 refine wpAnyH_done (by decide +kernel) ?_ _
 refine NoPanic.normal ?_
 have hE:=hH
 clear hH
 replace bz:=hE.block bz
 replace hx:=hx.trans hE
 clear hE
 go_upto_region 9 with (fail)
 refine' zcc (m:=17) (A:=_) 17 (by kernel_rfl) (by kernel_rfl) ?h4a ?h4b
 case h4a =>
  refine zaa (.bool true) rfl (zae (.inl rfl) rfl) ?_;simp only [aP,lA,lZ,lS]
  refine zaa (.bool true) rfl (zae (.inl rfl) rfl) ?_;simp only [aP,lA,lZ,lS]
  refine zag (.nilIface) rfl (zae (.inl rfl) rfl) ?_;simp only [aP,lA,lZ,lS]
  refine zag (.bool true) rfl (zbs rfl rfl rfl (fun _ => by kernel_rfl) (fun _ => by kernel_rfl)) ?_;simp only [aP,lA,lZ,lS]
  refine zaa (.bool true) rfl (zaq rfl rfl rfl) ?_;simp only [aP,lA,lZ,lS]
  refine zaa (.bool true) rfl (zae (.inl rfl) rfl) ?_;simp only [aP,lA,lZ,lS]
  refine zag (gv PX PY) rfl (zac rfl rfl bz rfl Tryd.underlying26 rfl (iSg _ _)) ?_;simp only [aP,lA,lZ,lS]
  refine zag (.slice (some ⟨b,o,none⟩) n c) rfl (zae (.inl rfl) rfl) ?_;simp only [aP,lA,lZ,lS]
  refine zag (.slice (some ⟨b,o,none⟩) 32 c) rfl (zet rfl rfl Q1.out) ?_;simp only [aP,lA,lZ,lS]
  refine zag (nv PX) rfl (zaf (args:=[.slice (some ⟨b,o,none⟩) 32 c]) rfl rfl (fun W => zab Tryd.func10 rfl rfl _ W) (fun W hW => KX.out W (hx.trans hW))) ?_;simp only [aP,lA,lZ,lS]
  refine zag (.slice (some ⟨b,o,none⟩) n c) rfl (zae (.inl rfl) rfl) ?_;simp only [aP,lA,lZ,lS]
  refine zag (.slice (some ⟨b,o + 32,none⟩) 32 (c - 32)) rfl (zet rfl rfl Q2.out) ?_;simp only [aP,lA,lZ,lS]
  refine zag (nv PY) rfl (zaf (args:=[.slice (some ⟨b,o + 32,none⟩) 32 (c - 32)]) rfl rfl (fun W => zab Tryd.func10 rfl rfl _ W) (fun W hW => KY.out W (hx.trans hW))) ?_;simp only [aP,lA,lZ,lS]
  refine zag (gv PX PY) rfl (zau (vs:=[(0,nv PX),(1,nv PY)]) rfl rfl (fun W => bldG W _ _)) ?_;simp only [aP,lA,lZ,lS]
  refine zag (.bool true) rfl (zbs rfl rfl rfl (gG _ _ _ _ _ _ _) (eqG kX.out kY.out)) ?_;simp only [aP,lA,lZ,lS]
  refine zaa (.bool true) rfl (zaq rfl rfl rfl) ?_;simp only [aP,lA,lZ,lS]
  refine zaa (.bool true) rfl (zae (.inr rfl) rfl) ?_;simp only [aP,lA,lZ,lS]
  exact zah
 refine zbq rfl (by kernel_rfl) ?_
 intro w23 hE
 refine NoPanic.normal ?_
 replace hx:=hx.trans hE
 clear hE
 go_wp2
 go_ret
 exact ⟨rfl,hx⟩
theorem sb_walk (hC : Code7) (hA : CodeD) (R S : Nat) (hR : R < top) (hS : S < top) (A : Option Addr) (n c : Nat) (y : Nat → Nat) (hy : ∀ j,y j < 256) (hnc : n ≤ c) (w : World) (hK : KT w) (hs : Src w A n y w.heap.size) :
  Calls Tryd.prog 3 #[gv R S,.slice A n c] w fun e w' => e = .returned (.bool true) ∧ Ext w w':=by
 by_cases hn : n = 64
 ·
  rcases hs with h0 | ⟨b,o,rfl,hlt,_,hcell⟩
  ·
   omega
  ·
   exact sb_yes hC hA hR hS b o n c hn y hy (by omega) hK hlt (fun j hj => hcell j (by omega))
 ·
  exact sb_no hC hA hR hS A n c hn hK
end Go.Proofs.YtmfjigcdhijkjaaDoor
namespace Go.Proofs.YtmfjigcdhijkjaaDoor
section
open Go.ChangeShapes Go.WideShapes Go.ChangeAt Go.RowKit
theorem SignBytes_lifted (C : Code7 ∧ CodeD) (os : Os) (started : os.Started) (H : Type) (enc : TypeId × Value → H) :
  ReturnsInHanded {} Tryd.checked os 3 .any (fun w args => (Rows.signBytesSpec.pre enc Tryd.prog Tryd.f3 [] false w args ∧ laidMetH Tryd.prog Rows.signBytesRow.laid w) ∧ sizedMet enc Tryd.prog Tryd.f3 (OpenSpec.ofChange Rows.signBytesSpec) false w args)
   (Rows.signBytesSpec.post enc Tryd.prog Tryd.f3 false true false false):=by
 refine returnsInHanded_of_change_and (C:=Tryd.checked) (X:=fun w _ => laidMetH Tryd.prog Rows.signBytesRow.laid w) (fun _ _ _ hh h => h.of_heap hh) own started (by kernel_rfl) Tryd.func3
  (ChangeSpec.witness_shaped (enc:=enc) (C:=Tryd.checked) (os:=os) (X:=fun w _ => laidMetH Tryd.prog Rows.signBytesRow.laid w) false (World.doorLaid Tryd.prog 14 os) #[.agg #[.int .u64 0,.int .u64 0,.int .u64 0,.int .u64 0,.int .u64 0,.int .u64 0,.int .u64 0,.int .u64 0],.slice none 0 0] 8 rfl (World.shaped_of_RefB (by kernel_rfl) (by kernel_rfl)) (by kernel_rfl) (by kernel_rfl) (by kernel_rfl) (door_met os _)) ?_
 intro W base args ds gs before hval0 hW _ _ hL _
 have hval : ∀ (j : Nat) t v,Tryd.f3.params[j]? = some t → args[j]? = some v → Value.okWide Tryd.prog W .any base t v:=hval0
 have hW':=hW
 obtain ⟨p,q,hA0,hV,rfl,_,_⟩:=hW
 have hA : DataW.TrodAll enc Tryd.prog W 0 (fun _ => true) true Tryd.f3.params.toList args.toList ds p:=hA0
 rw [Tryd.params3] at hA hval
 obtain ⟨v0,v1,d0,d1,p0,p1,rfl,rfl,rfl,h0,h1⟩:=trodAll_two hA
 obtain ⟨rfl,rfl⟩:=trodVars_none hV
 obtain ⟨X0,Y0,lX0,lY0,rfl,rfl,rfl⟩:=open_sig (hval 0 26 v0 rfl rfl) h0
 obtain ⟨a1,len1,cap1,rfl⟩:=okWide_slice Tryd.underlying27 (hval 1 27 v1 rfl rfl)
 have h1k:=h1
 obtain ⟨fuel1,hf1⟩:=h1
 clear hA0 hval0
 simp only [List.append_nil] at hW'
 have hlt1 : ∀ x ∈ p1,x.block < W.heap.size:=fun x hx => by simpa using hW'.lt x (by simp [hx])
 obtain ⟨y1,hy1,hs1,hlc1⟩:=src_of (by simpa [Value.cells] using hf1) hlt1
 refine (sb_walk C.1 C.2 X0 Y0 lX0 lY0 a1 len1 cap1 y1 hy1 hlc1 W (zgn hL) hs1).mono fun e W' ⟨he,hb⟩ => ?_
 subst he
 exact ⟨_,rfl,_,_,_,[],_,[],hW',trodAll_mk1 (shut_bool Tryd.underlying4 true),by
  have h2:=trodAll_mk2 (shut_sig _ _ _ _ X0 Y0) (Below.trod laidOut (by kernel_rfl) (of_decide_eq_true (by kernel_rfl)) h1k hb hlt1)
  try simp only [List.append_nil] at h2
  exact h2,rfl,hb.frame _,fun h => by cases h⟩
theorem SignBytes_over (C : Code7 ∧ CodeD) : Rows.signBytesRow.holds Tryd.pinned (OpenSpec.ofChange Rows.signBytesSpec) :=
 OpenClaim.holds_of_wide 3 Tryd.f3 rfl rfl rfl rfl rfl rfl rfl ⟨rfl,rfl,rfl,rfl,rfl⟩ rfl rfl rfl rfl rfl (by kernel_rfl) Tryd.func3 (by kernel_rfl)
  (of_decide_eq_true (by kernel_rfl)) (by unfold Func.isWrapper; rw [if_neg (of_decide_eq_false (by kernel_rfl))]; exact ⟨rfl,rfl⟩)
  (fun os started H enc _ => SignBytes_lifted C os started H enc)
theorem zhn (C : Code7 ∧ CodeD) : Rows.SignBytesCardSaid :=
 Claim7.holds_tied_plain_at .later [] [.data] true _ true
  (SignBytes_over C) (fun _ h => by cases h) (by kernel_rfl) (fun _ h => by cases h) signBytes_row_tie rfl ⟨rfl,rfl⟩ (by kernel_rfl) rfl
  (fun f fn hf hfn => by
   obtain rfl : f = 3:=Option.some.inj ((show Tryd.prog.funcNamed "clapper/clapperlaw07.SignBytes" = some 3 by kernel_rfl).symm.trans hf) |>.symm
   obtain rfl : fn = Tryd.f3:=(Option.some.inj (Tryd.func3.symm.trans hfn)).symm
   exact ⟨by kernel_rfl,fun j t ht => by
    rw [Tryd.params3] at ht
    have hm : t ∈ [26,27]:=by simpa using Array.mem_of_getElem? ht
    have hall : ([26,27].all fun u => !Tryd.prog.wantsStandIn u) = true:=by kernel_rfl
    exact (show Tryd.prog.wantsStandIn t = false by simpa using List.all_eq_true.1 hall t hm)⟩)
  (by kernel_rfl)
end
#print axioms zhn
end Go.Proofs.YtmfjigcdhijkjaaDoor
