/-
  Of Rcf Rch Rci Made2 SMath SSpec SBits HBase SWords HRot HWords.
-/
import Derived.Laws.IdiomStrings
import Derived.Great.BuildSlice
import Derived.WalkKit
import Derived.Test.YtihophdbkjhopaaGreatDoorRows
import Derived.Deep.MidRow
import Derived.Deep.WholeRow
import Derived.ChangeKeysEq
import Derived.WalkSpells
import Derived.WalkLawsBesides
import Derived.Deep.LoopGhost
import Derived.BigQuiet
import Derived.Deep.QuietTactic
import Derived.Deep.RegionWith
import Derived.Deep.Cut
import Derived.Deep.CutRange
import Derived.Deep.RegionHeld3
import Derived.StillTailTactics
import Derived.IntWalk
import Derived.Test.YtihophdbkjhopaaGreatDoorZC8
import Derived.Test.YtihophdbkjhopaaGreatDoorZC7
import Derived.Test.YtihophdbkjhopaaGreatDoorZC6
import Derived.Test.YtihophdbkjhopaaGreatDoorZC1
import Derived.Test.YtihophdbkjhopaaGreatDoorZC2
import Derived.Test.YtihophdbkjhopaaGreatDoorZC3
set_option maxRecDepth 1000000
set_option maxHeartbeats 20000000
namespace Go.Proofs.YtihophdbkjhopaaGreatDoor
open Go.RowKit
open Go.Value renaming int → vI
open Go.IntKind renaming u64 → vU
open Go.Act renaming put → aP
open List renaming setIfInBounds_toArray → lA, set_cons_zero → lZ, set_cons_succ → lS
def dgP (p : List Nat) : Array Value:=dgc fun j => p.getD j 0
theorem dgP_map (f : Nat → Nat) : dgP ((List.range 32).map f) = dgc f:=arrOf_congr fun i hi => by
 show Value.int .u8 ((((List.range 32).map f).getD i 0 : Nat) : Int) = _
 rw [List.getD_eq_getElem?_getD,List.getElem?_map,List.getElem?_range hi]
 rfl
theorem run_items17 (d : Nat) (xs ys : Array Value) (A B : Nat → Int) (w : World) : ∀ is : List Nat,(∀ i ∈ is,xs[i]? = some (.int .u8 (A i))) → (∀ i ∈ is,ys[i]? = some (.int .u8 (B i))) →
  (Op.eqItems (d + 1) 5 1 xs ys is).run Tryz.prog w = .ok (is.all fun i => A i == B i) w
 | [],_,_ => by simp [Op.eqItems]
 | i :: is,hx,hy => by
  have e1:=run_part_plain (P:=Tryz.prog) w (e:=5) (by kernel_rfl) (xs:=xs) (off:=i * 1) (v:=.int .u8 (A i)) (by rw [Nat.mul_one]; exact hx i (by simp))
  have e2:=run_part_plain (P:=Tryz.prog) w (e:=5) (by kernel_rfl) (xs:=ys) (off:=i * 1) (v:=.int .u8 (B i)) (by rw [Nat.mul_one]; exact hy i (by simp))
  have e3:=run_equalIn_int (P:=Tryz.prog) w d 5 .u8 .u8 (A i) (B i) Tryz.underlying5
  have ih:=run_items17 d xs ys A B w is (fun j hj => hx j (by simp [hj])) (fun j hj => hy j (by simp [hj]))
  simp only [Op.eqItems,Sem.run_bind,e1,e2,e3,Result.andThen_ok]
  by_cases h : A i = B i
  ·
   simp [h,ih]
  ·
   simp [h]
theorem dgP_get (p : List Nat) {j : Nat} (hj : j < 32) : (dgP p)[j]? = some (.int .u8 ((p.getD j 0 : Nat) : Int)):=zca _ hj
theorem all_same {p q : List Nat} (hp : p.length = 32) (hq : q.length = 32) : ((List.range 32).all fun i => ((p.getD i 0 : Nat) : Int) == ((q.getD i 0 : Nat) : Int)) = decide (p = q):=by
 by_cases h : p = q
 ·
  subst h
  simp
 ·
  rw [decide_eq_false h,Bool.eq_false_iff]
  intro hA
  rw [List.all_eq_true] at hA
  refine h (List.ext_getElem (by omega) fun i h1 h2 => ?_)
  have:=hA i (by simp; omega)
  simp only [beq_iff_eq,List.getD_eq_getElem?_getD,List.getElem?_eq_getElem h1,List.getElem?_eq_getElem h2,Option.getD_some] at this
  omega
theorem eql_dgP {p q : List Nat} (hp : p.length = 32) (hq : q.length = 32) (w : World) : (binOp .eql 23 (.agg (dgP p)) (.agg (dgP q))).run Tryz.prog w = .ok (.bool (decide (p = q))) w:=by
 obtain ⟨i,hi⟩ : ∃ i,Tryz.prog.info? 5 = some i:=Option.isSome_iff_exists.1 (by kernel_rfl)
 have hc : Tryz.prog.cellsOf 5 = 1:=by kernel_rfl
 rw [run_eql_struct,run_equalIn_array (P:=Tryz.prog) w 9999 _ _ Tryz.underlying23 hi,hc]
 have h:=run_items17 9998 (dgP p) (dgP q) (fun j => ((p.getD j 0 : Nat) : Int)) (fun j => ((q.getD j 0 : Nat) : Int)) w (List.range 32) (fun j hj => dgP_get p (by simpa using hj)) (fun j hj => dgP_get q (by simpa using hj))
 rw [h,all_same hp hq]
 rfl
theorem gDg (D D' : Array Value) (op : BinOp) (x y : Operand) (W : World) : (eqGuard op 23 x y (.agg D) (.agg D')).run Tryz.prog W = .ok () W:=by
 cases op <;> simp [eqGuard,go_sem]
theorem zgh {P : Program} {ops : Array Oper} {rest : List Oper} {o : Oper} {a : Act} {w : World} {Q : Exit → Act → World → Prop} (hgd : Region.wanted o (yielded ops a.tmps) = true) (ty : TypeId) (x : Operand) (ho : o.op = .load ty x)
  (g off : Nat) (hx : a.eval x = .pointer (some ⟨g,off,none⟩)) (cs : Array Value) (d : TypeDesc) (hc : ∀ j v,cs[j]? = some v → w.cell? ⟨g,off + j,none⟩ = some v)
  (hu : P.underlying ty = some d) (hd : d.isRow = true) (hi : (P.info? ty).map (·.size) = some cs.size)
  (h : wpList P ops Q rest (a.put o.dst (.agg cs)) w) : wpList P ops Q (o :: rest) a w :=
 wpList_step fun K hK => by
  rw [if_pos hgd]
  have hl : (loadVar ty ⟨g,off,none⟩).run P w = .ok (.agg cs) w:=run_loadVar_mid w g off ty cs.toList d (fun j v hv => hc j v (by simpa using hv)) hu hd (by simpa using hi)
  unfold Oper.wp execOp
  simp only [ho,hx,Instr.loadAt,Instr.sureAddr,Sem.run_bind,Sem.run_pure,Result.andThen_ok,hl]
  exact hK _ _ h
/-! ### three blocks -/
def stored3 (w : World) (X D G : Array Value) : World:=(((((w.alloc (.cells RZ 26)).alloc (.cells DZ 23)).alloc (.cells Z8 46)).setRow w.heap.size X).setRow (w.heap.size + 1) D).setRow (w.heap.size + 1 + 1) G
theorem zbx (w : World) (o o2 o3 : Obj) : (((w.alloc o).alloc o2).alloc o3).heap[w.heap.size]? = some o ∧ (((w.alloc o).alloc o2).alloc o3).heap[w.heap.size + 1]? = some o2 ∧ (((w.alloc o).alloc o2).alloc o3).heap[w.heap.size + 1 + 1]? = some o3:=by
 have h1:=ziz w o o2
 have h3:=zac ((w.alloc o).alloc o2) o3
 have e : ((w.alloc o).alloc o2).heap.size = w.heap.size + 1 + 1:=by rw [World.size_alloc,World.size_alloc]
 rw [e] at h3
 have hE:=Ext.alloc ((w.alloc o).alloc o2) o3
 exact ⟨hE.block h1.1,hE.block h1.2,h3⟩
theorem zfv (w : World) (X D G : Array Value) : Ext w (stored3 w X D G) ∧ (stored3 w X D G).heap[w.heap.size]? = some (.cells X 26 (0,0)) ∧ (stored3 w X D G).heap[w.heap.size + 1]? = some (.cells D 23 (0,0)) ∧ (stored3 w X D G).heap[w.heap.size + 1 + 1]? = some (.cells G 46 (0,0)):=by
 have h:=zbx w (.cells RZ 26) (.cells DZ 23) (.cells Z8 46)
 have hE:=(zft w (.cells RZ 26) (.cells DZ 23)).trans (Ext.alloc _ (.cells Z8 46))
 have h2:=two_rows (T:=X) (G:=D) hE h.1 h.2.1 ⟨Nat.le_refl _,Nat.lt_succ_self _⟩
 refine ⟨zan h2.1 (by omega) G,(zaw _ G (by omega)).trans h2.2.1,(zaw _ G (by omega)).trans h2.2.2,?_⟩
 exact setRow_heap _ _ Z8 G 46 (0,0) (zbh D (zbh X h.2.2 (by omega)) (by omega))
theorem zbn {L : Low} {w : World} {bs : List Nat} {X D G : Array Value} {y : Bool} (h : OpenA17 L w bs X D G y) : ((Tryz.prog.info? 26).map (·.size) = some X.size ∧ RZ.size = X.size ∧ X.all (·.oneCell') = true) ∧ ((Tryz.prog.info? 23).map (·.size) = some D.size ∧ DZ.size = D.size ∧ D.all (·.oneCell') = true) ∧
  ((Tryz.prog.info? 46).map (·.size) = some G.size ∧ Z8.size = G.size ∧ G.all (·.oneCell') = true):=by
 rcases h with ⟨_,rfl,rfl,rfl,_⟩ | ⟨r,body,x,s,_,hR,rfl,rfl,_⟩
 ·
  exact ⟨⟨iRZ,rfl,zbz⟩,⟨iDZ,rfl,zdh⟩,⟨iSg _ _,rfl,zeu _ _⟩⟩
 ·
  exact ⟨⟨hR.info,hR.size.symm,hR.one⟩,⟨iDg _,(zam 32 _).symm,zbq fun _ _ => rfl⟩,⟨iSg _ _,rfl,zeu _ _⟩⟩
section
variable {dg : List Nat → Nat → Nat} {vf : (Nat → Nat) → Nat → Nat → Bool} {dev : Int} {i : Nat} {last bs body : List Nat} {r : Rc} {x y : Nat}
theorem link_off (h : openR bs = none) : linkR dg vf dev i last bs = none:=by
 unfold linkR
 rw [h]
theorem link_if (h : openR bs = some (r,body,x,y)) : linkR dg vf dev i last bs = if r.dv = dev ∧ r.sq = (i : Int) ∧ r.pv = last ∧ vf (dg body) x y = true then some ((List.range 32).map (dg body)) else none:=by
 unfold linkR
 rw [h]
theorem zfb (h : openR bs = some (r,body,x,y)) (hn : ¬ (r.dv = dev ∧ r.sq = (i : Int) ∧ r.pv = last ∧ vf (dg body) x y = true)) : linkR dg vf dev i last bs = none:=by
 rw [link_if h,if_neg hn]
theorem link_yes (h : openR bs = some (r,body,x,y)) (hn : r.dv = dev ∧ r.sq = (i : Int) ∧ r.pv = last ∧ vf (dg body) x y = true) : linkR dg vf dev i last bs = some ((List.range 32).map (dg body)):=by
 rw [link_if h,if_pos hn]
end
theorem txs_get {l : List Tv} {k : Nat} (h : k < l.length) : (txs l)[k]? = some (l.getD k noTv).2:=by
 unfold txs
 rw [List.getElem?_map,tv_get h]
 rfl
theorem rchain17_calls {L : Low} (R : LowR L) (v : Value) (l : List Tv) (dev : Int) (X Y : Nat) (f : Bool) (hX : X < top) (hY : Y < top) (hl : l.length ≤ 1000000) (hle : ∀ x ∈ l,x.2.length ≤ 100000) (w : World) (hT : Tx w v l) :
  Calls Tryz.prog 21 #[v,.int .i64 dev,qv X Y f] w fun e w' => e = .returned (.int .i64 (chainR L.dg (fun y r s => L.vf X Y f y r s) dev 0 nilD (txs l) : Nat)) ∧ Ext w w':=by
 have HR:=veil R
 obtain ⟨q,hq⟩ : ∃ q,q = qc X Y f:=⟨_,rfl⟩
 have HQ:=veil (And.intro hq (show (Tryz.prog.info? 44).map (·.size) = some q.size by rw [hq]; exact iT X Y f))
 have KV:=veil (fun y r s W h1 h2 h3 => R.ver X Y f y r s W hX hY h1 h2 h3)
 unfold qv at KV ⊢
 rw [← hq] at KV ⊢
 obtain ⟨hLs,hAt⟩:=hT
 obtain ⟨A,c,rfl,hc,hx⟩:=hLs
 have HT:=veil (And.intro hx (And.intro hAt (And.intro hle hl)))
 have HN:=veil (txs_len l)
 obtain ⟨n,hn⟩ : ∃ n,n = l.length:=⟨_,rfl⟩
 rw [← hn] at hc ⊢
 have HL:=veil hn
 have hnb : n ≤ 1000000:=by omega
 clear hx hAt hle hl R hq hn hX hY
 have h2:=ziz w (.cells q 44) (.cells DZ 23)
 have hE0:=zft w (.cells q 44) (.cells DZ 23)
 go_enter Tryz.func21,Tryz.ntmps21
 go_upto_region 2 with (fail)
 obtain ⟨g5,hg5⟩ : ∃ g,g = w.heap.size:=⟨_,rfl⟩
 obtain ⟨g7,hg7⟩ : ∃ g,g = w.heap.size + 1:=⟨_,rfl⟩
 obtain ⟨w0,hw0⟩ : ∃ W,W = (w.alloc (.cells q 44)).alloc (.cells DZ 23):=⟨_,rfl⟩
 rw [← hw0,← hg7,← hg5] at h2
 rw [← hw0] at hE0
 unfold DZ at hw0
 rw [← hw0,← hg7,← hg5]
 have hlo : w.heap.size ≤ g7:=by omega
 have n57 : g5 < g7:=by omega
 have H0:=veil (And.intro hE0 h2)
 clear hE0 h2 hg5 hg7 hw0
 go_upto_region 3 with (fail)
 go_loopw [8,9,10,11,12,13] (fun u _ _ _ _ _ wr => ∃ (k : Nat) (last : List Nat),k ≤ n ∧ u = .int .i64 (k : Int) ∧ OnR L.dg (fun y r s => L.vf X Y f y r s) dev (txs l) k last ∧ last.length = 32 ∧ wr.heap[g7]? = some (.cells (dgP last) 23 (0,0)) ∧ wr.heap[g5]? = some (.cells q 44 (0,0)) ∧ Ext w wr)
  (fun u _ _ _ _ _ _ => n - (intOf u).toNat)
 case atStart => exact ⟨0,nilD,by omega,rfl,.start,rfl,H0.out.2.2,H0.out.2.1,H0.out.1⟩
 case round =>
  obtain ⟨k,last,hk,rfl,hOn,h32,h7,h5,hE⟩:=hrel
  by_cases hlt : k < n
  ·
   have hd1 : decide ((k : Int) < (n : Int)) = true:=by simp; omega
   have hkk : (k : Int) < (n : Int):=by omega
   have hkl : k < l.length:=by have:=HL.out; omega
   obtain ⟨b,o,hA,hb,hcl⟩:=HT.out.1.resolve_left (by omega)
   subst hA
   have hget:=txs_get hkl
   have hmem : l.getD k noTv ∈ l:=List.mem_of_getElem? (tv_get hkl)
   obtain ⟨A1,c1,hx1,hc1,hB1⟩:=HT.out.2.1 _ hmem
   have hlen:=HT.out.2.2.1 _ hmem
   have cc:=txt_cell hE hb hcl hkl
   rw [hx1] at cc
   obtain ⟨bs,hbs⟩ : ∃ bs,bs = (l.getD k noTv).2:=⟨_,rfl⟩
   rw [← hbs] at cc hget hB1 hc1 hlen
   obtain ⟨m,hm⟩ : ∃ m,m = bs.length:=⟨_,rfl⟩
   rw [← hm] at cc hc1 hlen
   have KO:=veil (ropen17_calls HR.out A1 m c1 bs hm hc1 hlen wr (hB1.ext hE))
   have HS:=veil (And.intro hOn (And.intro h32 (And.intro hget hB1.1)))
   have H1:=veil (And.intro hE (And.intro h7 h5))
   clear hOn h32 hget hmem hx1 hbs hB1 hm hc1 hlen h7 h5 hE hcl
   go_upto_region 6 with (first
    | (go_at_call 16; refine KO.out.mono ?_; rintro e w2 ⟨X1,D,G,y,rfl,hE2,hA⟩)
    | ((with_reducible refine zah ?_); refine wpList_store_row rfl 26 _ _ rfl w2.heap.size X1 rfl rfl 26 _ (zbx w2 _ _ _).1 (zbn hA).1.1 (zbn hA).1.2.1 (zbn hA).1.2.2 ?_)
    | ((with_reducible refine zah ?_); refine wpList_store_row rfl 23 _ _ rfl (w2.heap.size + 1) D rfl rfl 23 _ (zbh _ (zbx w2 _ _ _).2.1 (Nat.lt_succ_self _)) (zbn hA).2.1.1 (zbn hA).2.1.2.1 (zbn hA).2.1.2.2 ?_)
    | ((with_reducible refine zah ?_); refine wpList_store_row rfl 46 _ _ rfl (w2.heap.size + 1 + 1) G rfl rfl 46 _ (zbh _ (zbh _ (zbx w2 _ _ _).2.2 (by omega)) (by omega)) (zbn hA).2.2.1 (zbn hA).2.2.2.1 (zbn hA).2.2.2.2 ?_))
   change Code.wp _ _ _ _ (stored3 w2 X1 D G)
   have hF:=zfv w2 X1 D G
   generalize stored3 w2 X1 D G = w3 at *
   obtain ⟨g9,hg9⟩ : ∃ g,g = w2.heap.size:=⟨_,rfl⟩
   obtain ⟨g10,hg10⟩ : ∃ g,g = w2.heap.size + 1:=⟨_,rfl⟩
   obtain ⟨g11,hg11⟩ : ∃ g,g = w2.heap.size + 1 + 1:=⟨_,rfl⟩
   rw [← hg11,← hg10,← hg9] at hF ⊢
   have hE3:=hE2.trans hF.1
   have H3:=veil (And.intro (H1.out.1.trans hE3) (And.intro (hE3.block H1.out.2.1) (And.intro (hE3.block H1.out.2.2) hF.2)))
   have HA:=veil (And.intro hA hF.1)
   clear hF hg9 hg10 hg11 hE2 hE3 H1 KO hA cc
   rcases HA.out.1 with ⟨hop,rfl,rfl,rfl,rfl⟩ | ⟨r,body,x,s,hop,hRv,rfl,rfl,rfl⟩
   ·
    clear HA
    have HZ:=veil (zcs HS.out.1 HS.out.2.2.1 (link_off hop))
    go_wp2
    go_ret
    exact ⟨by rw [HZ.out]; rfl,H3.out.1⟩
   ·
    have hRx:=hRv.ext HA.out.2
    obtain ⟨hWf,A9,c9,hX1,_,_⟩:=hRv
    have h9:=H3.out.2.2.2.1
    have hAt : RcAt w3 g9 (rcC r (.slice A9 r.bs.length c9)):=by rw [← hX1]; exact h9
    obtain ⟨d0,d1,_⟩:=hAt.cells
    obtain ⟨dv,hdv⟩ : ∃ n,n = r.dv:=⟨_,rfl⟩
    obtain ⟨sq,hsq⟩ : ∃ n,n = r.sq:=⟨_,rfl⟩
    rw [← hdv] at d0
    rw [← hsq] at d1
    obtain ⟨P1,hP1⟩ : ∃ P,P = dgP r.pv:=⟨_,rfl⟩
    obtain ⟨P2,hP2⟩ : ∃ P,P = dgP last:=⟨_,rfl⟩
    have hmid : ∀ (j : Nat) (v : Value),P1[j]? = some v → w3.cell? ⟨g9,8 + j,none⟩ = some v:=fun j v hv => by
     rw [hP1] at hv
     have hj : j < 32:=by
      have:=(Array.getElem?_eq_some_iff.1 hv).1
      unfold dgP dgc at this
      rw [zam] at this
      exact this
     rw [dgP_get _ hj] at hv
     rw [← hv]
     exact hAt.cell (rcC_pv r _ hj)
    have kq : ∀ W,(binOp .neq 23 (.agg P1) (.agg P2)).run Tryz.prog W = .ok (.bool (!decide (r.pv = last))) W:=fun W => by
     rw [hP1,hP2]
     exact neq_of (eql_dgP hWf.1 HS.out.2.1 W) rfl
    have kg : ∀ op x y W,(eqGuard op 23 x y (.agg P1) (.agg P2)).run Tryz.prog W = .ok () W:=fun op x y W => gDg P1 P2 op x y W
    have i1 : (Tryz.prog.info? 23).map (·.size) = some P1.size:=by rw [hP1]; exact iDg _
    have i2 : (Tryz.prog.info? 23).map (·.size) = some P2.size:=by rw [hP2]; exact iDg _
    have HP:=veil (And.intro i1 (And.intro i2 (And.intro hmid (And.intro hdv (And.intro hsq hP2)))))
    have h7:=H3.out.2.1
    rw [← hP2] at h7
    have H4:=veil (And.intro H3.out.1 (And.intro h7 H3.out.2.2))
    have HO:=veil hop
    clear hRx hWf hX1 h9 hAt hdv hsq hP1 hmid i1 i2 h7 H3 hop hP2 HA
    by_cases p1 : dv = dev
    rotate_left
    ·
     have f1 : (dv == dev) = false:=by simp [p1]
     clear kq kg
     have HZ:=veil (zcs HS.out.1 HS.out.2.2.1 (zfb HO.out fun h => p1 (HP.out.2.2.2.1.trans h.1)))
     go_wp2
     go_ret
     exact ⟨by rw [HZ.out]; rfl,H4.out.1⟩
    have f1 : (dv == dev) = true:=by simp [p1]
    by_cases p2 : sq = (k : Int)
    rotate_left
    ·
     have f2 : (sq == (k : Int)) = false:=by simp [p2]
     have HD:=veil p1
     clear kq kg
     subst p1
     have HZ:=veil (zcs HS.out.1 HS.out.2.2.1 (zfb HO.out fun h => p2 (HP.out.2.2.2.2.1.trans h.2.1)))
     go_wp2
     go_ret
     exact ⟨by rw [HZ.out]; rfl,H4.out.1⟩
    have f2 : (sq == (k : Int)) = true:=by simp [p2]
    have HD:=veil (And.intro (HP.out.2.2.2.1.symm.trans p1) (HP.out.2.2.2.2.1.symm.trans p2))
    subst p1
    by_cases p3 : r.pv = last
    rotate_left
    ·
     have f3 : (!decide (r.pv = last)) = true:=by rw [decide_eq_false p3]; rfl
     rw [f3] at kq
     have HZ:=veil (zcs HS.out.1 HS.out.2.2.1 (zfb HO.out fun h => p3 h.2.2.1))
     go_wp2_with (first
      | ((with_reducible refine zaa 46 ?_); refine zgh rfl 23 _ rfl g9 8 rfl P1 _ HP.out.2.2.1 Tryz.underlying23 rfl HP.out.1 ?_)
      | ((with_reducible refine zaa 47 ?_); refine zdw rfl 23 _ rfl g7 rfl 23 P2 (0,0) _ H4.out.2.1 Tryz.underlying23 rfl HP.out.2.1 ?_))
     go_ret
     exact ⟨by rw [HZ.out]; rfl,H4.out.1⟩
    have f3 : (!decide (r.pv = last)) = false:=by rw [decide_eq_true p3]; rfl
    rw [f3] at kq
    obtain ⟨hx1,hx2⟩ : x < top ∧ s < top:=by
     have:=issue_open HS.out.2.2.2 HO.out
     exact ⟨this.2.2.2.2.1,this.2.2.2.2.2.1⟩
    have KW:=veil (fun W => KV.out (L.dg body) x s W hx1 hx2 (L.dgb body))
    unfold dgv gv at KW
    have HQ2:=veil p3
    clear f3 p3 hx1 hx2
    go_upto_region 9 with (first
     | ((with_reducible refine zaa 46 ?_); refine zgh rfl 23 _ rfl g9 8 rfl P1 _ HP.out.2.2.1 Tryz.underlying23 rfl HP.out.1 ?_)
     | ((with_reducible refine zaa 47 ?_); refine zdw rfl 23 _ rfl g7 rfl 23 P2 (0,0) _ H4.out.2.1 Tryz.underlying23 rfl HP.out.2.1 ?_)
     | ((with_reducible refine zaa 51 ?_); refine wpList_load_row rfl 44 _ rfl g5 rfl 44 q (0,0) _ H4.out.2.2.1 Tryz.underlying44 rfl HQ.out.2 ?_)
     | ((with_reducible refine zaa 52 ?_); refine wpList_load_row rfl 23 _ rfl g10 rfl 23 (dgc (L.dg body)) (0,0) _ H4.out.2.2.2.2.1 Tryz.underlying23 rfl (iDg _) ?_)
     | ((with_reducible refine zaa 53 ?_); refine wpList_load_row rfl 46 _ rfl g11 rfl 46 (gc x s) (0,0) _ H4.out.2.2.2.2.2 Tryz.underlying46 rfl (iSg x s) ?_)
     | (go_at_call 19; refine (KW.out w3).mono ?_; rintro e w4 ⟨rfl,hE4⟩))
    have H5:=veil (And.intro (H4.out.1.trans hE4) (And.intro (hE4.block H4.out.2.1) (And.intro (hE4.block H4.out.2.2.1) (hE4.block H4.out.2.2.2.2.1))))
    clear hE4 H4 kq kg d0 d1 KW
    cases hv : L.vf X Y f (L.dg body) x s with
    | false =>
     have HZ:=veil (zcs HS.out.1 HS.out.2.2.1 (zfb HO.out fun h => by rw [hv] at h; cases h.2.2.2))
     clear hv
     go_wp2
     go_ret
     exact ⟨by rw [HZ.out]; rfl,H5.out.1⟩
    | true =>
     have hlink:=link_yes (dg:=L.dg) (vf:=fun y r s => L.vf X Y f y r s) (dev:=dv) (i:=k) (last:=last) HO.out ⟨HD.out.1,HD.out.2,HQ2.out,hv⟩
     have HK:=veil (OnR.more HS.out.1 HS.out.2.2.1 hlink)
     clear hv hlink
     go_wp2_with (first
      | ((with_reducible refine zaa 58 ?_); refine wpList_load_row rfl 23 _ rfl g10 rfl 23 (dgc (L.dg body)) (0,0) _ H5.out.2.2.2 Tryz.underlying23 rfl (iDg _) ?_)
      | ((with_reducible refine zah ?_); refine wpList_store_row rfl 23 _ _ rfl g7 (dgc (L.dg body)) rfl rfl 23 _ H5.out.2.1 (iDg _) (by rw [HP.out.2.2.2.2.2]; rfl) (zbq fun _ _ => rfl) ?_))
     go_roundw
     case rel =>
      refine ⟨k + 1,_,by omega,by go_num,HK.out,by simp,?_,?_,?_⟩
      ·
       rw [dgP_map]; exact setRow_heap _ _ _ _ _ _ H5.out.2.1
      ·
       exact (zaw _ _ (by omega)).trans H5.out.2.2.1
      ·
       exact zan H5.out.1 hlo _
     case measure => simp [intOf]; omega
  ·
   obtain rfl : k = n:=by omega
   have hd1 : decide ((k : Int) < (k : Int)) = false:=by simp
   have hr:=onR_end hOn (by rw [HN.out]; exact HL.out)
   have HE:=veil (And.intro hr hE)
   clear hr hOn hE
   go_wp2
   go_ret
   exact ⟨by rw [HE.out.1]; rfl,HE.out.2⟩
def BodyA17 (w' : World) (r : Rc) (x ev : Value) : Prop :=
 (mayC r = false ∧ (∃ A c,x = .slice A 0 c) ∧ ev = .iface 37 (.int .i64 1)) ∨
 (mayC r = true ∧ (∃ A c,x = .slice A (rcB r).length c ∧ (rcB r).length ≤ c ∧ Bs w' A (rcB r)) ∧ ev = .nilIface)
def OpenC17 (L : Low) (w' : World) (bs : List Nat) (X D G : Array Value) (ev : Value) : Prop :=
 (openR bs = none ∧ X = RZ ∧ D = DZ ∧ G = gc 0 0 ∧ ev = .iface 37 (.int .i64 2)) ∨ (∃ r body x s,openR bs = some (r,body,x,s) ∧ Rv17 w' X r ∧ D = dgc (L.dg body) ∧ G = gc x s ∧ ev = .nilIface)
structure Code17 (L : Low) (I : World → Prop) : Prop where
 keep : ∀ w w',I w → Ext w w' → I w'
 body : ∀ X r w,Rv17 w X r → r.bs.length ≤ 5000 → Calls Tryz.prog 9 #[.agg X] w fun e w' => ∃ x ev,e = .returned (.tuple #[x,ev]) ∧ Ext w w' ∧ BodyA17 w' r x ev
 open_ : ∀ A m c bs w,I w → m = bs.length → m ≤ c → m ≤ 5000 → Bs w A bs → Calls Tryz.prog 15 #[.slice A m c] w fun e w' => ∃ X D G ev,e = .returned (.tuple #[.agg X,.agg D,.agg G,ev]) ∧ Ext w w' ∧ OpenC17 L w' bs X D G ev
 chain : ∀ v l dev X Y f w,I w → X < top → Y < top → l.length ≤ 20 → (∀ x ∈ l,x.2.length ≤ 5000) → Tx w v l → Calls Tryz.prog 20 #[v,.int .i64 dev,qv X Y f] w fun e w' => e = .returned (.int .i64 (chainR L.dg (fun y r s => L.vf X Y f y r s) dev 0 nilD (txs l) : Nat)) ∧ Ext w w'
theorem openR_nil : openR [] = none:=by decide
theorem openC_none {L : Low} {w' : World} {bs : List Nat} {X D G : Array Value} {ev : Value} (h : OpenC17 L w' bs X D G ev) (hn : openR bs = none) : X = RZ ∧ D = DZ ∧ G = gc 0 0 ∧ ev = .iface 37 (.int .i64 2):=by
 rcases h with ⟨_,h⟩ | ⟨r,body,x,s,h,_⟩
 ·
  exact h
 ·
  rw [hn] at h; cases h
def rcUp : Rc:=⟨1,0,0,2,0,0,0,0,nilD,[]⟩
theorem rcUp_v (w : World) : Rv17 w (rcC rcUp (.slice none 0 0)) rcUp:=⟨⟨rfl,nilD_wf.2,fun x hx => by cases hx⟩,none,0,rfl,Nat.le_refl _,Bs.nil w none⟩
theorem rcUp_may : mayC rcUp = true:=by decide
theorem rcUp_len : (rcB rcUp).length = 126:=by rw [rcB_length rfl]; rfl
theorem bldUp (W : World) : (Instr.build 26 #[(0,.int .i64 1),(3,.int .i64 2)]).run Tryz.prog W = .ok (.agg (rcC rcUp (.slice none 0 0))) W:=by kernel_rfl
theorem up_tx {w : World} {g t : Nat} (h : w.heap[g]? = some (.cells #[.slice none 0 0] t (0,0))) : Tx w (.slice (some ⟨g,0,none⟩) 1 1) [noTv]:=by
 refine ⟨ls_one h,fun x hx => ?_⟩
 rw [List.mem_singleton.1 hx]
 exact ⟨none,0,rfl,Nat.le_refl _,Bs.nil w none⟩
theorem up_chain (dg : List Nat → Nat → Nat) (vf : (Nat → Nat) → Nat → Nat → Bool) (dev : Int) : chainR dg vf dev 0 nilD (txs [noTv]) = 0:=chainR_none (link_off openR_nil)
theorem up17_calls {L : Low} {I : World → Prop} (C : Code17 L I) (w : World) (hI : I w) : Calls Tryz.prog 7 #[] w fun e w' => e = .returned (.bool true) ∧ Ext w w':=by
 have HI:=veil hI
 have KO:=veil (C.open_ none 0 0 [] w hI rfl (Nat.le_refl _) (by decide) (Bs.nil w none))
 have HC:=veil C
 have KB:=veil (fun W => C.body _ rcUp W (rcUp_v W) (by decide))
 have KC : Hid (∀ W v,I W → Tx W v [noTv] → Calls Tryz.prog 20 #[v,.int .i64 1,.agg #[vI vU 0,vI vU 0,vI vU 0,vI vU 0,vI vU 0,vI vU 0,vI vU 0,vI vU 0,.bool false]] W fun e w' => e = .returned (.int .i64 0) ∧ Ext W w'):=veil (fun W v hI hT => by
  have h:=C.chain v [noTv] 1 0 0 false W hI (by decide) (by decide) (by decide) (fun x hx => by rw [List.mem_singleton.1 hx]; decide) hT
  rw [up_chain] at h
  exact h)
 have e1:=eqCode22
 have e2:=eqNilNil
 clear hI C
 go_enter Tryz.func7,Tryz.ntmps7
 go_upto_region 2 with (first
  | (go_at_call 15; refine KO.out.mono ?_; rintro e w2 ⟨X,D,G,ev,rfl,hE2,hA⟩; obtain ⟨rfl,rfl,rfl,rfl⟩:=openC_none hA openR_nil)
  | ((with_reducible refine zah ?_); refine wpList_store_row rfl 26 _ _ rfl w2.heap.size RZ rfl rfl 26 _ (zbx w2 _ _ _).1 iRZ rfl zbz ?_)
  | ((with_reducible refine zah ?_); refine wpList_store_row rfl 23 _ _ rfl (w2.heap.size + 1) DZ rfl rfl 23 _ (zbh _ (zbx w2 _ _ _).2.1 (Nat.lt_succ_self _)) iDZ rfl zdh ?_)
  | ((with_reducible refine zah ?_); refine wpList_store_row rfl 46 _ _ rfl (w2.heap.size + 1 + 1) (gc 0 0) rfl rfl 46 _ (zbh _ (zbh _ (zbx w2 _ _ _).2.2 (by omega)) (by omega)) (iSg 0 0) rfl (zeu 0 0) ?_))
 change Code.wp _ _ _ _ (stored3 w2 RZ DZ (gc 0 0))
 have hF:=zfv w2 RZ DZ (gc 0 0)
 generalize stored3 w2 RZ DZ (gc 0 0) = w3 at *
 have H3:=veil (hE2.trans hF.1)
 clear hF hA hE2 KO
 go_upto_region 3 with (first
  | ((with_reducible refine zaa 14 ?_); refine zit (.agg (rcC rcUp (.slice none 0 0))) rfl (run_build_v rfl rfl (bldUp _)) ?_)
  | (go_at_call 9; refine (KB.out _).mono ?_; rintro e w4 ⟨x,ev,rfl,hE4,hA⟩))
 rcases hA with ⟨hm,_⟩ | ⟨_,⟨A,c,rfl,hc,hB⟩,rfl⟩
 ·
  rw [rcUp_may] at hm; cases hm
 ·
  rw [rcUp_len]
  have H4:=veil (H3.out.trans hE4)
  clear hE4 hB hc H3 KB
  go_wp2_with (go_at_call 20; refine (KC.out _ _ (HC.out.keep _ _ HI.out (H4.out.trans (Ext.alloc w4 _))) (up_tx (zac w4 _))).mono ?_; rintro e w5 ⟨rfl,hE5⟩)
  go_ret
  exact ⟨rfl,(H4.out.trans (Ext.alloc w4 _)).trans hE5⟩
theorem eqlI (z : Int) (W : World) : (binOp .eql 3 (.int .i64 z) (.int .i64 z)).run Tryz.prog W = .ok (.bool true) W:=by
 have h:=run_equalIn_int (P:=Tryz.prog) W 9999 3 .i64 .i64 z z Tryz.underlying3
 first
  | (simp [binOp,go_sem]; done)
  | (unfold binOp; simp [go_sem,h]; done)
  | (simpa [binOp,go_sem] using h)
theorem gdI (z : Int) (x y : Operand) (W : World) : (eqGuard .eql 3 x y (.int .i64 z) (.int .i64 z)).run Tryz.prog W = .ok () W:=by simp [eqGuard,go_sem]
theorem chains17_walk {L : Low} {I : World → Prop} (R : LowR L) (C : Code17 L I) (v : Value) (l : List Tv) (dev : Int) (X Y : Nat) (f : Bool) (hX : X < top) (hY : Y < top) (w : World) (hI : I w) (hT : Tx w v l) (hl : l.length ≤ 9223372036854775807) :
  Calls Tryz.prog 5 #[v,.int .i64 dev,qv X Y f] w fun e w' => e = .returned (.bool true) ∧ Ext w w':=by
 have HR:=veil R
 have HC:=veil C
 have HI:=veil hI
 obtain ⟨q,hq⟩ : ∃ q,q = qc X Y f:=⟨_,rfl⟩
 have HQ:=veil (And.intro hq (show (Tryz.prog.info? 44).map (·.size) = some q.size by rw [hq]; exact iT X Y f))
 have HT:=veil hT
 obtain ⟨hLs,hAt⟩:=hT
 obtain ⟨A,c,rfl,hc,hx⟩:=hLs
 have HX:=veil (And.intro hx (And.intro hAt (And.intro hX hY)))
 have KC : Hid (∀ W,Ext w W → l.length ≤ 20 → (∀ x ∈ l,x.2.length ≤ 5000) → Calls Tryz.prog 20 #[.slice A l.length c,.int .i64 dev,.agg q] W fun e w' => e = .returned (.int .i64 (chainR L.dg (fun y r s => L.vf X Y f y r s) dev 0 nilD (txs l) : Nat)) ∧ Ext W w'):=veil (fun W h h1 h2 => by
  have:=C.chain _ l dev X Y f W (C.keep _ _ hI h) hX hY h1 h2 (HT.out.ext h)
  unfold qv at this
  rwa [← hq] at this)
 have KD : Hid (∀ W,Ext w W → l.length ≤ 20 → (∀ x ∈ l,x.2.length ≤ 5000) → Calls Tryz.prog 21 #[.slice A l.length c,.int .i64 dev,.agg q] W fun e w' => e = .returned (.int .i64 (chainR L.dg (fun y r s => L.vf X Y f y r s) dev 0 nilD (txs l) : Nat)) ∧ Ext W w'):=veil (fun W h h1 h2 => by
  have:=rchain17_calls R _ l dev X Y f hX hY (by omega) (fun x hx => Nat.le_trans (h2 x hx) (by decide)) W (HT.out.ext h)
  unfold qv at this
  rwa [← hq] at this)
 obtain ⟨Z,hZ⟩ : ∃ Z : Int,Z = (chainR L.dg (fun y r s => L.vf X Y f y r s) dev 0 nilD (txs l) : Nat):=⟨_,rfl⟩
 rw [← hZ] at KC KD
 unfold qv
 rw [← hq]
 obtain ⟨n,hn⟩ : ∃ n,n = l.length:=⟨_,rfl⟩
 rw [← hn] at KC KD hc ⊢
 have HN:=veil hn
 rw [← hn] at hl
 clear hx hAt R C hI hq hn hX hY hZ HT
 have h5:=zac w (.cells q 44)
 have hE0:=Ext.alloc w (.cells q 44)
 go_enter Tryz.func5,Tryz.ntmps5
 go_upto_region 1 with (fail)
 obtain ⟨g5,hg5⟩ : ∃ g,g = w.heap.size:=⟨_,rfl⟩
 rw [← hg5] at h5 ⊢
 generalize w.alloc (.cells q 44) = w0 at *
 have KU:=veil (up17_calls HC.out w0 (HC.out.keep _ _ HI.out hE0))
 have H0:=veil (And.intro hE0 h5)
 clear hE0 h5 hg5
 go_upto_region 2 with (go_at_call 7; refine KU.out.mono ?_; rintro e w1 ⟨rfl,hE1⟩)
 have H1:=veil (And.intro (H0.out.1.trans hE1) (hE1.block H0.out.2))
 clear hE1 H0 KU
 by_cases p0 : (20 : Int) < (n : Int)
 ·
  have hd : decide ((20 : Int) < (n : Int)) = true:=decide_eq_true p0
  go_wp2
  go_ret
  exact ⟨rfl,H1.out.1⟩
 have hd : decide ((20 : Int) < (n : Int)) = false:=decide_eq_false p0
 have hn20 : n ≤ 20:=by omega
 go_upto_region 5 with (fail)
 go_loopw [8] (fun u wr => ∃ i : Nat,i ≤ n ∧ u = .int .i64 (i : Int) ∧ (∀ j,j < i → (l.getD j noTv).2.length ≤ 5000) ∧ wr = w1)
  (fun u _ => n - (intOf u).toNat)
 case atStart => exact ⟨0,by omega,rfl,fun j hj => by omega,rfl⟩
 case round =>
  obtain ⟨i,hi,rfl,hall,rfl⟩:=hrel
  by_cases hlt : i < n
  ·
   have hd1 : decide ((i : Int) < (n : Int)) = true:=by simp; omega
   have hii : (i : Int) < (n : Int):=by omega
   have hil : i < l.length:=by have:=HN.out; omega
   obtain ⟨b,o,hA,hb,hcl⟩:=HX.out.1.resolve_left (by omega)
   have cc:=txt_cell H1.out.1 hb hcl hil
   obtain ⟨A1,c1,hx1,hc1,_⟩:=HX.out.2.1 _ (List.mem_of_getElem? (tv_get hil))
   obtain ⟨m,hm⟩ : ∃ m,m = (l.getD i noTv).2.length:=⟨_,rfl⟩
   rw [hx1,← hm] at cc
   have HA:=veil (And.intro hall hm)
   subst hA
   clear hall hm hx1 hc1 hcl hb
   by_cases p1 : (5000 : Int) < (m : Int)
   ·
    have hd2 : decide ((5000 : Int) < (m : Int)) = true:=decide_eq_true p1
    clear KC KD
    go_wp2
    go_ret
    exact ⟨rfl,H1.out.1⟩
   ·
    have hd2 : decide ((5000 : Int) < (m : Int)) = false:=decide_eq_false p1
    go_wp2
    go_roundw
    case rel =>
     refine ⟨i + 1,by omega,by go_num,fun j hj => ?_,trivial⟩
     by_cases e : j = i
     ·
      rw [e,← HA.out.2]; omega
     ·
      exact HA.out.1 j (by omega)
    case measure => simp [intOf]; omega
  ·
   obtain rfl : i = n:=by omega
   have hd1 : decide ((i : Int) < (i : Int)) = false:=by simp
   have h2 : ∀ x ∈ l,x.2.length ≤ 5000:=fun x hx => by
    obtain ⟨j,hj,e⟩:=List.getElem_of_mem hx
    have:=hall j (by have:=HN.out; omega)
    rw [List.getD_eq_getElem?_getD,List.getElem?_eq_getElem hj,e] at this
    exact this
   have KC2:=veil (fun W h => KC.out W h hn20 h2)
   have KD2:=veil (fun W h => KD.out W h hn20 h2)
   clear KC KD h2 hall
   go_upto_region 9 with (fail)
   refine' zfg (m:=13) (A:=_) 13 (by kernel_rfl) (by kernel_rfl) ?h1 ?h2
   case h1 =>
    refine zab (.bool true) rfl (zai (.inl rfl) rfl) ?_
    refine zab (.bool true) rfl (zai (.inl rfl) rfl) ?_;simp only [aP,lA,lZ,lS]
    refine zbf (.slice A i c) rfl (zai (.inl rfl) rfl) ?_
    refine zbf (.int .i64 dev) rfl (zai (.inl rfl) rfl) ?_;simp only [aP,lA,lZ,lS]
    refine zbf (.agg q) rfl (zbw rfl rfl H1.out.2 Tryz.underlying44 rfl HQ.out.2) ?_
    refine zbf (.int .i64 Z) rfl (zaz (args:=[.slice A i c,.int .i64 dev,.agg q]) rfl rfl (fun W => zad Tryz.func20 rfl rfl _ W) (fun W hW => KC2.out W (H1.out.1.trans hW))) ?_;simp only [aP,lA,lZ,lS]
    refine zbf (.slice A i c) rfl (zai (.inl rfl) rfl) ?_
    refine zbf (.int .i64 dev) rfl (zai (.inl rfl) rfl) ?_;simp only [aP,lA,lZ,lS]
    refine zbf (.agg q) rfl (zbw rfl rfl H1.out.2 Tryz.underlying44 rfl HQ.out.2) ?_
    refine zbf (.int .i64 Z) rfl (zaz (args:=[.slice A i c,.int .i64 dev,.agg q]) rfl rfl (fun W => zad Tryz.func21 rfl rfl _ W) (fun W hW => KD2.out W (H1.out.1.trans hW))) ?_;simp only [aP,lA,lZ,lS]
    refine zbf (.bool true) rfl (zjm rfl rfl rfl (fun W => gdI Z _ _ W) (fun W => eqlI Z W)) ?_
    refine zab (.bool true) rfl (zeh rfl rfl rfl) ?_;simp only [aP,lA,lZ,lS]
    refine zab (.bool true) rfl (zai (.inr rfl) rfl) ?_;simp only [aP,lA,lZ,lS]
    exact zdq
   refine zef rfl (by kernel_rfl) ?_
   intro w3 hE
   refine NoPanic.normal ?_
   have H3:=veil (H1.out.1.trans hE)
   clear hE
   go_wp2
   go_ret
   exact ⟨rfl,H3.out⟩
section
variable {P : Program} {Q : Exit → Act → World → Prop} {l : List Oper} {m : Nat} {a : Act} {w : World} {ty t : TypeId} {zs cells : Array Value} {d de : Tmp} {y : Operand}
theorem run_ext {o : Oper} {x : Operand} {i : Nat} {vs : Array Value} {v : Value} (ho : o.op = .extract x i) (hx : a.eval x = .tuple vs) (hv : vs[i]? = some v) (W : World) : (execOp a.eval o).run P W = .ok (.value v) W:=by
 unfold execOp
 simp only [ho]
 generalize a.eval = ρ at *
 rw [hx]
 simp [Instr.extract,go_sem,hv]
theorem ziv {i : Nat} {o : Oper} {ops : Array Oper} {v : Value} {K : Act → World → Prop} {a : Act} {w : World} (ho : ops[i]? = some o) (hg : o.guard = none) (he : (execOp a.eval o).run P w = .ok (.value v) w) (h : K (a.put o.dst v) w) : wpOp P ops Q i K a w:=by
 refine zbc ho hg ?_
 unfold Oper.wp
 rw [he,Oper.upon_value]
 exact h
theorem rest_var2 {v vx : Value} {z : Operand} {dx : Tmp} (ox oa os oe : Oper) (hlen : l.length = m + 4) (hox : l.toArray[m]? = some ox) (hoa : l.toArray[m + 1]? = some oa) (hos : l.toArray[m + 2]? = some os) (hoe : l.toArray[m + 3]? = some oe) (hoa2 : oa.op = .alloc ty) (ho : os.op = .store ty (.tmp d) y) (hoe2 : oe.op = .assign z)
  (hdx : ox.dst = some dx) (hda : oa.dst = some d) (hd : os.dst = none) (hde : oe.dst = some de) (hgx : ox.guard = none) (hga : oa.guard = none) (hg : os.guard = none) (hge : oe.guard = none) (hne : dx ≠ d)
  (hr : Region.ready .any l.toArray (marked m 0 (Array.replicate l.length false)) = [m,m + 1]) (hr1 : Region.ready .any l.toArray (marked (m + 1) 0 (Array.replicate l.length false)) = [m + 1]) (hr2 : Region.ready .any l.toArray (marked (m + 2) 0 (Array.replicate l.length false)) = [m + 2]) (hr3 : Region.ready .any l.toArray (marked (m + 3) 0 (Array.replicate l.length false)) = [m + 3]) (hr4 : Region.ready .any l.toArray (marked (m + 4) 0 (Array.replicate l.length false)) = [])
  (hrb : Region.ready .any l.toArray ((marked m 0 (Array.replicate l.length false)).setIfInBounds (m + 1) true) = [m,m + 2])
  (hrc : Region.ready .any l.toArray (((marked m 0 (Array.replicate l.length false)).setIfInBounds (m + 1) true).setIfInBounds (m + 2) true) = [m])
  (hmk : (marked m 0 (Array.replicate l.length false)).setIfInBounds m true = marked (m + 1) 0 (Array.replicate l.length false))
  (hmk1 : (marked (m + 1) 0 (Array.replicate l.length false)).setIfInBounds (m + 1) true = marked (m + 2) 0 (Array.replicate l.length false))
  (hmkb : ((marked m 0 (Array.replicate l.length false)).setIfInBounds (m + 1) true).setIfInBounds m true = marked (m + 2) 0 (Array.replicate l.length false))
  (hmk2 : (marked (m + 2) 0 (Array.replicate l.length false)).setIfInBounds (m + 2) true = marked (m + 3) 0 (Array.replicate l.length false))
  (hmkc : (((marked m 0 (Array.replicate l.length false)).setIfInBounds (m + 1) true).setIfInBounds (m + 2) true).setIfInBounds m true = marked (m + 3) 0 (Array.replicate l.length false))
  (hmk3 : (marked (m + 3) 0 (Array.replicate l.length false)).setIfInBounds (m + 3) true = marked (m + 4) 0 (Array.replicate l.length false))
  (hz : ∀ W,(Instr.alloc ty true (.tuple #[])).run P W = .ok (ptrTo W.heap.size) (W.alloc (.cells zs t)))
  (hxv : ∀ W,(execOp a.eval ox).run P W = .ok (.value vx) W) (hxv2 : ∀ g W,(execOp (a.put (some d) (ptrTo g)).eval ox).run P W = .ok (.value vx) W)
  (hx : ∀ g,(a.put (some d) (ptrTo g)).eval (.tmp d) = ptrTo g) (hx2 : ∀ g,((a.put (some dx) vx).put (some d) (ptrTo g)).eval (.tmp d) = ptrTo g)
  (hy : ∀ g,(a.put (some d) (ptrTo g)).eval y = .agg cells) (hy2 : ∀ g,((a.put (some dx) vx).put (some d) (ptrTo g)).eval y = .agg cells) (hze : ∀ g,((a.put (some dx) vx).put (some d) (ptrTo g)).eval z = v)
  (hi : (P.info? ty).map (·.size) = some cells.size) (hold : zs.size = cells.size) (h1 : cells.all (·.oneCell') = true)
  (h : ∀ g W,w.heap.size ≤ g → W.heap[g]? = some (.cells cells t (0,0)) → Ext w W → Q .normal (((a.put (some dx) vx).put (some d) (ptrTo g)).put (some de) v) W) : Rest P l Q m (m + 2) a w:=by
 have comm : ∀ g,(a.put (some d) (ptrTo g)).put (some dx) vx = (a.put (some dx) vx).put (some d) (ptrTo g):=fun g => (Act.put_comm a vx (ptrTo g) (by simpa using hne.symm)).symm
 -- the assign,at last
 have fin : ∀ (f : Nat) (g : Nat) (W : World),w.heap.size ≤ g → W.heap[g]? = some (.cells cells t (0,0)) → Ext w W → wpG P .any l.toArray Q (m + 2) (f + 1) (marked (m + 3) 0 (Array.replicate l.length false)) ((a.put (some dx) vx).put (some d) (ptrTo g)) W:=fun f g W hg' hb hE => by
  refine ⟨fun h0 => (by rw [hr3] at h0; cases h0),fun j hj W3 hW3 => ?_⟩
  rw [hr3] at hj
  obtain rfl : j = m + 3:=by simpa using hj
  refine ziv (v:=v) hoe hge (by unfold execOp; simp only [hoe2,hze,Sem.run_pure]) ⟨fun h0 => by omega,?_⟩
  rw [hmk3,hde]
  cases f with
  | zero => exact ⟨hr4,fun W4 hW4 => h g W4 hg' ((hW3.trans hW4).block hb) (hE.trans (hW3.trans hW4))⟩
  | succ f => exact ⟨fun _ W4 hW4 => h g W4 hg' ((hW3.trans hW4).block hb) (hE.trans (hW3.trans hW4)),fun j hj => by rw [hr4] at hj; cases hj⟩
 unfold Rest
 rw [show l.length - m = 0 + 1 + 1 + 1 + 1 by omega]
 refine ⟨fun h0 => (by rw [hr] at h0; cases h0),fun i hi' W hW => ?_⟩
 rw [hr] at hi'
 obtain rfl | rfl : i = m ∨ i = m + 1:=by simpa using hi'
 ·
  -- the result first
  refine ziv hox hgx (hxv W) ⟨fun _ => Ext.refl _,?_⟩
  rw [hmk,hdx]
  refine ⟨fun h0 => (by rw [hr1] at h0; cases h0),fun j hj W1 hW1 => ?_⟩
  rw [hr1] at hj
  obtain rfl : j = i + 1:=by simpa using hj
  refine zbc hoa hga (zcc hoa2 hz ⟨fun _ => Ext.alloc _ _,?_⟩)
  rw [hmk1,hda]
  refine ⟨fun h0 => (by rw [hr2] at h0; cases h0),fun j hj W2 hW2 => ?_⟩
  rw [hr2] at hj
  obtain rfl : j = i + 2:=by simpa using hj
  refine zbc hos hg (wp_store_row ty _ y ho W1.heap.size cells (hx2 _) (hy2 _) t zs (hW2.block (zac _ _)) hi hold h1 ⟨fun h0 => absurd h0 (Nat.lt_irrefl _),?_⟩)
  rw [hmk2,hd]
  exact fin _ _ _ (Nat.le_trans (Below.size hW) (Below.size hW1)) (setRow_heap W2 _ zs cells t (0,0) (hW2.block (zac _ _))) (zan ((hW.trans hW1).trans ((Ext.alloc _ _).trans hW2)) (Nat.le_trans (Below.size hW) (Below.size hW1)) cells)
 ·
  -- the variable first
  refine zbc hoa hga (zcc hoa2 hz ⟨fun _ => Ext.alloc _ _,?_⟩)
  rw [hda]
  refine ⟨fun h0 => (by rw [hrb] at h0; cases h0),fun j hj W1 hW1 => ?_⟩
  rw [hrb] at hj
  obtain rfl | rfl : j = m ∨ j = m + 2:=by simpa using hj
  ·
   refine ziv hox hgx (hxv2 _ W1) ⟨fun _ => Ext.refl _,?_⟩
   rw [hmkb,hdx,comm]
   refine ⟨fun h0 => (by rw [hr2] at h0; cases h0),fun k hk W2 hW2 => ?_⟩
   rw [hr2] at hk
   obtain rfl : k = j + 2:=by simpa using hk
   refine zbc hos hg (wp_store_row ty _ y ho W.heap.size cells (hx2 _) (hy2 _) t zs ((hW1.trans hW2).block (zac _ _)) hi hold h1 ⟨fun h0 => absurd h0 (Nat.lt_irrefl _),?_⟩)
   rw [hmk2,hd]
   exact fin _ _ _ (Below.size hW) (setRow_heap W2 _ zs cells t (0,0) ((hW1.trans hW2).block (zac _ _))) (zan (hW.trans ((Ext.alloc _ _).trans (hW1.trans hW2))) (Below.size hW) cells)
  ·
   refine zbc hos hg (wp_store_row ty _ y ho W.heap.size cells (hx _) (hy _) t zs (hW1.block (zac _ _)) hi hold h1 ⟨fun h0 => absurd h0 (Nat.lt_irrefl _),?_⟩)
   rw [hd]
   have hb2:=setRow_heap W1 W.heap.size zs cells t (0,0) (hW1.block (zac _ _))
   have hE2 : Ext w (W1.setRow W.heap.size cells):=zan (hW.trans ((Ext.alloc _ _).trans hW1)) (Below.size hW) cells
   refine ⟨fun h0 => (by rw [hrc] at h0; cases h0),fun k hk W2 hW2 => ?_⟩
   rw [hrc] at hk
   obtain rfl : k = m:=by simpa using hk
   refine ziv hox hgx (hxv2 _ W2) ⟨fun _ => Ext.refl _,?_⟩
   rw [hmkc,hdx]
   show wpG P .any l.toArray Q (k + 2) (0 + 1) _ ((a.put (some d) (ptrTo W.heap.size)).put (some dx) vx) W2
   rw [comm]
   exact fin _ _ _ (Below.size hW) (hW2.block hb2) (hE2.trans hW2)
end
end Go.Proofs.YtihophdbkjhopaaGreatDoor
namespace Go.Proofs.YtihophdbkjhopaaGreatDoor
def rot (x n : Nat) : Nat:=x / 2 ^ n + 2 ^ (32 - n) * (x % 2 ^ n)
theorem rot_zero {x : Nat} : rot x 0 = x:=by unfold rot; rw [Nat.pow_zero,Nat.div_one,Nat.mod_one,Nat.mul_zero,Nat.add_zero]
theorem rot_step {x n : Nat} (hn : n < 32) : rot x n / 2 + 2147483648 * (rot x n % 2) = rot x (n + 1):=by
 obtain ⟨m,hm⟩ : ∃ m,32 - n = m + 1:=⟨31 - n,by omega⟩
 have hm2 : 32 - (n + 1) = m:=by omega
 have h31 : 2 ^ m * 2 ^ n = 2147483648:=by rw [← Nat.pow_add,show m + n = 31 by omega]
 unfold rot
 rw [hm,hm2,Nat.pow_succ 2 m,Nat.pow_succ 2 n,← Nat.div_div_eq_div_mul,Nat.mod_mul,Nat.mul_add,← Nat.mul_assoc (2 ^ m),h31,Nat.mul_comm (2 ^ m) 2,Nat.mul_assoc]
 generalize x / 2 ^ n = q
 generalize 2 ^ m * (x % 2 ^ n) = p
 omega
theorem zbg {x n : Nat} (hn : n ≤ 32) (hx : x < 2 ^ 32) : rot x n < 2 ^ 32:=by
 have hp : 0 < 2 ^ n:=Nat.pow_pos (by omega)
 have e : 2 ^ 32 = 2 ^ (32 - n) * 2 ^ n:=by rw [← Nat.pow_add]; congr 1; omega
 have hq : x / 2 ^ n < 2 ^ (32 - n):=by rw [Nat.div_lt_iff_lt_mul hp,← e]; exact hx
 have hr:=Nat.mod_lt x hp
 unfold rot
 rw [e]
 have : 2 ^ (32 - n) * (x % 2 ^ n + 1) ≤ 2 ^ (32 - n) * 2 ^ n:=Nat.mul_le_mul_left _ hr
 rw [Nat.mul_add] at this
 omega
end Go.Proofs.YtihophdbkjhopaaGreatDoor
namespace Go.Proofs.YtihophdbkjhopaaGreatDoor
def kList : List Nat:=[1116352408,1899447441,3049323471,3921009573,961987163,1508970993,2453635748,2870763221,3624381080,310598401,607225278,1426881987,1925078388,2162078206,2614888103,3248222580,3835390401,4022224774,264347078,604807628,770255983,1249150122,1555081692,1996064986,2554220882,2821834349,2952996808,3210313671,3336571891,3584528711,113926993,338241895,666307205,773529912,1294757372,1396182291,1695183700,1986661051,2177026350,2456956037,2730485921,2820302411,3259730800,3345764771,3516065817,3600352804,4094571909,275423344,430227734,506948616,659060556,883997877,958139571,1322822218,1537002063,1747873779,1955562222,2024104815,2227730452,2361852424,2428436474,2756734187,3204031479,3329325298]
def kc (t : Nat) : Nat:=kList.getD t 0
def ad (x y : Nat) : Nat:=(x + y) % 4294967296
def sg0 (x : Nat) : Nat:=rot x 7 ^^^ rot x 18 ^^^ (x / 2 ^ 3)
def sg1 (x : Nat) : Nat:=rot x 17 ^^^ rot x 19 ^^^ (x / 2 ^ 10)
def bs0 (x : Nat) : Nat:=rot x 2 ^^^ rot x 13 ^^^ rot x 22
def bs1 (x : Nat) : Nat:=rot x 6 ^^^ rot x 11 ^^^ rot x 25
def chN (x y z : Nat) : Nat:=(x &&& y) ^^^ ((4294967295 - x) &&& z)
def majN (x y z : Nat) : Nat:=(x &&& y) ^^^ (x &&& z) ^^^ (y &&& z)
theorem getD_lo (l r : List Nat) {t : Nat} (h : t < l.length) : (l ++ r).getD t 0 = l.getD t 0:=by simp [List.getD,List.getElem?_append_left h]
theorem getD_at (l : List Nat) (x : Nat) {t : Nat} (h : l.length = t) : (l ++ [x]).getD t 0 = x:=by subst h; simp [List.getD]
def sched (m : Nat → Nat) : Nat → List Nat
 | 0 => []
 | t + 1 => let l:=sched m t
  l ++ [if t < 16 then m t else ad (ad (ad (sg1 (l.getD (t - 2) 0)) (l.getD (t - 7) 0)) (sg0 (l.getD (t - 15) 0))) (l.getD (t - 16) 0)]
theorem zhd (m : Nat → Nat) : ∀ t,(sched m t).length = t
 | 0 => rfl
 | t + 1 => by simp [sched,zhd m t]
def wt (m : Nat → Nat) (t : Nat) : Nat:=(sched m (t + 1)).getD t 0
theorem zen (m : Nat → Nat) (t : Nat) : ∀ n,t < n → (sched m n).getD t 0 = wt m t
 | 0,h => by omega
 | n + 1,h => by
  by_cases e : t = n
  ·
   subst e; rfl
  ·
   have ih:=zen m t n (by omega)
   rw [← ih]
   show (sched m n ++ _).getD t 0 = _
   rw [getD_lo _ _ (by rw [zhd]; omega)]
theorem wt_lo (m : Nat → Nat) {t : Nat} (h : t < 16) : wt m t = m t:=by
 unfold wt
 show (sched m t ++ _).getD t 0 = _
 rw [getD_at _ _ (zhd m t),if_pos h]
theorem wt_hi (m : Nat → Nat) {t : Nat} (h : ¬ t < 16) : wt m t = ad (ad (ad (sg1 (wt m (t - 2))) (wt m (t - 7))) (sg0 (wt m (t - 15)))) (wt m (t - 16)):=by
 conv => lhs; unfold wt
 show (sched m t ++ _).getD t 0 = _
 rw [getD_at _ _ (zhd m t),if_neg h,zen m _ t (by omega),zen m _ t (by omega),zen m _ t (by omega),zen m _ t (by omega)]
structure St where
 a : Nat
 b : Nat
 c : Nat
 d : Nat
 e : Nat
 f : Nat
 g : Nat
 h : Nat
def t1N (s : St) (k w : Nat) : Nat:=ad (ad (ad (ad s.h (bs1 s.e)) (chN s.e s.f s.g)) k) w
def t2N (s : St) : Nat:=ad (bs0 s.a) (majN s.a s.b s.c)
def stepN (s : St) (k w : Nat) : St:=⟨ad (t1N s k w) (t2N s),s.a,s.b,s.c,ad s.d (t1N s k w),s.e,s.f,s.g⟩
def roundsN (m : Nat → Nat) (s : St) : Nat → St
 | 0 => s
 | t + 1 => stepN (roundsN m s t) (kc t) (wt m t)
def addSt (x y : St) : St:=⟨ad x.a y.a,ad x.b y.b,ad x.c y.c,ad x.d y.d,ad x.e y.e,ad x.f y.f,ad x.g y.g,ad x.h y.h⟩
def blockN (m : Nat → Nat) (s : St) : St:=addSt s (roundsN m s 64)
def word (text : Nat → Nat) (i : Nat) : Nat:=text i * 16777216 + text (i + 1) * 65536 + text (i + 2) * 256 + text (i + 3)
def blocksN (text : Nat → Nat) : Nat → St
 | 0 => ⟨1779033703,3144134277,1013904242,2773480762,1359893119,2600822924,528734635,1541459225⟩
 | n + 1 => blockN (fun t => word text (64 * n + 4 * t)) (blocksN text n)
def nBlocks (len : Nat) : Nat:=(len + 9 + 63) / 64
def padded (b : Nat → Nat) (len : Nat) : Nat → Nat:=fun i =>
 if i < len then b i else if i = len then 128 else if i < 64 * nBlocks len - 8 then 0 else 8 * len / 256 ^ (64 * nBlocks len - 1 - i) % 256
def shaSt (b : Nat → Nat) (len : Nat) : St:=blocksN (padded b len) (nBlocks len)
end Go.Proofs.YtihophdbkjhopaaGreatDoor
namespace Go.Proofs.YtihophdbkjhopaaGreatDoor
theorem wrap32 (n : Int) : IntKind.u32.wrap n = n % 4294967296:=by simp [IntKind.wrap,IntKind.signed,IntKind.bits]
section
variable (a b : Nat) (ha : a < 4294967296) (hb : b < 4294967296)
include ha hb
theorem ofInt32 : (BitVec.ofInt 32 (a : Int)).toNat = a ∧ (BitVec.ofInt 32 (b : Int)).toNat = b:=by
 constructor <;> (rw [BitVec.ofInt_natCast,BitVec.toNat_ofNat]; exact Nat.mod_eq_of_lt (by omega))
theorem and32 : bits .and .u32 (a : Int) (b : Int) = ((a &&& b : Nat) : Int):=by
 have hx : a &&& b < 2 ^ 32:=Nat.and_lt_two_pow _ (by omega)
 show IntKind.u32.wrap ((BitVec.ofInt 32 (a : Int) &&& BitVec.ofInt 32 (b : Int)).toNat : Int) = _
 rw [BitVec.toNat_and,(ofInt32 a b ha hb).1,(ofInt32 a b ha hb).2,wrap32]
 omega
theorem or32 : bits .or .u32 (a : Int) (b : Int) = ((a ||| b : Nat) : Int):=by
 have hx : a ||| b < 2 ^ 32:=Nat.or_lt_two_pow (by omega) (by omega)
 show IntKind.u32.wrap ((BitVec.ofInt 32 (a : Int) ||| BitVec.ofInt 32 (b : Int)).toNat : Int) = _
 rw [BitVec.toNat_or,(ofInt32 a b ha hb).1,(ofInt32 a b ha hb).2,wrap32]
 omega
theorem xor32 : bits .xor .u32 (a : Int) (b : Int) = ((a ^^^ b : Nat) : Int):=by
 have hx : a ^^^ b < 2 ^ 32:=Nat.xor_lt_two_pow (by omega) (by omega)
 show IntKind.u32.wrap ((BitVec.ofInt 32 (a : Int) ^^^ BitVec.ofInt 32 (b : Int)).toNat : Int) = _
 rw [BitVec.toNat_xor,(ofInt32 a b ha hb).1,(ofInt32 a b ha hb).2,wrap32]
 omega
end
theorem not_bit {x : Nat} (hx : x < 2 ^ 32) (i : Nat) : (4294967295 - x).testBit i = (decide (i < 32) && !x.testBit i):=by
 have h:=Nat.testBit_two_pow_sub_succ hx i
 rwa [show 2 ^ 32 - (x + 1) = 4294967295 - x by omega] at h
theorem ch_or {x y z : Nat} (hx : x < 2 ^ 32) : chN x y z = (x &&& y) ||| ((4294967295 - x) &&& z):=by
 unfold chN
 apply Nat.eq_of_testBit_eq
 intro i
 simp only [Nat.testBit_xor,Nat.testBit_or,Nat.testBit_and,not_bit hx]
 cases x.testBit i <;> simp
theorem maj_or (x y z : Nat) : majN x y z = (x &&& y) ||| (x &&& z) ||| (y &&& z):=by
 unfold majN
 apply Nat.eq_of_testBit_eq
 intro i
 simp only [Nat.testBit_xor,Nat.testBit_or,Nat.testBit_and]
 cases x.testBit i <;> cases y.testBit i <;> cases z.testBit i <;> rfl
theorem rot_or {x n : Nat} (hn : n ≤ 32) (hx : x < 2 ^ 32) : rot x n = (x / 2 ^ n) ||| (x * 2 ^ (32 - n) % 2 ^ 32):=by
 have hp : 0 < 2 ^ n:=Nat.pow_pos (by omega)
 have e : 2 ^ 32 = 2 ^ (32 - n) * 2 ^ n:=by rw [← Nat.pow_add]; congr 1; omega
 have hq : x / 2 ^ n < 2 ^ (32 - n):=by rw [Nat.div_lt_iff_lt_mul hp,← e]; exact hx
 have h1 : x * 2 ^ (32 - n) % 2 ^ 32 = 2 ^ (32 - n) * (x % 2 ^ n):=by rw [e,Nat.mul_comm x,Nat.mul_mod_mul_left]
 rw [h1,Nat.or_comm,← Nat.two_pow_add_eq_or_of_lt hq]
 unfold rot
 omega
/-! ### all is below 2^32 -/
theorem ad_lt (x y : Nat) : ad x y < 2 ^ 32:=Nat.mod_lt _ (by decide)
theorem shr_lt {x : Nat} (n : Nat) (hx : x < 2 ^ 32) : x / 2 ^ n < 2 ^ 32:=Nat.lt_of_le_of_lt (Nat.div_le_self _ _) hx
theorem wt_lt {m : Nat → Nat} (hm : ∀ t,t < 16 → m t < 2 ^ 32) (t : Nat) : wt m t < 2 ^ 32:=by
 by_cases h : t < 16
 ·
  rw [wt_lo m h]; exact hm t h
 ·
  rw [wt_hi m h]; exact ad_lt _ _
structure St.Ok (s : St) : Prop where
 a : s.a < 2 ^ 32
 b : s.b < 2 ^ 32
 c : s.c < 2 ^ 32
 d : s.d < 2 ^ 32
 e : s.e < 2 ^ 32
 f : s.f < 2 ^ 32
 g : s.g < 2 ^ 32
 h : s.h < 2 ^ 32
theorem stepN_ok {s : St} (h : s.Ok) (k w : Nat) : (stepN s k w).Ok:=⟨ad_lt _ _,h.a,h.b,h.c,ad_lt _ _,h.e,h.f,h.g⟩
theorem zia {m : Nat → Nat} {s : St} (h : s.Ok) : ∀ t,(roundsN m s t).Ok
 | 0 => h
 | t + 1 => stepN_ok (zia h t) _ _
theorem blockN_ok (m : Nat → Nat) (s : St) : (blockN m s).Ok:=⟨ad_lt _ _,ad_lt _ _,ad_lt _ _,ad_lt _ _,ad_lt _ _,ad_lt _ _,ad_lt _ _,ad_lt _ _⟩
theorem zis (text : Nat → Nat) : ∀ n,(blocksN text n).Ok
 | 0 => by constructor <;> (show _ < _; simp [blocksN])
 | n + 1 => blockN_ok _ _
theorem zhw {f g : Nat → Nat} : ∀ n,(∀ i,i < 64 * n → f i = g i) → blocksN f n = blocksN g n
 | 0,_ => rfl
 | n + 1,h => by
  have ih:=zhw n fun i hi => h i (by omega)
  have hw : ∀ t,t < 16 → word f (64 * n + 4 * t) = word g (64 * n + 4 * t):=by
   intro t ht
   unfold word
   rw [h _ (by omega),h _ (by omega),h _ (by omega),h _ (by omega)]
  have hs : ∀ k,sched (fun t => word f (64 * n + 4 * t)) k = sched (fun t => word g (64 * n + 4 * t)) k:=by
   intro k
   induction k with
   | zero => simp only [sched]
   | succ k ihk =>
    simp only [sched]
    rw [ihk]
    by_cases hk : k < 16
    ·
     simp only [if_pos hk]; rw [hw k hk]
    ·
     simp only [if_neg hk]
  have hr : ∀ s k,roundsN (fun t => word f (64 * n + 4 * t)) s k = roundsN (fun t => word g (64 * n + 4 * t)) s k:=by
   intro s k
   induction k with
   | zero => simp only [roundsN]
   | succ k ihk =>
    simp only [roundsN]
    rw [ihk]; unfold wt; rw [hs]
  simp only [blocksN]
  rw [ih]; unfold blockN; rw [hr]
end Go.Proofs.YtihophdbkjhopaaGreatDoor
namespace Go.Proofs.YtihophdbkjhopaaGreatDoor
open Go.RowKit
open Go.Value renaming int → vI
open Go.IntKind renaming u64 → vU
open Go.Act renaming put → aP
open List renaming setIfInBounds_toArray → lA, set_cons_zero → lZ, set_cons_succ → lS
def St.at (s : St) (j : Nat) : Nat:=match j with | 0 => s.a | 1 => s.b | 2 => s.c | 3 => s.d | 4 => s.e | 5 => s.f | 6 => s.g | _ => s.h
theorem St.at_lt {s : St} (h : s.Ok) (j : Nat) : s.at j < 2 ^ 32:=by
 unfold St.at
 split
 ·
  exact h.a
 ·
  exact h.b
 ·
  exact h.c
 ·
  exact h.d
 ·
  exact h.e
 ·
  exact h.f
 ·
  exact h.g
 ·
  exact h.h
def hcells (s : St) (blk : Nat → Nat) (len : Nat) : Nat → Value:=fun j => if j < 8 then .int .u32 (s.at j : Nat) else if j < 72 then .int .u8 (blk (j - 8) : Nat) else .int .i64 (len : Int)
def HRow (w : World) (g : Nat) (s : St) (blk : Nat → Nat) (len : Nat) : Prop:=w.rowIs g 160 73 (hcells s blk len)
section
variable {w w' : World} {g B len : Nat} {s : St} {blk : Nat → Nat}
theorem HRow.lt (h : HRow w g s blk len) : g < w.heap.size:=World.rowIs.lt h
theorem HRow.below (h : HRow w g s blk len) (hb : Below B w w') (hlt : g < B) : HRow w' g s blk len:=zae h hb hlt
theorem HRow.call (h : HRow w g s blk len) (hb : Below w.heap.size w w') : HRow w' g s blk len:=zae h hb h.lt
theorem HRow.alloc (h : HRow w g s blk len) (o : Obj) : HRow (w.alloc o) g s blk len:=World.rowIs.alloc h o
theorem HRow.drew (h : HRow w g s blk len) : HRow w.drew g s blk len:=h
theorem HRow.drewN (h : HRow w g s blk len) (k : Nat) : HRow (w.drewN k) g s blk len:=h
theorem HRow.of_block (h : HRow w g s blk len) (e : w'.heap[g]? = w.heap[g]?) : HRow w' g s blk len:=World.rowIs.of_block h e
theorem HRow.state (h : HRow w g s blk len) {j : Nat} (hj : j < 8) : w.cell? ⟨g,j,none⟩ = some (.int .u32 (s.at j : Nat)):=by
 rw [World.rowIs.cell h (show j < 73 by omega),hcells,if_pos hj]
theorem HRow.byte (h : HRow w g s blk len) {j : Nat} (hj : j < 64) : w.cell? ⟨g,8 + j,none⟩ = some (.int .u8 (blk j : Nat)):=by
 rw [World.rowIs.cell h (show 8 + j < 73 by omega),hcells,if_neg (by omega),if_pos (by omega),show 8 + j - 8 = j by omega]
theorem HRow.length (h : HRow w g s blk len) : w.cell? ⟨g,72,none⟩ = some (.int .i64 (len : Int)):=by
 rw [World.rowIs.cell h (show 72 < 73 by omega),hcells,if_neg (by omega),if_neg (by omega)]
theorem HRow.block (h : HRow w g s blk len) : w.rangeAt g 8 ((List.range 64).map fun j => Value.int .u8 (blk j : Nat)):=by
 intro j v hv
 have hj : j < 64:=by simpa using (List.getElem?_eq_some_iff.1 hv).1
 rw [h.byte hj,← hv]
 simp [hj]
theorem HRow.words (h : HRow w g s blk len) : w.rangeAt g 0 ((List.range 8).map fun j => Value.int .u32 (s.at j : Nat)):=by
 intro j v hv
 have hj : j < 8:=by simpa using (List.getElem?_eq_some_iff.1 hv).1
 rw [Nat.zero_add,h.state hj,← hv]
 simp [hj]
end
structure KT (w : World) : Prop where
 lt : 0 < w.heap.size
 cell : ∀ j,j < 64 → w.cell? ⟨0,j,none⟩ = some (.int .u32 (kc j : Nat))
section
variable {w w' : World} {B : Nat}
theorem KT.of_block (h : KT w) (e : w'.heap[0]? = w.heap[0]?) (hs : w.heap.size ≤ w'.heap.size) : KT w' :=
 ⟨Nat.lt_of_lt_of_le h.lt hs,fun j hj => (World.cell?_of_block (w:=w) (a:=⟨0,j,none⟩) e).trans (h.cell j hj)⟩
theorem KT.below (h : KT w) (hb : Below B w w') (hB : 0 < B) : KT w':=h.of_block (hb.block 0 hB) hb.size
theorem KT.call (h : KT w) (hb : Below w.heap.size w w') : KT w':=h.below hb h.lt
theorem KT.alloc (h : KT w) (o : Obj) : KT (w.alloc o):=h.of_block (Below.heap_alloc _ _ _ h.lt) (by simp)
theorem KT.drew (h : KT w) : KT w.drew:=⟨h.lt,h.cell⟩
theorem KT.drewN (h : KT w) (k : Nat) : KT (w.drewN k):=⟨h.lt,h.cell⟩
theorem KT.far {b i : Nat} (h : KT w) (hne : 0 ≠ b) (v : Value) : KT (w.setCell ⟨b,i,none⟩ v):=h.of_block (Below.heap_setCell _ _ _ _ hne) (by simp [World.setCell])
theorem KT.grown {r : Nat} (h : KT w) (hg : w.grownBy w' (some r)) (hne : 0 ≠ r) : KT w':=h.of_block (hg.block 0 h.lt (by simpa using hne)) hg.size
end
theorem veil32 {p : Prop} (h : p) : Hid p:=h
theorem zdy (x n : Nat) (hx : x < 2 ^ 32) (hn : n ≤ 32) (w : World) :
  Calls Tryz.prog 70 #[.int .u32 (x : Int),.int .i64 (n : Int)] w fun e w' => e = .returned (.int .u32 (rot x n : Nat)) ∧ w' = w:=by
 have HX:=veil32 hx
 clear hx
 have hni : (n : Int) ≤ 32:=by omega
 go_enter Tryz.func70,Tryz.ntmps70
 go_wp2
 go_loopw [0,5] (fun y i wr => ∃ k : Nat,k ≤ n ∧ i = .int .i64 (k : Int) ∧ y = .int .u32 (rot x k : Nat) ∧ wr = w)
  (fun _ i _ => n - (intOf i).toNat)
 case atStart => exact ⟨0,by omega,rfl,by rw [rot_zero],rfl⟩
 case round =>
  obtain ⟨k,hk,rfl,rfl,rfl⟩:=hrel
  by_cases hlt : k < n
  ·
   have hlti : (k : Int) < (n : Int):=by omega
   have hs:=rot_step (x:=x) (n:=k) (by omega)
   have hl:=zbg (x:=x) (n:=k) (by omega) HX.out
   have hl2:=zbg (x:=x) (n:=k + 1) (by omega) HX.out
   obtain ⟨y,hy⟩ : ∃ y : Int,y = ((rot x k : Nat) : Int):=⟨_,rfl⟩
   obtain ⟨z,hz⟩ : ∃ z : Int,z = ((rot x (k + 1) : Nat) : Int):=⟨_,rfl⟩
   have e : y / 2 + 2147483648 * (y % 2) = z:=by omega
   have y0 : 0 ≤ y:=by omega
   have y1 : y ≤ 4294967295:=by omega
   have z1 : z ≤ 4294967295:=by omega
   rw [← hy]
   have HZ:=veil32 hz
   clear hs hl hl2 hy hz
   have hd : y % 2 = 1 ∨ y % 2 = 0:=by omega
   rcases hd with h | h
   ·
    rw [h] at e
    have e2 : y / 2 + 2147483648 = z:=by omega
    clear e
    go_wp2
    go_roundw
    case rel => exact ⟨k + 1,by omega,by go_num,by rw [← HZ.out],trivial⟩
    case measure => simp [intOf]; omega
   ·
    rw [h] at e
    have e2 : y / 2 = z:=by omega
    clear e
    go_wp2
    go_roundw
    case rel => exact ⟨k + 1,by omega,by go_num,by rw [← HZ.out,e2],trivial⟩
    case measure => simp [intOf]; omega
  ·
   obtain rfl : k = n:=by omega
   go_wp2
   go_ret
   exact ⟨rfl,rfl⟩
theorem shift_calls (x n : Nat) (hx : x < 2 ^ 32) (hn : n ≤ 32) (w : World) :
  Calls Tryz.prog 71 #[.int .u32 (x : Int),.int .i64 (n : Int)] w fun e w' => e = .returned (.int .u32 (x / 2 ^ n : Nat)) ∧ w' = w:=by
 have HX:=veil32 hx
 clear hx
 have hni : (n : Int) ≤ 32:=by omega
 go_enter Tryz.func71,Tryz.ntmps71
 go_wp2
 go_loopw [0,5] (fun y i wr => ∃ k : Nat,k ≤ n ∧ i = .int .i64 (k : Int) ∧ y = .int .u32 (x / 2 ^ k : Nat) ∧ wr = w)
  (fun _ i _ => n - (intOf i).toNat)
 case atStart => exact ⟨0,by omega,rfl,by rw [Nat.pow_zero,Nat.div_one],rfl⟩
 case round =>
  obtain ⟨k,hk,rfl,rfl,rfl⟩:=hrel
  by_cases hlt : k < n
  ·
   have hlti : (k : Int) < (n : Int):=by omega
   have hs : x / 2 ^ (k + 1) = x / 2 ^ k / 2:=by rw [Nat.pow_succ,Nat.div_div_eq_div_mul]
   have hl : x / 2 ^ k < 2 ^ 32:=Nat.lt_of_le_of_lt (Nat.div_le_self _ _) HX.out
   obtain ⟨y,hy⟩ : ∃ y : Int,y = ((x / 2 ^ k : Nat) : Int):=⟨_,rfl⟩
   obtain ⟨z,hz⟩ : ∃ z : Int,z = ((x / 2 ^ (k + 1) : Nat) : Int):=⟨_,rfl⟩
   have HZ:=veil32 hz
   rw [hs] at hz
   rw [← hy]
   generalize x / 2 ^ k = q at *
   have e2 : y / 2 = z:=by omega
   have y0 : 0 ≤ y:=by omega
   have y1 : y ≤ 4294967295:=by omega
   clear hs hl hy hz
   go_wp2
   go_roundw
   case rel => exact ⟨k + 1,by omega,by go_num,by rw [← HZ.out,e2],trivial⟩
   case measure => simp [intOf]; omega
  ·
   obtain rfl : k = n:=by omega
   go_wp2
   go_ret
   exact ⟨rfl,rfl⟩
theorem neg_and : ∀ n : Fin 32,n.1 ≠ 0 → bits .and .u64 (IntKind.u64.wrap (-(n.1 : Int))) 31 = 32 - (n.1 : Int):=by decide
theorem rot_bits {x n : Nat} (hx : x < 2 ^ 32) (hn : n < 32) : bits .or .u32 ((x : Int) * 2 ^ (32 - n) % 4294967296) ((x : Int) / 2 ^ (32 - (32 - n))) = ((rot x n : Nat) : Int):=by
 have e : 32 - (32 - n) = n:=by omega
 have e1 : (x : Int) * 2 ^ (32 - n) % 4294967296 = ((x * 2 ^ (32 - n) % 2 ^ 32 : Nat) : Int):=by
  rw [Int.natCast_emod,Int.natCast_mul,Int.natCast_pow]; rfl
 have e2 : (x : Int) / 2 ^ n = ((x / 2 ^ n : Nat) : Int):=by
  rw [Int.natCast_ediv,Int.natCast_pow]; rfl
 rw [e,e1,e2,or32 _ _ (Nat.mod_lt _ (by decide)) (shr_lt n hx),rot_or (by omega) hx,Nat.or_comm]
theorem ret_u32 {a : Int} {b : Nat} (h : a = (b : Int)) : Ending.returned (.int .u32 a) = .returned (.int .u32 (b : Nat)):=by rw [h]
theorem rotl_calls (x n : Nat) (hx : x < 2 ^ 32) (h0 : n ≠ 0) (hn : n < 32) (w : World) :
  Calls Tryz.prog 171 #[.int .u32 (x : Int),.int .i64 (-(n : Int))] w fun e w' => e = .returned (.int .u32 (rot x n : Nat)) ∧ w' = w:=by
 have k1:=neg_and ⟨n,hn⟩ h0
 simp only at k1
 go_enter Tryz.func171,Tryz.ntmps171
 go_wp2
 go_ret
 exact ⟨ret_u32 (rot_bits hx hn),rfl⟩
theorem zbj (x n : Nat) (hx : x < 2 ^ 32) (h0 : n ≠ 0) (hn : n < 32) (w : World) :
  Calls Tryz.prog 164 #[.int .u32 (x : Int),.int .i64 (n : Int)] w fun e w' => e = .returned (.int .u32 (rot x n : Nat)) ∧ w' = w:=by
 go_enter Tryz.func164,Tryz.ntmps164
 go_wp2_with (go_at_call 171; refine (rotl_calls x n hx h0 hn _).mono ?_; rintro e w' ⟨rfl,rfl⟩)
 go_ret
 exact ⟨rfl,rfl⟩
theorem bigOne_calls (x : Nat) (hx : x < 2 ^ 32) (w : World) :
  Calls Tryz.prog 146 #[.int .u32 (x : Int)] w fun e w' => e = .returned (.int .u32 (bs1 x : Nat)) ∧ w' = w:=by
 have k1:=xor32 (rot x 6) (rot x 11) (zbg (by omega) hx) (zbg (by omega) hx)
 have k2:=xor32 (rot x 6 ^^^ rot x 11) (rot x 25) (Nat.xor_lt_two_pow (n:=32) (zbg (by omega) hx) (zbg (by omega) hx)) (zbg (by omega) hx)
 have H1 : Hid (∀ W,Calls Tryz.prog 164 #[.int .u32 (x : Int),.int .i64 6] W fun e w' => e = .returned (.int .u32 (rot x 6 : Nat)) ∧ w' = W):=veil32 (fun W => zbj x 6 hx (by decide) (by decide) W)
 have H2 : Hid (∀ W,Calls Tryz.prog 164 #[.int .u32 (x : Int),.int .i64 11] W fun e w' => e = .returned (.int .u32 (rot x 11 : Nat)) ∧ w' = W):=veil32 (fun W => zbj x 11 hx (by decide) (by decide) W)
 have H3 : Hid (∀ W,Calls Tryz.prog 164 #[.int .u32 (x : Int),.int .i64 25] W fun e w' => e = .returned (.int .u32 (rot x 25 : Nat)) ∧ w' = W):=veil32 (fun W => zbj x 25 hx (by decide) (by decide) W)
 go_enter Tryz.func146,Tryz.ntmps146
 go_wp2_with (go_at_call 164; (first | ((with_reducible refine (H1.out _).mono ?_); rintro e w' ⟨rfl,rfl⟩) | ((with_reducible refine (H2.out _).mono ?_); rintro e w' ⟨rfl,rfl⟩) | ((with_reducible refine (H3.out _).mono ?_); rintro e w' ⟨rfl,rfl⟩)))
 go_ret
 exact ⟨rfl,rfl⟩
theorem bigZero_calls (x : Nat) (hx : x < 2 ^ 32) (w : World) :
  Calls Tryz.prog 148 #[.int .u32 (x : Int)] w fun e w' => e = .returned (.int .u32 (bs0 x : Nat)) ∧ w' = w:=by
 have k1:=xor32 (rot x 2) (rot x 13) (zbg (by omega) hx) (zbg (by omega) hx)
 have k2:=xor32 (rot x 2 ^^^ rot x 13) (rot x 22) (Nat.xor_lt_two_pow (n:=32) (zbg (by omega) hx) (zbg (by omega) hx)) (zbg (by omega) hx)
 have H1 : Hid (∀ W,Calls Tryz.prog 164 #[.int .u32 (x : Int),.int .i64 2] W fun e w' => e = .returned (.int .u32 (rot x 2 : Nat)) ∧ w' = W):=veil32 (fun W => zbj x 2 hx (by decide) (by decide) W)
 have H2 : Hid (∀ W,Calls Tryz.prog 164 #[.int .u32 (x : Int),.int .i64 13] W fun e w' => e = .returned (.int .u32 (rot x 13 : Nat)) ∧ w' = W):=veil32 (fun W => zbj x 13 hx (by decide) (by decide) W)
 have H3 : Hid (∀ W,Calls Tryz.prog 164 #[.int .u32 (x : Int),.int .i64 22] W fun e w' => e = .returned (.int .u32 (rot x 22 : Nat)) ∧ w' = W):=veil32 (fun W => zbj x 22 hx (by decide) (by decide) W)
 go_enter Tryz.func148,Tryz.ntmps148
 go_wp2_with (go_at_call 164; (first | ((with_reducible refine (H1.out _).mono ?_); rintro e w' ⟨rfl,rfl⟩) | ((with_reducible refine (H2.out _).mono ?_); rintro e w' ⟨rfl,rfl⟩) | ((with_reducible refine (H3.out _).mono ?_); rintro e w' ⟨rfl,rfl⟩)))
 go_ret
 exact ⟨rfl,rfl⟩
theorem smallOne_calls (x : Nat) (hx : x < 2 ^ 32) (w : World) :
  Calls Tryz.prog 162 #[.int .u32 (x : Int)] w fun e w' => e = .returned (.int .u32 (sg1 x : Nat)) ∧ w' = w:=by
 obtain ⟨q,hq⟩ : ∃ q,q = x / 2 ^ 10:=⟨_,rfl⟩
 have hql : q < 2 ^ 32:=by rw [hq]; exact shr_lt 10 hx
 have k3 : (x : Int) / 1024 = (q : Int):=by rw [hq,Int.natCast_ediv]; rfl
 have HQ:=veil32 hq
 clear hq
 have k1:=xor32 (rot x 17) (rot x 19) (zbg (by omega) hx) (zbg (by omega) hx)
 have k2:=xor32 (rot x 17 ^^^ rot x 19) (q) (Nat.xor_lt_two_pow (n:=32) (zbg (by omega) hx) (zbg (by omega) hx)) (hql)
 have H1 : Hid (∀ W,Calls Tryz.prog 164 #[.int .u32 (x : Int),.int .i64 17] W fun e w' => e = .returned (.int .u32 (rot x 17 : Nat)) ∧ w' = W):=veil32 (fun W => zbj x 17 hx (by decide) (by decide) W)
 have H2 : Hid (∀ W,Calls Tryz.prog 164 #[.int .u32 (x : Int),.int .i64 19] W fun e w' => e = .returned (.int .u32 (rot x 19 : Nat)) ∧ w' = W):=veil32 (fun W => zbj x 19 hx (by decide) (by decide) W)
 go_enter Tryz.func162,Tryz.ntmps162
 go_wp2_with (go_at_call 164; (first | ((with_reducible refine (H1.out _).mono ?_); rintro e w' ⟨rfl,rfl⟩) | ((with_reducible refine (H2.out _).mono ?_); rintro e w' ⟨rfl,rfl⟩)))
 go_ret
 exact ⟨by unfold sg1; rw [← HQ.out]; rfl,rfl⟩
theorem smallZero_calls (x : Nat) (hx : x < 2 ^ 32) (w : World) :
  Calls Tryz.prog 163 #[.int .u32 (x : Int)] w fun e w' => e = .returned (.int .u32 (sg0 x : Nat)) ∧ w' = w:=by
 obtain ⟨q,hq⟩ : ∃ q,q = x / 2 ^ 3:=⟨_,rfl⟩
 have hql : q < 2 ^ 32:=by rw [hq]; exact shr_lt 3 hx
 have k3 : (x : Int) / 8 = (q : Int):=by rw [hq,Int.natCast_ediv]; rfl
 have HQ:=veil32 hq
 clear hq
 have k1:=xor32 (rot x 7) (rot x 18) (zbg (by omega) hx) (zbg (by omega) hx)
 have k2:=xor32 (rot x 7 ^^^ rot x 18) (q) (Nat.xor_lt_two_pow (n:=32) (zbg (by omega) hx) (zbg (by omega) hx)) (hql)
 have H1 : Hid (∀ W,Calls Tryz.prog 164 #[.int .u32 (x : Int),.int .i64 7] W fun e w' => e = .returned (.int .u32 (rot x 7 : Nat)) ∧ w' = W):=veil32 (fun W => zbj x 7 hx (by decide) (by decide) W)
 have H2 : Hid (∀ W,Calls Tryz.prog 164 #[.int .u32 (x : Int),.int .i64 18] W fun e w' => e = .returned (.int .u32 (rot x 18 : Nat)) ∧ w' = W):=veil32 (fun W => zbj x 18 hx (by decide) (by decide) W)
 go_enter Tryz.func163,Tryz.ntmps163
 go_wp2_with (go_at_call 164; (first | ((with_reducible refine (H1.out _).mono ?_); rintro e w' ⟨rfl,rfl⟩) | ((with_reducible refine (H2.out _).mono ?_); rintro e w' ⟨rfl,rfl⟩)))
 go_ret
 exact ⟨by unfold sg0; rw [← HQ.out]; rfl,rfl⟩
theorem xor_all {x : Nat} (hx : x < 2 ^ 32) : bits .xor .u32 IntKind.u32.max (x : Int) = ((4294967295 - x : Nat) : Int):=by
 have h:=xor32 4294967295 x (by decide) hx
 have e : 4294967295 ^^^ x = 4294967295 - x:=by
  apply Nat.eq_of_testBit_eq
  intro i
  rw [Nat.testBit_xor,not_bit hx,show (4294967295 : Nat) = 2 ^ 32 - 1 from rfl,Nat.testBit_two_pow_sub_one]
  by_cases h : i < 32
  ·
   simp [h]
  ·
   have h32 : 2 ^ 32 ≤ 2 ^ i:=Nat.pow_le_pow_right (by omega) (by omega)
   rw [Nat.testBit_lt_two_pow (Nat.lt_of_lt_of_le hx h32)]
   simp [h]
 rw [e] at h
 exact h
theorem choice_calls (x y z : Nat) (hx : x < 2 ^ 32) (hy : y < 2 ^ 32) (hz : z < 2 ^ 32) (w : World) :
  Calls Tryz.prog 147 #[.int .u32 (x : Int),.int .u32 (y : Int),.int .u32 (z : Int)] w fun e w' => e = .returned (.int .u32 (chN x y z : Nat)) ∧ w' = w:=by
 have k1:=and32 x y hx hy
 have k2:=xor_all hx
 have k3:=and32 (4294967295 - x) z (by omega) hz
 have k4:=xor32 (x &&& y) ((4294967295 - x) &&& z) (Nat.lt_of_le_of_lt Nat.and_le_left hx) (Nat.lt_of_le_of_lt Nat.and_le_left (by omega))
 go_enter Tryz.func147,Tryz.ntmps147
 go_wp2
 go_ret
 exact ⟨rfl,rfl⟩
theorem majority_calls (x y z : Nat) (hx : x < 2 ^ 32) (hy : y < 2 ^ 32) (hz : z < 2 ^ 32) (w : World) :
  Calls Tryz.prog 149 #[.int .u32 (x : Int),.int .u32 (y : Int),.int .u32 (z : Int)] w fun e w' => e = .returned (.int .u32 (majN x y z : Nat)) ∧ w' = w:=by
 have k1:=and32 x y hx hy
 have k2:=and32 x z hx hz
 have k3:=and32 y z hy hz
 have l1 : x &&& y < 2 ^ 32:=Nat.lt_of_le_of_lt Nat.and_le_left hx
 have l2 : x &&& z < 2 ^ 32:=Nat.lt_of_le_of_lt Nat.and_le_left hx
 have l3 : y &&& z < 2 ^ 32:=Nat.lt_of_le_of_lt Nat.and_le_left hy
 have k4:=xor32 (x &&& y) (x &&& z) l1 l2
 have k5:=xor32 ((x &&& y) ^^^ (x &&& z)) (y &&& z) (Nat.xor_lt_two_pow (n:=32) l1 l2) l3
 clear l1 l2 l3 hx hy hz
 go_enter Tryz.func149,Tryz.ntmps149
 go_wp2
 go_ret
 exact ⟨rfl,rfl⟩
theorem info8 : (Tryz.prog.info? 158).map (·.size) = some 64:=by kernel_rfl
theorem info32 : (Tryz.prog.info? 178).map (·.size) = some 64:=by kernel_rfl
theorem zeros64 : (#[.int .u32 0,.int .u32 0,.int .u32 0,.int .u32 0,.int .u32 0,.int .u32 0,.int .u32 0,.int .u32 0,.int .u32 0,.int .u32 0,.int .u32 0,.int .u32 0,.int .u32 0,.int .u32 0,.int .u32 0,.int .u32 0,.int .u32 0,.int .u32 0,.int .u32 0,.int .u32 0,.int .u32 0,.int .u32 0,.int .u32 0,.int .u32 0,.int .u32 0,.int .u32 0,.int .u32 0,.int .u32 0,.int .u32 0,.int .u32 0,.int .u32 0,.int .u32 0,.int .u32 0,.int .u32 0,.int .u32 0,.int .u32 0,.int .u32 0,.int .u32 0,.int .u32 0,.int .u32 0,.int .u32 0,.int .u32 0,.int .u32 0,.int .u32 0,.int .u32 0,.int .u32 0,.int .u32 0,.int .u32 0,.int .u32 0,.int .u32 0,.int .u32 0,.int .u32 0,.int .u32 0,.int .u32 0,.int .u32 0,.int .u32 0,.int .u32 0,.int .u32 0,.int .u32 0,.int .u32 0,.int .u32 0,.int .u32 0,.int .u32 0,.int .u32 0] : Array Value) = arrOf 64 (fun _ => .int .u32 0):=rfl
def pwb (blk : Nat → Nat) (j : Nat) : Nat → Nat
 | 0 => 0
 | m + 1 => pwb blk j m * 256 + blk (4 * j + m)
theorem pwb_lt {blk : Nat → Nat} (h : ∀ j,blk j < 256) (j : Nat) : ∀ m,pwb blk j m < 256 ^ m
 | 0 => by simp [pwb]
 | m + 1 => by
  have ih:=pwb_lt h j m
  have hb:=h (4 * j + m)
  show pwb blk j m * 256 + blk (4 * j + m) < 256 ^ (m + 1)
  rw [Nat.pow_succ]; omega
def pw (blk : Nat → Nat) (k j : Nat) : Nat:=pwb blk j (min (k - 4 * j) 4)
theorem pw_zero (blk : Nat → Nat) (j : Nat) : pw blk 0 j = 0:=by unfold pw; rw [Nat.zero_sub,Nat.zero_min]; rfl
theorem pw_step {blk : Nat → Nat} {k : Nat} (j : Nat) : pw blk (k + 1) j = if j = k / 4 then pw blk k j * 256 + blk k else pw blk k j:=by
 unfold pw
 by_cases h : j = k / 4
 ·
  rw [if_pos h,show min (k + 1 - 4 * j) 4 = min (k - 4 * j) 4 + 1 by omega]
  show pwb blk j _ * 256 + blk (4 * j + _) = _
  rw [show 4 * j + min (k - 4 * j) 4 = k by omega]
 ·
  rw [if_neg h,show min (k + 1 - 4 * j) 4 = min (k - 4 * j) 4 by omega]
theorem pw_lt {blk : Nat → Nat} (h : ∀ j,blk j < 256) (k : Nat) : pw blk k (k / 4) < 16777216:=by
 unfold pw
 have:=pwb_lt h (k / 4) (min (k - 4 * (k / 4)) 4)
 have h2 : 256 ^ min (k - 4 * (k / 4)) 4 ≤ 256 ^ 3:=Nat.pow_le_pow_right (by omega) (by omega)
 have h3 : (256 : Nat) ^ 3 = 16777216:=by decide
 omega
theorem pw_all {blk : Nat → Nat} {j : Nat} (hj : j < 16) : pw blk 64 j = word blk (4 * j):=by
 unfold pw
 rw [show min (64 - 4 * j) 4 = 4 by omega]
 show (((0 * 256 + blk (4 * j + 0)) * 256 + blk (4 * j + 1)) * 256 + blk (4 * j + 2)) * 256 + blk (4 * j + 3) = _
 unfold word
 rw [Nat.add_zero]
 omega
theorem pw_none {blk : Nat → Nat} {j : Nat} (hj : 16 ≤ j) : pw blk 64 j = 0:=by
 unfold pw
 rw [show min (64 - 4 * j) 4 = 0 by omega]; rfl
theorem or_byte {x y : Nat} (hx : x < 16777216) (hy : y < 256) : bits .or .u32 ((x : Int) * 256) (y : Int) = ((x * 256 + y : Nat) : Int):=by
 have h:=or32 (x * 256) y (by omega) (by omega)
 rw [show x * 256 = 2 ^ 8 * x by omega,← Nat.two_pow_add_eq_or_of_lt (show y < 2 ^ 8 by omega)] at h
 rw [show x * 256 = 2 ^ 8 * x by omega,← h]
 rw [Int.natCast_mul,Int.mul_comm]; rfl
theorem words_calls (g : Nat) (s : St) (blk : Nat → Nat) (len : Nat) (hblk : ∀ j,blk j < 256) (w : World) (hH : HRow w g s blk len) :
  Calls Tryz.prog 145 #[.pointer (some ⟨g,0,none⟩)] w fun e w' => e = .returned (.agg (arrOf 64 fun t => .int .u32 (wt (fun t => word blk (4 * t)) t : Nat))) ∧ Below w.heap.size w w':=by
 go_enter Tryz.func145,Tryz.ntmps145
 go_upto_region 2 with (fail)
 rw [zeros64]
 have hN0 : ((w.alloc (.cells (arrOf 64 (fun _ => .int .u32 0)) 178)).alloc (.cells (arrOf 64 (fun _ => .int .u32 0)) 178)).rowIs w.heap.size 178 64 (fun _ => .int .u32 0):=(zcb w 64 178 (fun _ => .int .u32 0) rfl).alloc _
 have hR : ((w.alloc (.cells (arrOf 64 (fun _ => .int .u32 0)) 178)).alloc (.cells (arrOf 64 (fun _ => .int .u32 0)) 178)).rowIs (w.heap.size + 1) 178 64 (fun _ => .int .u32 0):=zcb _ 64 178 (fun _ => .int .u32 0) (by simp)
 have hb : Below w.heap.size w ((w.alloc (.cells (arrOf 64 (fun _ => .int .u32 0)) 178)).alloc (.cells (arrOf 64 (fun _ => .int .u32 0)) 178)):=((Below.refl _ _).alloc (by simp) _).alloc (by simp) _
 have hH1:=(hH.alloc (.cells (arrOf 64 (fun _ => .int .u32 0)) 178)).alloc (.cells (arrOf 64 (fun _ => .int .u32 0)) 178)
 generalize ((w.alloc (.cells (arrOf 64 (fun _ => .int .u32 0)) 178)).alloc (.cells (arrOf 64 (fun _ => .int .u32 0)) 178)) = w1 at *
 have HB:=veil hH1.block
 obtain ⟨B,hB⟩ : ∃ B,B = ((List.range 64).map fun j => Value.int .u8 (blk j : Nat)).toArray:=⟨_,rfl⟩
 have HBB:=veil hB
 clear hB
 go_wp2_with ((with_reducible refine zaa 10 ?_); refine wpList_load_mid rfl 158 _ rfl g 8 rfl ((List.range 64).map fun j => Value.int .u8 (blk j : Nat)) _ HB.out Tryz.underlying158 rfl info8 ?_; rw [← HBB.out])
 go_loopw [11] (fun c wr => ∃ k : Nat,k ≤ 64 ∧ c = .int .i64 k ∧ wr.rowIs (w.heap.size + 1) 178 64 (fun j => .int .u32 (pw blk k j : Nat)) ∧ wr.rowIs w.heap.size 178 64 (fun _ => .int .u32 0) ∧ Below w.heap.size w wr)
  (fun c _ => 64 - (intOf c).toNat)
 case atStart => exact ⟨0,by omega,rfl,hR.congr fun j _ => by rw [pw_zero]; rfl,hN0,hb⟩
 case round =>
  obtain ⟨k,hk,rfl,hR,hN0,hb⟩:=hrel
  by_cases hlt : k < 64
  ·
   have hBk : B[k]? = some (.int .u8 (blk k : Nat)):=by rw [HBB.out]; simp [hlt]
   have hst:=fun j => pw_step (blk:=blk) (k:=k) j
   have hx:=pw_lt hblk k
   have hy:=hblk k
   obtain ⟨q,hq⟩ : ∃ q,q = k / 4:=⟨_,rfl⟩
   rw [← hq] at hst hx
   have hq16 : q < 16:=by omega
   have hqi : (k : Int) / 4 = (q : Int):=by omega
   obtain ⟨x,hxx⟩ : ∃ x,x = pw blk k q:=⟨_,rfl⟩
   obtain ⟨y,hyy⟩ : ∃ y,y = blk k:=⟨_,rfl⟩
   have c1:=hR.cell (show q < 64 by omega)
   have f1:=hR.frozen q
   rw [← hxx] at hx c1
   rw [← hyy] at hy hBk
   have ko:=or_byte hx hy
   have HS:=veil hst
   have HX:=veil hxx
   have HY:=veil hyy
   have HQ:=veil hq
   have kx:=fun W => zcr (P:=Tryz.prog) (t:=158) (cs:=B) (v:=.int .u8 (y : Int)) Tryz.underlying158 (by kernel_rfl) (fun W => run_part_plain (P:=Tryz.prog) W (e:=5) (by kernel_rfl) (xs:=B) (off:=k) hBk) hlt .i64 W
   clear hst hxx hyy hq hBk
   go_wp2
   go_roundw
   case rel =>
    refine ⟨k + 1,by omega,by go_num,(hR.set q _).congr fun j hj => ?_,zar hN0 (by omega) _,zaf hb (by omega) _⟩
    by_cases h : j = q
    ·
     subst h
     rw [if_pos rfl,HS.out,if_pos rfl,← HX.out,← HY.out]
     rfl
    ·
     rw [if_neg h,HS.out,if_neg h]
   case measure => simp [intOf]; omega
  ·
   have e64 : k = 64:=by omega
   have hR:=e64 ▸ hR
   have HK:=veil e64
   have hkf : decide ((k : Int) < 64) = false:=by simp; omega
   clear e64 hlt hk
   have hm : ∀ t,t < 16 → word blk (4 * t) < 2 ^ 32:=fun t _ => by
    unfold word
    have h0:=hblk (4 * t); have h1:=hblk (4 * t + 1); have h2:=hblk (4 * t + 2); have h3:=hblk (4 * t + 3)
    omega
   have hR : wr.rowIs (w.heap.size + 1) 178 64 (fun j => .int .u32 ((if j < 16 then wt (fun t => word blk (4 * t)) j else 0 : Nat) : Int)):=hR.congr fun j _ => by
    by_cases h : j < 16
    ·
     rw [if_pos h,wt_lo _ h,pw_all h]
    ·
     rw [if_neg h,pw_none (by omega)]
   have hW:=fun t => wt_lt (m:=fun t => word blk (4 * t)) hm t
   obtain ⟨m,hm0⟩ : ∃ m,m = fun t => word blk (4 * t):=⟨_,rfl⟩
   rw [← hm0] at hR hW
   have HM0:=veil hm0
   clear hm0
   have HM:=veil hm
   have HW:=veil hW
   have HBL:=veil hblk
   clear hm hW hblk
   go_wp2
   go_loopw [6] (fun c wr => ∃ t : Nat,16 ≤ t ∧ t ≤ 64 ∧ c = .int .i64 t ∧ wr.rowIs (w.heap.size + 1) 178 64 (fun j => .int .u32 ((if j < t then wt m j else 0 : Nat) : Int)) ∧ wr.rowIs w.heap.size 178 64 (fun _ => .int .u32 0) ∧ Below w.heap.size w wr)
    (fun c _ => 64 - (intOf c).toNat)
   case atStart => exact ⟨16,by omega,by omega,rfl,hR,hN0,hb⟩
   case round =>
    obtain ⟨t,ht16,ht,rfl,hR,hN0,hb⟩:=hrel
    by_cases hlt : t < 64
    ·
     obtain ⟨t16,e16⟩ : ∃ t16,t = t16 + 16:=⟨t - 16,by omega⟩
     have cell : ∀ d,0 < d → d ≤ 16 → wr.cell? ⟨w.heap.size + 1,t - d,none⟩ = some (.int .u32 (wt m (t - d) : Nat)):=fun d h0 h1 => by
      rw [hR.cell (show t - d < 64 by omega),if_pos (by omega)]
     have c2:=cell 2 (by omega) (by omega)
     have c7:=cell 7 (by omega) (by omega)
     have c15:=cell 15 (by omega) (by omega)
     have c16:=cell 16 (by omega) (by omega)
     have cT : wr.cell? ⟨w.heap.size + 1,t,none⟩ = some (.int .u32 0):=by
      rw [hR.cell hlt,if_neg (by omega)]; rfl
     have fT:=hR.frozen t
     have hwt:=wt_hi m (show ¬ t < 16 by omega)
     have l2:=HW.out (t - 2)
     have l7:=HW.out (t - 7)
     have l15:=HW.out (t - 15)
     have l16:=HW.out (t - 16)
     obtain ⟨x2,hx2⟩ : ∃ x,x = wt m (t - 2):=⟨_,rfl⟩
     obtain ⟨x7,hx7⟩ : ∃ x,x = wt m (t - 7):=⟨_,rfl⟩
     obtain ⟨x15,hx15⟩ : ∃ x,x = wt m (t - 15):=⟨_,rfl⟩
     obtain ⟨x16,hx16⟩ : ∃ x,x = wt m (t - 16):=⟨_,rfl⟩
     rw [← hx2] at c2 hwt l2
     rw [← hx7] at c7 hwt l7
     rw [← hx15] at c15 hwt l15
     rw [← hx16] at c16 hwt l16
     have i2 : (t : Int) - 2 = ((t - 2 : Nat) : Int):=by omega
     have i7 : (t : Int) - 7 = ((t - 7 : Nat) : Int):=by omega
     have i15 : (t : Int) - 15 = ((t - 15 : Nat) : Int):=by omega
     have i16 : (t : Int) - 16 = ((t - 16 : Nat) : Int):=by omega
     have b2 : t - 2 < 64:=by omega
     have b7 : t - 7 < 64:=by omega
     have b15 : t - 15 < 64:=by omega
     have b16 : t - 16 < 64:=by omega
     generalize t - 2 = t2 at *
     generalize t - 7 = t7 at *
     generalize t - 15 = t15 at *
     generalize t - 16 = t16' at *
     have a1 : ∀ x y : Nat,((x : Int) + (y : Int)) % 4294967296 = ((ad x y : Nat) : Int):=fun x y => by unfold ad; rw [Int.natCast_emod,Int.natCast_add]; rfl
     have a2 : ∀ x y : Nat,IntKind.u32.wrap ((x : Int) + (y : Int)) = ((ad x y : Nat) : Int):=fun x y => by rw [wrap32]; exact a1 x y
     have w2 : IntKind.i64.wrap (t2 : Int) = (t2 : Int):=IntWalk.i64_in _ (by omega)
     have w7 : IntKind.i64.wrap (t7 : Int) = (t7 : Int):=IntWalk.i64_in _ (by omega)
     have w15 : IntKind.i64.wrap (t15 : Int) = (t15 : Int):=IntWalk.i64_in _ (by omega)
     have w16 : IntKind.i64.wrap (t16' : Int) = (t16' : Int):=IntWalk.i64_in _ (by omega)
     have j2 : (t2 : Int) < 64:=by omega
     have j7 : (t7 : Int) < 64:=by omega
     have j15 : (t15 : Int) < 64:=by omega
     have j16 : (t16' : Int) < 64:=by omega
     have jT : (t : Int) < 64:=by omega
     have K1:=veil (fun W => smallOne_calls x2 l2 W)
     have K2:=veil (fun W => smallZero_calls x15 l15 W)
     have HT:=veil hwt
     have HH:=veil (And.intro hx2 (And.intro hx7 (And.intro hx15 hx16)))
     have E16:=veil e16
     clear cell hwt hx2 hx7 hx15 hx16 e16 l2 l15 l7 l16
     go_wp2
     go_still_tail 23,(by kernel_rfl)
     still_call (by first | ((with_reducible refine (K1.out _).mono ?_); rintro e w' ⟨rfl,rfl⟩; exact ⟨rfl,rfl⟩))
     repeat still_step
     still_call (by first | ((with_reducible refine (K2.out _).mono ?_); rintro e w' ⟨rfl,rfl⟩; exact ⟨rfl,rfl⟩))
     repeat still_step
     refine wpStill_nil ?_
     have hR2:=hR.drew
     have hN2:=hN0.drew
     have hb2:=hb.drew
     have cT2 : wr.drew.cell? ⟨w.heap.size + 1,t,none⟩ = some (.int .u32 0):=cT
     have fT2 : wr.drew.frozen? ⟨w.heap.size + 1,t,none⟩ = false:=fT
     change wpList _ _ _ _ _ wr.drew
     generalize wr.drew = w2 at *
     clear c2 c7 c15 c16 cT fT hR hN0 hb
     go_wp2
     go_roundw
     case rel =>
      refine ⟨t + 1,by omega,by omega,by go_num,(hR2.set t _).congr fun j hj => ?_,zar hN2 (by omega) _,zaf hb2 (by omega) _⟩
      by_cases h : j = t
      ·
       subst h
       rw [if_pos rfl,if_pos (by omega),HT.out]
      ·
       rw [if_neg h]
       by_cases h2 : j < t
       ·
        rw [if_pos h2,if_pos (by omega)]
       ·
        rw [if_neg h2,if_neg (by omega)]
     case measure => simp [intOf]; omega
    ·
     have e64 : t = 64:=by omega
     have hR:=e64 ▸ hR
     have hR : wr.rowIs (w.heap.size + 1) 178 64 (fun j => .int .u32 (wt m j : Nat)):=hR.congr fun j hj => by rw [if_pos hj]
     have htf : decide ((t : Int) < 64) = false:=by simp; omega
     clear HM HB HBB e64 hlt ht ht16
     have hA:=veil (blkOf hR)
     have hN:=veil (blkOf hN0)
     obtain ⟨A,hA2⟩ : ∃ A,A = arrOf 64 (fun j => .int .u32 (wt m j : Nat)):=⟨_,rfl⟩
     rw [← hA2] at hA
     have HE:=veil hA2
     have hs : A.size = 64:=by rw [hA2,zam]
     have h1 : A.all (·.oneCell') = true:=by rw [hA2]; exact zbq fun _ _ => rfl
     have h2 : (Tryz.prog.info? 178).map (·.size) = some A.size:=by rw [hs]; exact info32
     have HZ:=veil (And.intro hs (And.intro h1 h2))
     clear hs h1 h2 hA2
     go_wp2_with (first
      | ((with_reducible refine zaa 54 ?_); refine wpList_load_row rfl 178 _ rfl (w.heap.size + 1) rfl 178 A (0,0) _ hA.out Tryz.underlying178 rfl HZ.out.2.2 ?_)
      | ((with_reducible refine zah ?_); refine wpList_store_row rfl 178 _ _ rfl w.heap.size A rfl rfl 178 _ hN.out HZ.out.2.2 (by rw [HZ.out.1,zam]) HZ.out.2.1 ?_))
     exact bodyPost_ret (results_cell_row rfl _ _ w.heap.size 178 A (0,0) _ rfl (setRow_heap wr w.heap.size _ A 178 (0,0) hN.out) Tryz.underlying178 rfl HZ.out.2.2) rfl ⟨by rw [HE.out,HM0.out],zdi hb (Nat.le_refl _) _⟩
end Go.Proofs.YtihophdbkjhopaaGreatDoor
