/-
  Of NS6 NS7 Y0 Y1 Y2 Y3.
-/
import Derived.Deep.LoopGhost
import Derived.Test.YtedehdbajiaaiaaGreatDoorZB14
import Derived.Test.YtedehdbajiaaiaaGreatDoorZB29
import Derived.Test.YtedehdbajiaaiaaGreatDoorZB21
import Derived.Test.YtedehdbajiaaiaaGreatDoorZB22
import Derived.Test.YtedehdbajiaaiaaGreatDoorZB15
set_option maxRecDepth 1000000
set_option maxHeartbeats 20000000
namespace Go.Proofs.YtedehdbajiaaiaaGreatDoor
open Go.RowKit
open Go.Value renaming int → vI
open Go.IntKind renaming u64 → vU
open Go.Act renaming put → aP
open List renaming setIfInBounds_toArray → lA, set_cons_zero → lZ, set_cons_succ → lS
theorem pre_step {D M many i : Nat} (h : ∀ j,j < i → (outN D M j).length < many) (hi : (outN D M i).length < many) : ∀ j,j < i + 1 → (outN D M j).length < many:=fun j hj => by
 rcases Nat.lt_or_ge j i with e | e
 ·
  exact h j e
 ·
  have : j = i:=by omega
  subst this
  exact hi
theorem But.belowAt {w w' w'' : World} {g B : Nat} (h : But g w w') (hb : Below B w' w'') (hB : w.heap.size ≤ B) : But g w w'' :=
 ⟨hb.os.trans h.os,hb.tape.trans h.tape,hb.output.trans h.output,Nat.le_trans h.size hb.size,fun k hk hne => (hb.block k (by omega)).trans (h.block k hk hne)⟩
theorem firstOf_calls (D M many g : Nat) (hm : many ≤ 16) (hg : g ≠ 0) (w : World) (hK : KT w) (hS : SRow w g (kvS D M)) :
  Calls Tryz.prog 112 #[.func (.func 114) #[.pointer (some ⟨g,0,none⟩)] #[],.int .i64 (many : Int)] w fun e w' => (∃ s,Ends D M many s ∧
   ((¬ (outN D M s).length < many ∧ ∃ v,e = .returned (.tuple #[v,.nilIface]) ∧ OwnN w' w.heap.size v (outN D M s)) ∨
    ((outN D M s).length < many ∧ e = .returned (.tuple #[.slice none 0 0,.iface 35 (.int .i64 4)])))) ∧ But g w w':=by
 have HK:=veil hK
 have HG:=veil (And.intro hg hm)
 have hlt:=hS.lt
 have h0 : (0 : Int) ≤ (many : Int):=by omega
 have h16 : (many : Int) ≤ 16:=by omega
 obtain ⟨i4,hi4,hz4,hsz4,hby4⟩:=zhz infoN32
 obtain ⟨w1,hr,hO1,hgr⟩:=run_make_own (P:=Tryz.prog) w w.heap.size 73 26 i4 _ 4 Tryz.underlying73 hi4 hz4 hsz4 .i64 .i64 many (by rw [hby4]; omega) (by unfold maxLen; omega) (Nat.le_refl _)
 have hE1 : Ext w w1:=zci (Below.refl _ _) hgr (Nat.le_refl _) (fun k e => by cases e)
 have hS1:=hS.call hE1
 have hB1 : But g w w1:=But.of_below hE1
 have hO1 : OwnN w1 w.heap.size (.slice (some ⟨w.heap.size,0,none⟩) 0 many) []:=hO1
 clear hi4 hz4 hsz4 hby4 hgr hE1 hS hK hg
 go_enter Tryz.func112,Tryz.ntmps112
 go_upto_region 3 with (fail)
 clear hr
 go_loopw [6,7] (fun v6 v7 wr => ∃ i : Nat,i ≤ 100 ∧ v7 = .int .i64 (i : Int) ∧ (∀ j,j < i → (outN D M j).length < many) ∧ OwnN wr w.heap.size v6 (outN D M i) ∧ SRow wr g (kvN D M i) ∧ But g w wr)
  (fun _ v7 _ => 100 - (intOf v7).toNat)
 case atStart => exact ⟨0,by omega,rfl,fun j hj => by omega,hO1,hS1,hB1⟩
 case round =>
  clear hO1 hS1 hB1
  obtain ⟨i,hi,rfl,hpre,hO,hS,hB⟩:=hrel
  have hlw:=(show g < w.heap.size by assumption)
  obtain ⟨A,c,rfl,hnc⟩:=hO.form
  obtain ⟨n,hn⟩ : ∃ n,n = (outN D M i).length:=⟨_,rfl⟩
  rw [← hn] at hO hnc
  have HN:=veil hn
  have HP:=veil hpre
  clear hpre
  by_cases hlt : n < many
  ·
   have hd : decide ((n : Int) < (many : Int)) = true:=by simp; omega
   by_cases h100 : i = 100
   ·
    subst h100
    rw [← hn]
    have hEnd:=veil (show Ends D M many 100 ∧ (outN D M 100).length < many from ⟨⟨by omega,HP.out,.inl rfl⟩,by rw [← hn]; exact hlt⟩)
    clear hn hO hS
    go_wp2
    go_ret2
    exact ⟨⟨100,hEnd.out.1,.inr ⟨hEnd.out.2,rfl⟩⟩,hB⟩
   ·
    rw [← hn]
    have hx : ((i : Int) == 100) = false:=by simp; omega
    obtain ⟨X,hX⟩ : ∃ X,X = numN D M i:=⟨_,rfl⟩
    obtain ⟨m,hmX⟩ : ∃ m,m = mayB X:=⟨_,rfl⟩
    have HX:=veil (And.intro hX (And.intro hmX (show X < top from by rw [hX]; exact numN_lt D M i)))
    have hlg:=hS.lt
    have KN:=veil (show Calls Tryz.prog 114 #[.pointer (some ⟨g,0,none⟩)] wr fun e w' => e = .returned (nv X) ∧ SRow w' g (kvN D M (i + 1)) ∧ But g wr w' from by
     rw [hX]; exact next_calls g HG.out.1 (kvN D M i) (kvN_ok D M i) wr (HK.out.grown hB (Ne.symm HG.out.1)) hS)
    have HO:=veil hO
    have HB:=veil hB
    have HL:=veil (show (outN D M i).length < many from by rw [← hn]; exact hlt)
    have hi99 : i < 100:=by omega
    clear hn hO hX hmX hB hS hnc hO1 h100 hi
    go_upto_region 8 with (first
     | (go_at_call 114; refine KN.out.mono ?_; rintro e w2 ⟨rfl,hS2,hB2⟩)
     | ((with_reducible refine zbb ?_); refine wpList_store_row rfl 26 _ _ rfl w2.heap.size (nc X) rfl rfl 26 _ (heap_alloc_last w2 _) (iN X) (by rfl) (zbd X) ?_; rw [World.setRow_alloc_new]))
    have hE3 : Ext w2 (w2.alloc (.cells (nc X) 26)):=Ext.alloc _ _
    have hx3 : (w2.alloc (.cells (nc X) 26)).heap[w2.heap.size]? = some (.cells (nc X) 26 (0,0)):=heap_alloc_last w2 _
    generalize w2.alloc (.cells (nc X) 26) = w3 at *
    generalize w2.heap.size = gx at *
    have KC:=veil (can_calls X HX.out.2.2 w3)
    rw [← HX.out.2.1] at KC
    have HO3:=veil ((HO.out.but hB2 hlw).ext hE3)
    have H3:=veil (And.intro (hS2.call hE3) (And.intro ((HB.out.trans hB2).below hE3) hx3))
    clear hS2 hB2 hE3 hx3 HO HB KN hlg hx hd
    have hl1000 : (outN D M i).length ≤ 1000:=by have:=HL.out; omega
    cases m with
    | false =>
     go_wp2_with (first
      | ((with_reducible refine zar 22 ?_); refine wpList_load_row rfl 26 _ rfl gx rfl 26 (nc X) (0,0) _ H3.out.2.2 Tryz.underlying26 rfl (iN X) ?_)
      | (go_at_call 111; refine KC.out.mono ?_; rintro e w4 ⟨rfl,hE4⟩))
     have hout : outN D M (i + 1) = outN D M i:=by
      show (if mayB (numN D M i) = true then _ else _) = _
      rw [← HX.out.1,← HX.out.2.1]; rfl
     go_roundw
     case rel => exact ⟨i + 1,by omega,by go_num,pre_step HP.out HL.out,by rw [hout]; exact HO3.out.ext hE4,H3.out.1.call hE4,H3.out.2.1.below hE4⟩
     case measure => simp [intOf]; omega
    | true =>
     have hnc4 : (nc X).size = 4:=rfl
     go_wp2_with (first
      | ((with_reducible refine zar 22 ?_); refine wpList_load_row rfl 26 _ rfl gx rfl 26 (nc X) (0,0) _ H3.out.2.2 Tryz.underlying26 rfl (iN X) ?_)
      | (go_at_call 111; refine KC.out.mono ?_; rintro e w4 ⟨rfl,hE4⟩)
      | ((with_reducible refine zar 25 ?_); refine wpList_load_row rfl 26 _ rfl gx rfl 26 (nc X) (0,0) _ (hE4.block H3.out.2.2) Tryz.underlying26 rfl (iN X) ?_)
      | (at_builtin; refine wpl_append_num rfl _ _ rfl w.heap.size (.slice A n c) (outN D M i) rfl ((HO3.out.ext hE4).ext (Ext.alloc _ (.cells (nc X) 26))) w4.heap.size X rfl (heap_alloc_last w4 _) hl1000 (Nat.le_trans H3.out.2.1.size (Nat.le_trans hE4.size (by simp))) ?_; intro v6 w6 hO6 hg6))
     have hout : outN D M (i + 1) = outN D M i ++ [X]:=by
      show (if mayB (numN D M i) = true then _ else _) = _
      rw [← HX.out.1,← HX.out.2.1]; rfl
     have hb6 : Below w.heap.size (w4.alloc (.cells (nc X) 26)) w6:=zci (Below.refl _ _) hg6 (Nat.le_trans H3.out.2.1.size (Nat.le_trans hE4.size (by simp))) (fun k e => (HO3.out.lt e).1)
     have hS6 : SRow w6 g (kvN D M (i + 1)):=World.rowIs.of_block ((H3.out.1.call hE4).alloc (.cells (nc X) 26)) (hb6.block g hlw)
     have hB6 : But g w w6:=((H3.out.2.1.below hE4).alloc (.cells (nc X) 26)).belowAt hb6 (Nat.le_refl _)
     clear hb6 hg6 H3
     go_roundw
     case rel => exact ⟨i + 1,by omega,by go_num,pre_step HP.out HL.out,by rw [hout]; exact hO6,hS6,hB6⟩
     case measure => simp [intOf]; omega
  ·
   have hd : decide ((n : Int) < (many : Int)) = false:=by simp; omega
   have hEnd:=veil (show Ends D M many i ∧ ¬ (outN D M i).length < many from ⟨⟨hi,HP.out,.inr (by rw [← hn]; exact hlt)⟩,by rw [← hn]; exact hlt⟩)
   rw [← hn]
   have HO:=veil hO
   clear hn hS hO
   go_wp2
   go_ret2
   exact ⟨⟨i,hEnd.out.1,.inl ⟨hEnd.out.2,_,rfl,HO.out⟩⟩,hB⟩
def Res (D M many : Nat) (W : World) (base : Nat) (v ev : Value) : Prop :=
 ∃ s,Ends D M many s ∧ ((¬ (outN D M s).length < many ∧ ev = .nilIface ∧ OwnN W base v (outN D M s)) ∨ ((outN D M s).length < many ∧ v = .slice none 0 0 ∧ ev = .iface 35 (.int .i64 4)))
theorem Res.ext {D M many base : Nat} {W W' : World} {v ev : Value} (h : Res D M many W base v ev) (k : Ext W W') : Res D M many W' base v ev:=by
 obtain ⟨s,hE,h⟩:=h
 exact ⟨s,hE,h.imp (fun ⟨a,b,c⟩ => ⟨a,b,c.ext k⟩) id⟩
theorem Res.base_le {D M many base base' : Nat} {W : World} {v ev : Value} (h : Res D M many W base v ev) (k : base' ≤ base) : Res D M many W base' v ev:=by
 obtain ⟨s,hE,h⟩:=h
 exact ⟨s,hE,h.imp (fun ⟨a,b,c⟩ => ⟨a,b,c.base_le k⟩) id⟩
theorem firstOf_res (D M many g : Nat) (hm : many ≤ 16) (hg : g ≠ 0) (w : World) (hK : KT w) (hS : SRow w g (kvS D M)) :
  Calls Tryz.prog 112 #[.func (.func 114) #[.pointer (some ⟨g,0,none⟩)] #[],.int .i64 (many : Int)] w fun e w' => ∃ v ev,e = .returned (.tuple #[v,ev]) ∧ Res D M many w' w.heap.size v ev ∧ But g w w' :=
 (firstOf_calls D M many g hm hg w hK hS).mono fun e w' ⟨⟨s,hE,h⟩,hB⟩ => by
  rcases h with ⟨hn,v,rfl,hO⟩ | ⟨hn,rfl⟩
  ·
   exact ⟨v,_,rfl,⟨s,hE,.inl ⟨hn,rfl,hO⟩⟩,hB⟩
  ·
   exact ⟨_,_,rfl,⟨s,hE,.inr ⟨hn,rfl,rfl⟩⟩,hB⟩
theorem list_good (D : Nat) (hD : D < top) (y : Nat → Nat) (hy : ∀ j,y j < 256) (many : Nat) (hm : many ≤ 16) (hb : mayB D = true) (w : World) (hK : KT w) :
  Calls Tryz.prog 58 #[nv D,.agg (arrOf 32 fun i => .int .u8 (y i : Nat)),.int .i64 (many : Int)] w fun e w' => ∃ v ev,e = .returned (.tuple #[v,ev]) ∧ Res D (num32 y % Pt.nn) many w' w.heap.size v ev ∧ Ext w w':=by
 obtain ⟨M,hM⟩ : ∃ M,M = num32 y % Pt.nn:=⟨_,rfl⟩
 have KN:=veil (fun W hK => newSource_calls D y hy W hK)
 rw [← hM] at KN ⊢
 obtain ⟨F,hF⟩ : ∃ F,F = arrOf 32 fun i => Value.int .u8 (y i : Nat):=⟨_,rfl⟩
 rw [← hF] at KN ⊢
 have HF:=veil (show F.size = 32 ∧ (Tryz.prog.info? 43).map (·.size) = some F.size from by rw [hF,zaw]; exact ⟨rfl,infoD⟩)
 have KC:=veil (fun W => can_calls D hD W)
 rw [hb] at KC
 have HK:=veil hK
 have HM:=veil hm
 have h0 : decide ((many : Int) < 0) = false:=decide_eq_false (by omega)
 have h16 : decide (16 < (many : Int)) = false:=decide_eq_false (by omega)
 clear hF hM hD hb hK hy hm
 obtain ⟨C,hC⟩ : ∃ C,C = nc D:=⟨_,rfl⟩
 rw [show nv D = .agg C from by rw [hC]; rfl] at KC KN ⊢
 have HC:=veil (show (Tryz.prog.info? 26).map (·.size) = some C.size from by rw [hC]; exact iN D)
 clear hC
 go_enter Tryz.func58,Tryz.ntmps58
 go_upto_region 1 with (fail)
 have hc1 : (w.alloc (.cells C 26)).heap[w.heap.size]? = some (.cells C 26 (0,0)):=heap_alloc_last w _
 have hz1 : (w.alloc (.cells C 26)).heap.size = w.heap.size + 1:=by simp
 have hE1:=Ext.alloc w (.cells C 26)
 generalize w.alloc (.cells C 26) = w1 at *
 have hf2 : (w1.alloc (.cells F 43)).heap[w.heap.size + 1]? = some (.cells F 43 (0,0)):=by rw [← hz1]; exact heap_alloc_last w1 _
 have hc2:=(Ext.alloc w1 (.cells F 43)).block hc1
 have hE2:=hE1.trans (Ext.alloc w1 (.cells F 43))
 generalize w1.alloc (.cells F 43) = w2 at *
 have H2:=veil (And.intro hc2 (And.intro hf2 (And.intro hE2 (HK.out.call hE2))))
 clear hc1 hz1 hE1 hf2 hc2 hE2 HK
 go_upto_region 3 with (first
  | ((with_reducible refine zar 8 ?_); refine wpList_load_row rfl 26 _ rfl w.heap.size rfl 26 C (0,0) _ H2.out.1 Tryz.underlying26 rfl HC.out ?_)
  | (go_at_call 111; refine (KC.out _).mono ?_; rintro e w4 ⟨rfl,hE4⟩))
 have H4:=veil (And.intro (hE4.block H2.out.1) (And.intro (hE4.block H2.out.2.1) (And.intro (H2.out.2.2.1.trans hE4) (H2.out.2.2.2.call hE4))))
 clear H2 hE4 h0 h16
 go_wp2_with (first
  | ((with_reducible refine zar 20 ?_); refine wpList_load_row rfl 26 _ rfl w.heap.size rfl 26 C (0,0) _ H4.out.1 Tryz.underlying26 rfl HC.out ?_)
  | ((with_reducible refine zar 21 ?_); refine wpList_load_row rfl 43 _ rfl (w.heap.size + 1) rfl 43 F (0,0) _ H4.out.2.1 Tryz.underlying43 rfl HF.out.2 ?_)
  | (go_at_call 113; refine (KN.out _ H4.out.2.2.2).mono ?_; rintro e w5 ⟨g,rfl,hgw,hS5,hE5⟩)
  | (go_at_call 112; refine (firstOf_res D M many g HM.out (by have:=H4.out.2.2.2.lt; omega) w5 (H4.out.2.2.2.call hE5) hS5).mono ?_; rintro e w6 ⟨v,ev,rfl,hR,hB⟩))
 go_ret2
 have hE : Ext w w6:=Below.trans (H4.out.2.2.1.trans hE5) (But.new hB (Nat.le_trans H4.out.2.2.1.size hgw) (H4.out.2.2.1.trans hE5).size)
 exact ⟨v,ev,rfl,hR.base_le (H4.out.2.2.1.trans hE5).size,hE⟩
/-! ### the field of n -/
def Fn (w : World) (b : Nat) : Prop:=∃ N Q,Fok Pt.nn N Q ∧ Fb w b Pt.nn N Q
theorem Fn.ext {w w' : World} {b : Nat} (h : Fn w b) (k : Ext w w') : Fn w' b:=by
 obtain ⟨N,Q,h1,h2⟩:=h
 exact ⟨N,Q,h1,h2.call k⟩
theorem Fn.but {w w' : World} {b r : Nat} (h : Fn w b) (k : But r w w') (hne : b ≠ r) : Fn w' b:=by
 obtain ⟨N,Q,h1,h2⟩:=h
 exact ⟨N,Q,h1,World.rowIs.of_block h2 (k.block b h2.lt (fun e => hne (Option.some.inj e)))⟩
section
variable {b : Nat} {w : World}
theorem nadd_p {X Y Z : Nat} (hZ : Z = (X % Pt.nn + Y % Pt.nn) % Pt.nn) (hX : X < top) (hY : Y < top) (hF : Fn w b) : Calls Tryz.prog 104 #[ptrTo b,nv X,nv Y] w fun e w' => e = .returned (nv Z) ∧ Ext w w':=by
 obtain ⟨N,Q,h1,h2⟩:=hF
 exact zia b X Y Pt.nn N Q Z hX hY h1 hZ.symm w h2
theorem ncut_p {X Z : Nat} (hZ : Z = X % Pt.nn) (hX : X < top) (hF : Fn w b) : Calls Tryz.prog 104 #[ptrTo b,nv X,nv 0] w fun e w' => e = .returned (nv Z) ∧ Ext w w' :=
 nadd_p (by rw [hZ,Nat.zero_mod,Nat.add_zero,Nat.mod_mod]) hX zce hF
theorem nmul_p {X Y Z : Nat} (hZ : Z = X * Y % Pt.nn) (hX : X < top) (hY : Y < top) (hF : Fn w b) : Calls Tryz.prog 89 #[ptrTo b,nv X,nv Y] w fun e w' => e = .returned (nv Z) ∧ Ext w w':=by
 obtain ⟨N,Q,h1,h2⟩:=hF
 exact fmul2_calls b X Y Pt.nn N Q Z hX hY h1 hZ.symm w h2
theorem ninv_p {X t : Nat} (h0 : X ≠ 0) (hX : X < Pt.nn) (ht : t = Pt.iG Pt.nn X) (hF : Fn w b) : Calls Tryz.prog 87 #[ptrTo b,nv X] w fun e w' => e = .returned (.tuple #[nv t,.nilIface]) ∧ Ext w w':=by
 obtain ⟨N,Q,h1,h2⟩:=hF
 refine (zjj b X Pt.nn N Q (Nat.lt_trans hX zcf) h1 w h2).mono ?_
 rintro e w' ⟨⟨y,hy,hi,rfl⟩,hb⟩
 have hg:=Pt.gcd_nn h0 hX
 have e1 : y = t:=by rw [ht]; exact Pt.iG_of Pt.nn Pt.nn_root Pt.nn_one hy (hi hg)
 rw [zjf hg,e1]
 exact ⟨rfl,hb⟩
end
/-! ### a maker -/
def mc (g D E : Nat) : Array Value:=#[ptrTo g,vI vU (wd D 0),vI vU (wd D 1),vI vU (wd D 2),vI vU (wd D 3),vI vU (wd E 0),vI vU (wd E 1),vI vU (wd E 2),vI vU (wd E 3)]
def mv (g D E : Nat) : Value:=.agg (mc g D E)
theorem mc_one (g D E : Nat) : (mc g D E).all (·.oneCell') = true:=by simp [mc,ptrTo,Value.oneCell']
theorem iMk (g D E : Nat) : (Tryz.prog.info? 111).map (·.size) = some (mc g D E).size:=by kernel_rfl
theorem gz_size (r s : Nat) : (#[vI vU 0,vI vU 0,vI vU 0,vI vU 0,vI vU 0,vI vU 0,vI vU 0,vI vU 0] : Array Value).size = (gc r s).size:=by simp [gc]
theorem zjy (W : World) : (isAgg 109).run Tryz.prog W = .ok false W:=by simp [isAgg,go_sem]
section
variable (g : Nat) (W : World)
theorem fldM0 : (Instr.fieldAt 111 (ptrTo g) 0).run Tryz.prog W = .ok (.pointer (some ⟨g,0,none⟩)) W:=by simp [Instr.fieldAt,go_sem]
theorem fldM1 : (Instr.fieldAt 111 (ptrTo g) 1).run Tryz.prog W = .ok (.pointer (some ⟨g,1,none⟩)) W:=by simp [Instr.fieldAt,go_sem]
theorem fldM2 : (Instr.fieldAt 111 (ptrTo g) 2).run Tryz.prog W = .ok (.pointer (some ⟨g,5,none⟩)) W:=by simp [Instr.fieldAt,go_sem]
theorem bldM (D E : Nat) : (Instr.build 111 [(0,ptrTo g),(1,nv D),(2,nv E)].toArray).run Tryz.prog W = .ok (mv g D E) W:=by simp [Instr.build,go_sem,nv,nc,mv,mc]
end
theorem zgy {S : World → Prop} {P : Program} {ops : Array Oper} {o : Oper} {a : Act} {ty : TypeId} {parts : List (Nat × Operand)} {vs : List (Nat × Value)} {v : Value} (hw : Region.wanted o (yielded ops a.tmps) = true) (ho : o.op = .build ty parts.toArray) (hx : parts.map (fun p => (p.1,a.eval p.2)) = vs)
  (hb : ∀ W,(Instr.build ty vs.toArray).run P W = .ok v W) : YieldsIf P ops S o v a:=Or.inl ⟨hw,fun W _ => by
 unfold execOp
 simp only [ho,List.map_toArray]
 rw [show (parts.map fun x => match x with | (i,x) => (i,a.eval x)) = vs from hx]
 simp only [Sem.run_bind,hb W,Result.andThen_ok,Sem.run_pure]⟩
theorem yif_pickB {S : World → Prop} {P : Program} {ops : Array Oper} {o : Oper} {a : Act} {c x y : Operand} {b : Bool} {v : Value} (hw : Region.wanted o (yielded ops a.tmps) = true) (ho : o.op = .pick c x y) (hc : a.eval c = .bool b) (hx : (if b then a.eval x else a.eval y) = v) : YieldsIf P ops S o v a:=Or.inl ⟨hw,fun W _ => by
 unfold execOp
 simp only [ho]
 generalize a.eval = ρ at *
 subst hx
 rw [hc]
 cases b <;> simp [go_sem,asBool]⟩
/-! ### what the layers below answer -/
theorem ofl_is {y : Nat → Nat} {X : Nat} (hy : ∀ j,y j < 256) (hX : X = num32 y) {g : Nat} (w : World) (hb : w.heap[g]? = some (.cells (dgc y) 43 (0,0))) : Calls Tryz.prog 83 #[.slice (some ⟨g,0,none⟩) 32 32] w fun e w' => e = .returned (.tuple #[nv X,.nilIface]) ∧ Ext w w':=by
 subst hX
 exact of_some g 0 32 32 y hy (by decide) w (Array.getElem?_eq_some_iff.1 hb).1 (fun j hj => by rw [Nat.zero_add,cell_of_row w g j _ _ _ hb]; exact zcx _ hj)
theorem mulb_is {K : Nat} (hK : K < top) {P : Pt.Q} (hP : P = Pt.grp.mul K Pt.base) (w : World) : Calls Tryz.prog 53 #[nv K,qv Pt.gx Pt.gy false] w fun e w' => e = .returned (.tuple #[qv (Pt.pX P.1) (Pt.pY P.1) (Pt.pFar P.1),.nilIface]) ∧ Ext w w':=by
 subst hP
 have h:=mul_yes K hK Pt.base w
 unfold qvP at h
 rwa [base_x.1,base_x.2.1,base_x.2.2] at h
theorem eqN0 {X : Nat} (hX : X < top) (h0 : X ≠ 0) (W : World) : (binOp .eql 26 (nv X) (nv 0)).run Tryz.prog W = .ok (.bool false) W:=by
 have e:=zkb hX zce W
 rw [decide_eq_false h0] at e
 exact e
theorem iz_yes (w : World) :
  Calls Tryz.prog 93 #[nv 0] w fun e w' => e = .returned (.bool true) ∧ Ext w w':=by
 unfold nv nc
 go_enter Tryz.func93,Tryz.ntmps93
 go_upto_region 1 with (fail)
 refine zdj fun w1 hx b0 => ?_
 have b0 : w1.heap[w.heap.size]? = some (.cells (nc 0) 26 (0,0)):=b0
 refine' zaq (m:=4) (A:=_) (by kernel_rfl) ?h1 ?h2
 case h1 =>
  refine zaa (nv 0) rfl (zad rfl rfl b0 rfl uN rfl (iN _)) ?_
  refine zaa (nv 0) rfl (zba rfl rfl (bldN0 ·)) ?_;simp only [aP,lA,lZ,lS]
  refine zaa (.bool true) rfl (zew rfl rfl rfl (gN _ _ _ _ _) eqN) ?_
  refine zaa (.bool true) rfl (zap (.inr rfl) rfl) ?_;simp only [aP,lA,lZ,lS]
  exact zan
 refine zau rfl ?_
 intro w2 hE
 replace hx:=hx.trans hE
 clear hE
 go_wp2
 go_ret
 exact ⟨rfl,hx⟩
theorem iz_no {X : Nat} (hX : X < top) (h0 : X ≠ 0) (w : World) :
  Calls Tryz.prog 93 #[nv X] w fun e w' => e = .returned (.bool false) ∧ Ext w w':=by
 have kX:=veil hX
 have k0:=veil h0
 clear h0 hX
 unfold nv nc
 go_enter Tryz.func93,Tryz.ntmps93
 go_upto_region 1 with (fail)
 refine zdj fun w1 hx b0 => ?_
 have b0 : w1.heap[w.heap.size]? = some (.cells (nc X) 26 (0,0)):=b0
 refine' zaq (m:=4) (A:=_) (by kernel_rfl) ?h1 ?h2
 case h1 =>
  refine zaa (nv X) rfl (zad rfl rfl b0 rfl uN rfl (iN _)) ?_
  refine zaa (nv 0) rfl (zba rfl rfl (bldN0 ·)) ?_;simp only [aP,lA,lZ,lS]
  refine zaa (.bool false) rfl (zew rfl rfl rfl (gN _ _ _ _ _) (eqN0 kX.out k0.out ·)) ?_
  refine zaa (.bool false) rfl (zap (.inr rfl) rfl) ?_;simp only [aP,lA,lZ,lS]
  exact zan
 refine zau rfl ?_
 intro w2 hE
 replace hx:=hx.trans hE
 clear hE
 go_wp2
 go_ret
 exact ⟨rfl,hx⟩
theorem iz_is {X : Nat} {b : Bool} (hb : decide (X = 0) = b) (hX : X < top) (w : World) :
  Calls Tryz.prog 93 #[nv X] w fun e w' => e = .returned (.bool b) ∧ Ext w w':=by
 subst hb
 by_cases h : X = 0
 ·
  subst h
  exact iz_yes w
 ·
  rw [decide_eq_false h]
  exact iz_no hX h w
theorem rng_zero (w : World) :
  Calls Tryz.prog 52 #[nv 0] w fun e w' => e = .returned (.bool false) ∧ Ext w w':=by
 unfold nv nc
 go_enter Tryz.func52,Tryz.ntmps52
 go_upto_region 1 with (fail)
 refine zdj fun w1 hx b0 => ?_
 have b0 : w1.heap[w.heap.size]? = some (.cells (nc 0) 26 (0,0)):=b0
 refine' zdb (m:=10) (A:=_) 10 (by kernel_rfl) (by kernel_rfl) ?h1 ?h2
 case h1 =>
  refine zaa (nv 0) rfl (zad rfl rfl b0 rfl uN rfl (iN _)) ?_
  refine zaa (.bool true) rfl (zam (args:=[nv 0]) rfl rfl (fun W => zae Tryz.func93 rfl rfl _ W) (fun W hW => iz_yes W)) ?_;simp only [aP,lA,lZ,lS]
  refine zaa (.bool false) rfl (zfi rfl rfl rfl) ?_
  refine zaa (.bool false) rfl (zap (.inl rfl) rfl) ?_;simp only [aP,lA,lZ,lS]
  refine zcb rfl ?_
  refine zcb rfl ?_;simp only [aP,lA,lZ,lS]
  refine zcb rfl ?_
  refine zcb rfl ?_;simp only [aP,lA,lZ,lS]
  refine zaa (.bool false) rfl (zbu rfl rfl rfl) ?_
  refine zaa (.bool false) rfl (zap (.inr rfl) rfl) ?_;simp only [aP,lA,lZ,lS]
  exact zan
 refine zcj rfl (by kernel_rfl) ?_
 intro w2 hE
 refine NoPanic.normal ?_
 replace hx:=hx.trans hE
 clear hE
 go_wp2
 go_ret
 exact ⟨rfl,hx⟩
theorem rng_in {X : Nat} (hX : X < top) (h0 : X ≠ 0) (hl : X < Pt.nn) (w : World) :
  Calls Tryz.prog 52 #[nv X] w fun e w' => e = .returned (.bool true) ∧ Ext w w':=by
 have kX:=veil hX
 have k0:=veil h0
 have kl:=veil hl
 clear hl h0 hX
 unfold nv nc
 go_enter Tryz.func52,Tryz.ntmps52
 go_upto_region 1 with (fail)
 refine zdj fun w1 hx b0 => ?_
 have b0 : w1.heap[w.heap.size]? = some (.cells (nc X) 26 (0,0)):=b0
 refine' zdb (m:=10) (A:=_) 10 (by kernel_rfl) (by kernel_rfl) ?h1 ?h2
 case h1 =>
  refine zaa (nv X) rfl (zad rfl rfl b0 rfl uN rfl (iN _)) ?_
  refine zaa (.bool false) rfl (zam (args:=[nv X]) rfl rfl (fun W => zae Tryz.func93 rfl rfl _ W) (fun W hW => iz_no kX.out k0.out W)) ?_;simp only [aP,lA,lZ,lS]
  refine zaa (.bool true) rfl (zfi rfl rfl rfl) ?_
  refine zaa (.bool true) rfl (zap (.inl rfl) rfl) ?_;simp only [aP,lA,lZ,lS]
  refine zbe (nv X) rfl (zad rfl rfl b0 rfl uN rfl (iN _)) ?_
  refine zbe (nv Pt.nn) rfl (zam (args:=[]) rfl rfl (fun W => zae Tryz.func95 rfl rfl _ W) (fun W hW => pN_is W)) ?_;simp only [aP,lA,lZ,lS]
  refine zbe (.int .i64 (cmpN X Pt.nn)) rfl (zam (args:=[nv X,nv Pt.nn]) rfl rfl (fun W => zae Tryz.func94 rfl rfl _ W) (fun W hW => zgx X Pt.nn kX.out zcf W)) ?_
  refine zbe (.bool true) rfl (zgt rfl rfl (cmpL kl.out)) ?_;simp only [aP,lA,lZ,lS]
  refine zaa (.bool true) rfl (zbu rfl rfl rfl) ?_
  refine zaa (.bool true) rfl (zap (.inr rfl) rfl) ?_;simp only [aP,lA,lZ,lS]
  exact zan
 refine zcj rfl (by kernel_rfl) ?_
 intro w2 hE
 refine NoPanic.normal ?_
 replace hx:=hx.trans hE
 clear hE
 go_wp2
 go_ret
 exact ⟨rfl,hx⟩
theorem rng_out {X : Nat} (hX : X < top) (h0 : X ≠ 0) (hl : ¬ X < Pt.nn) (w : World) :
  Calls Tryz.prog 52 #[nv X] w fun e w' => e = .returned (.bool false) ∧ Ext w w':=by
 have kX:=veil hX
 have k0:=veil h0
 have kl:=veil hl
 clear hl h0 hX
 unfold nv nc
 go_enter Tryz.func52,Tryz.ntmps52
 go_upto_region 1 with (fail)
 refine zdj fun w1 hx b0 => ?_
 have b0 : w1.heap[w.heap.size]? = some (.cells (nc X) 26 (0,0)):=b0
 refine' zdb (m:=10) (A:=_) 10 (by kernel_rfl) (by kernel_rfl) ?h1 ?h2
 case h1 =>
  refine zaa (nv X) rfl (zad rfl rfl b0 rfl uN rfl (iN _)) ?_
  refine zaa (.bool false) rfl (zam (args:=[nv X]) rfl rfl (fun W => zae Tryz.func93 rfl rfl _ W) (fun W hW => iz_no kX.out k0.out W)) ?_;simp only [aP,lA,lZ,lS]
  refine zaa (.bool true) rfl (zfi rfl rfl rfl) ?_
  refine zaa (.bool true) rfl (zap (.inl rfl) rfl) ?_;simp only [aP,lA,lZ,lS]
  refine zbe (nv X) rfl (zad rfl rfl b0 rfl uN rfl (iN _)) ?_
  refine zbe (nv Pt.nn) rfl (zam (args:=[]) rfl rfl (fun W => zae Tryz.func95 rfl rfl _ W) (fun W hW => pN_is W)) ?_;simp only [aP,lA,lZ,lS]
  refine zbe (.int .i64 (cmpN X Pt.nn)) rfl (zam (args:=[nv X,nv Pt.nn]) rfl rfl (fun W => zae Tryz.func94 rfl rfl _ W) (fun W hW => zgx X Pt.nn kX.out zcf W)) ?_
  refine zbe (.bool false) rfl (zgt rfl rfl (cmpG kl.out)) ?_;simp only [aP,lA,lZ,lS]
  refine zaa (.bool false) rfl (zbu rfl rfl rfl) ?_
  refine zaa (.bool false) rfl (zap (.inr rfl) rfl) ?_;simp only [aP,lA,lZ,lS]
  exact zan
 refine zcj rfl (by kernel_rfl) ?_
 intro w2 hE
 refine NoPanic.normal ?_
 replace hx:=hx.trans hE
 clear hE
 go_wp2
 go_ret
 exact ⟨rfl,hx⟩
theorem rng_is {X : Nat} {b : Bool} (hb : mayB X = b) (hX : X < top) (w : World) :
  Calls Tryz.prog 52 #[nv X] w fun e w' => e = .returned (.bool b) ∧ Ext w w':=by
 subst hb
 unfold mayB
 by_cases h0 : X = 0
 ·
  subst h0
  exact rng_zero w
 ·
  by_cases hl : X < Pt.nn
  ·
   rw [decide_eq_true h0,decide_eq_true hl]
   exact rng_in hX h0 hl w
  ·
   rw [decide_eq_true h0,decide_eq_false hl]
   exact rng_out hX h0 hl w
theorem modulo_calls (w : World) :
  Calls Tryz.prog 86 #[] w fun e w' => (∃ b,e = .returned (ptrTo b) ∧ w.heap.size ≤ b ∧ Fn w' b) ∧ Ext w w':=by
 go_enter Tryz.func86,Tryz.ntmps86
 go_upto_region 1 with (fail)
 have HN:=veil (pN_is w)
 go_wp2_with (first
  | (go_at_call 95; refine HN.out.mono ?_; rintro e w5 ⟨rfl,hb5⟩)
  | (go_at_call 102; refine (new_good Pt.nn nn_odd.1 nn_odd.2 zcf w5).mono ?_; rintro e w6 ⟨⟨b,N,Q,hok,hfb,hge,rfl⟩,hb6⟩))
 go_ret
 exact ⟨⟨b,rfl,Nat.le_trans (Below.size hb5) hge,N,Q,hok,hfb⟩,hb5.trans hb6⟩
theorem numof_calls {y : Nat → Nat} (hy : ∀ j,y j < 256) {X : Nat} (hX : X = num32 y) (w : World) :
  Calls Tryz.prog 90 #[dgv y] w fun e w' => e = .returned (nv X) ∧ Ext w w':=by
 have ky:=veil hy
 have kX:=veil hX
 clear hX hy
 unfold nv nc dgv dgc
 go_enter Tryz.func90,Tryz.ntmps90
 go_upto_region 1 with (fail)
 refine zdy fun w1 hx b0 b1 => ?_
 have b0 : w1.heap[w.heap.size]? = some (.cells (dgc y) 43 (0,0)):=b0
 refine' zaq (m:=5) (A:=_) (by kernel_rfl) ?h1 ?h2
 case h1 =>
  refine zaa (.slice (some ⟨w.heap.size,0,none⟩) 32 32) rfl (made_slice rfl rfl (sliceD _ ·)) ?_
  refine zaa (.tuple #[nv X,.nilIface]) rfl (zam (args:=[.slice (some ⟨w.heap.size,0,none⟩) 32 32]) rfl rfl (fun W => zae Tryz.func83 rfl rfl _ W) (fun W hW => ofl_is ky.out kX.out W (hW.block b0))) ?_;simp only [aP,lA,lZ,lS]
  refine zaa (.tuple #[nv X,.nilIface]) rfl (zap (.inl rfl) rfl) ?_
  refine zaa (nv X) rfl (zcs rfl rfl rfl) ?_;simp only [aP,lA,lZ,lS]
  refine zaa (.nilIface) rfl (zcs rfl rfl rfl) ?_;simp only [aP,lA,lZ,lS]
  exact zan
 refine zeg _ _ rfl rfl rfl rfl rfl rfl rfl (hzN ·) (fun _ => rfl) (fun _ => rfl) (iN _) rfl (zbd _) ?_
 intro gx w2 hgx bx hE
 replace b1:=hE.block b1
 replace hx:=hx.trans hE
 clear hE
 simp only [aP,lA,lZ,lS]
 clear hgx
 go_upto_region 2 with (fail)
 refine' zaq (m:=1) (A:=_) (by kernel_rfl) ?h2a ?h2b
 case h2a =>
  refine zaa (nv X) rfl (zad rfl rfl bx rfl uN rfl (iN _)) ?_;simp only [aP,lA,lZ,lS]
  exact zan
 refine zbr _ rfl rfl rfl rfl rfl rfl b1 (iN _) rfl (zbd _) ?_
 intro w3 hB hb
 go_wp2
 exact bodyPost_ret (results_cell_row rfl _ _ (w.heap.size + 1) 26 (nc X) (0,0) _ rfl hb Tryz.underlying26 rfl (by kernel_rfl)) rfl ⟨rfl,hx.new hB (by omega)⟩
theorem scut_calls {b X Z : Nat} (hZ : Z = X % Pt.nn) (hX : X < top) {w : World} (hF : Fn w b) :
  Calls Tryz.prog 91 #[ptrTo b,nv X] w fun e w' => e = .returned (nv Z) ∧ Ext w w':=by
 have kZ:=veil hZ
 have kX:=veil hX
 clear hX hZ
 unfold nv nc
 go_enter Tryz.func91,Tryz.ntmps91
 go_upto_region 1 with (fail)
 refine zdy fun w1 hx b0 b1 => ?_
 have b0 : w1.heap[w.heap.size]? = some (.cells (nc X) 26 (0,0)):=b0
 have hf:=hF.ext hx
 clear hF
 refine' zaq (m:=4) (A:=_) (by kernel_rfl) ?h1 ?h2
 case h1 =>
  refine zaa (ptrTo b) rfl (zap (.inl rfl) rfl) ?_
  refine zaa (nv X) rfl (zad rfl rfl b0 rfl uN rfl (iN _)) ?_;simp only [aP,lA,lZ,lS]
  refine zaa (nv 0) rfl (zba rfl rfl (bldN0 ·)) ?_
  refine zaa (nv Z) rfl (zam (args:=[ptrTo b,nv X,nv 0]) rfl rfl (fun W => zae Tryz.func104 rfl rfl _ W) (fun W hW => ncut_p kZ.out kX.out (hf.ext hW))) ?_;simp only [aP,lA,lZ,lS]
  exact zan
 refine zbr _ rfl rfl rfl rfl rfl rfl b1 (iN _) rfl (zbd _) ?_
 intro w2 hB hb
 go_wp2
 exact bodyPost_ret (results_cell_row rfl _ _ (w.heap.size + 1) 26 (nc Z) (0,0) _ rfl hb Tryz.underlying26 rfl (by kernel_rfl)) rfl ⟨rfl,hx.new hB (by omega)⟩
theorem maker_calls {D E : Nat} {y : Nat → Nat} (hy : ∀ j,y j < 256) (hE : E = num32 y) (w : World) :
  Calls Tryz.prog 59 #[nv D,dgv y] w fun e w' => (∃ g,e = .returned (mv g D E) ∧ Fn w' g) ∧ Ext w w':=by
 have ky:=veil hy
 have kE:=veil hE
 clear hE hy
 unfold nv nc dgv dgc
 go_enter Tryz.func59,Tryz.ntmps59
 go_upto_region 1 with (fail)
 refine zek fun w1 hx b0 b1 b2 => ?_
 have b0 : w1.heap[w.heap.size]? = some (.cells (nc D) 26 (0,0)):=b0
 have b1 : w1.heap[w.heap.size + 1]? = some (.cells (dgc y) 43 (0,0)):=b1
 have hb0:=(Array.getElem?_eq_some_iff.1 b0).1
 have hb1:=(Array.getElem?_eq_some_iff.1 b1).1
 have hb2:=(Array.getElem?_eq_some_iff.1 b2).1
 refine wp_region_noPanic ?_
 refine wp_region_held_drew (S:=fun W => But (w.heap.size + 1 + 1) w1 W) (by kernel_rfl) (But.of_below (Ext.drew w1)) (fun hH => ?_)
 refine wpAnyH_take (i:=1) (v:=nv D) rfl (by kernel_rfl) (by kernel_rfl) (by decide +kernel) (fun _ _ _ h => h) (yieldsIf_load_mid (by rfl) _ _ rfl _ _ rfl (nc D).toList _ (fun W hW j v hv => by rw [cell_of_row W _ _ (nc D) 26 (0,0) ((hW.block _ hb0 (by intro e; injection e; omega)).trans b0),Nat.zero_add]; simpa using hv) uN rfl (iN D)) hH ?_
 refine wpAnyH_take (i:=2) (v:=dgv y) rfl (by kernel_rfl) (by kernel_rfl) (by decide +kernel) (fun _ _ _ h => h) (yieldsIf_load_mid (by rfl) _ _ rfl _ _ rfl (dgc y).toList _ (fun W hW j v hv => by rw [cell_of_row W _ _ (dgc y) 43 (0,0) ((hW.block _ hb1 (by intro e; injection e; omega)).trans b1),Nat.zero_add]; simpa using hv) Tryz.underlying43 rfl (iDg y)) hH ?_
 refine wpAnyH_ready (rs:=[0]) (by decide +kernel) (by simp) ?_
 refine AllReadyH.cons rfl (fun K hK => ?_) AllReadyH.nil
 go_simp
 refine (modulo_calls _).mono ?_
 rintro e w3 ⟨⟨g,rfl,hg,hF⟩,hE1⟩
 have hX : Ext w1 w3:=(Ext.drew w1).trans hE1
 have hg2 : w1.heap.size ≤ g:=hg
 refine hK.out _ _ (But.of_below hX) (fun hH => ?_)
 clear hK K hE1 hg
 refine wpAnyH_ready (rs:=[3]) (by decide +kernel) (by simp) ?_
 refine AllReadyH.cons rfl (fun K hK => ?_) AllReadyH.nil
 go_simp
 refine (numof_calls ky.out kE.out _).mono ?_
 rintro e w4 ⟨rfl,hE2⟩
 have hF:=hF.ext hE2
 have hX:=hX.trans hE2
 refine hK.out _ _ (But.of_below hX) (fun hH => ?_)
 clear hK K hE2
 refine wpAnyH_take (i:=4) (v:=mv g D E) rfl (by kernel_rfl) (by kernel_rfl) (by decide +kernel) (fun _ _ _ h => h) (zgy (vs:=[(0,ptrTo g),(1,nv D),(2,nv E)]) (by rfl) rfl rfl (fun W => bldM g W D E)) hH ?_
 refine wpAnyH_ready (rs:=[5]) (by decide +kernel) (by simp) ?_
 refine AllReadyH.cons rfl (fun K hK => ?_) AllReadyH.nil
 refine wp_store_row 111 _ _ rfl (w.heap.size + 1 + 1) (mc g D E) rfl rfl 111 _ (hX.block b2) (iMk _ _ _) rfl (mc_one _ _ _) ?_
 have hB:=zda (But.refl (w.heap.size + 1 + 1) w4) (mc g D E)
 have hb:=setRow_heap w4 _ _ (mc g D E) 111 (0,0) (hX.block b2)
 have hF:=hF.but hB (by omega)
 refine hK.out _ _ (zda (But.of_below hX) _) (fun hH => ?_)
 clear hK K
 refine wpAnyH_done (by decide +kernel) ?_ _
 refine NoPanic.normal ?_
 go_wp2
 exact bodyPost_ret (results_cell_row rfl _ _ (w.heap.size + 1 + 1) 111 (mc g D E) (0,0) _ rfl hb Tryz.underlying111 rfl (iMk _ _ _)) rfl ⟨⟨g,rfl,hF⟩,hx.new hH (by omega)⟩
theorem made_all {g D E K x r t u v s : Nat} {b : Bool} (hD : D < top) (hE : E < top) (hK : K ≠ 0 ∧ K < Pt.nn) (hx0 : x < top) (ht : t = Pt.iG Pt.nn K) (hr : r = x % Pt.nn) (hu : u = r * D % Pt.nn) (hv : v = (E % Pt.nn + u % Pt.nn) % Pt.nn) (hs : s = v * t % Pt.nn) (hb0 : (!decide (r = 0) && !decide (s = 0)) = b) {w : World} (hF : Fn w g) :
  Calls Tryz.prog 115 #[mv g D E,nv K,nv x] w fun e w' => e = .returned (.tuple #[gv r s,.bool b]) ∧ Ext w w':=by
 have kKt:=veil (Nat.lt_trans hK.2 zcf)
 have kD:=veil hD
 have kE:=veil hE
 have kK:=veil hK
 have kx0:=veil hx0
 have kt:=veil ht
 have kr:=veil hr
 have ku:=veil hu
 have kv:=veil hv
 have ks:=veil hs
 have kb0:=veil hb0
 clear hb0 hs hv hu hr ht hx0 hK hE hD
 unfold mv mc nv nc
 go_enter Tryz.func115,Tryz.ntmps115
 go_upto_region 1 with (fail)
 refine zih fun w1 hx b0 b1 b2 b3 => ?_
 have b0 : w1.heap[w.heap.size]? = some (.cells (mc g D E) 111 (0,0)):=b0
 have b1 : w1.heap[w.heap.size + 1]? = some (.cells (nc K) 26 (0,0)):=b1
 have b2 : w1.heap[w.heap.size + 1 + 1]? = some (.cells (nc x) 26 (0,0)):=b2
 have hf:=hF.ext hx
 clear hF
 refine' zaq (m:=7) (A:=_) (by kernel_rfl) ?h1 ?h2
 case h1 =>
  refine zaa (ptrTo w.heap.size) rfl (zaf rfl rfl (fldM0 _ ·)) ?_
  refine zaa (ptrTo g) rfl (zak rfl rfl b0 rfl (zjy ·)) ?_;simp only [aP,lA,lZ,lS]
  refine zaa (nv K) rfl (zad rfl rfl b1 rfl uN rfl (iN _)) ?_
  refine zaa (.tuple #[nv t,.nilIface]) rfl (zam (args:=[ptrTo g,nv K]) rfl rfl (fun W => zae Tryz.func87 rfl rfl _ W) (fun W hW => ninv_p kK.out.1 kK.out.2 kt.out (hf.ext hW))) ?_;simp only [aP,lA,lZ,lS]
  refine zaa (.tuple #[nv t,.nilIface]) rfl (zap (.inl rfl) rfl) ?_
  refine zaa (nv t) rfl (zcs rfl rfl rfl) ?_;simp only [aP,lA,lZ,lS]
  refine zaa (.nilIface) rfl (zcs rfl rfl rfl) ?_;simp only [aP,lA,lZ,lS]
  exact zan
 refine zeg _ _ rfl rfl rfl rfl rfl rfl rfl (hzN ·) (fun _ => rfl) (fun _ => rfl) (iN _) rfl (zbd _) ?_
 intro gt w2 hgt bt hE
 replace b0:=hE.block b0
 replace b2:=hE.block b2
 replace b3:=hE.block b3
 replace hf:=hf.ext hE
 replace hx:=hx.trans hE
 clear hE
 simp only [aP,lA,lZ,lS]
 clear hgt
 go_upto_region 2 with (fail)
 refine' zaq (m:=4) (A:=_) (by kernel_rfl) ?h2a ?h2b
 case h2a =>
  refine zaa (ptrTo w.heap.size) rfl (zaf rfl rfl (fldM0 _ ·)) ?_
  refine zaa (ptrTo g) rfl (zak rfl rfl b0 rfl (zjy ·)) ?_;simp only [aP,lA,lZ,lS]
  refine zaa (nv x) rfl (zad rfl rfl b2 rfl uN rfl (iN _)) ?_
  refine zaa (nv r) rfl (zam (args:=[ptrTo g,nv x]) rfl rfl (fun W => zae Tryz.func91 rfl rfl _ W) (fun W hW => scut_calls kr.out kx0.out (hf.ext hW))) ?_;simp only [aP,lA,lZ,lS]
  exact zan
 refine zck _ _ rfl rfl rfl rfl rfl rfl rfl (hzN ·) (fun _ => rfl) (fun _ => rfl) (iN _) rfl (zbd _) ?_
 intro gr w3 hgr br hE
 replace b0:=hE.block b0
 replace b3:=hE.block b3
 replace bt:=hE.block bt
 replace hf:=hf.ext hE
 replace hx:=hx.trans hE
 clear hE
 simp only [aP,lA,lZ,lS]
 clear hgr
 go_upto_region 3 with (fail)
 refine' zbx (m:=15) (A:=_) 16 (by kernel_rfl) (by kernel_rfl) (by kernel_rfl) ?h3a ?h3b
 case h3a =>
  refine zaa (ptrTo w.heap.size) rfl (zaf rfl rfl (fldM0 _ ·)) ?_
  refine zaa (ptrTo g) rfl (zak rfl rfl b0 rfl (zjy ·)) ?_;simp only [aP,lA,lZ,lS]
  refine zaa (ptrTo w.heap.size) rfl (zaf rfl rfl (fldM0 _ ·)) ?_
  refine zaa (ptrTo g) rfl (zak rfl rfl b0 rfl (zjy ·)) ?_;simp only [aP,lA,lZ,lS]
  refine zaa (.pointer (some ⟨w.heap.size,5,none⟩)) rfl (zaf rfl rfl (fldM2 _ ·)) ?_
  refine zaa (nv E) rfl (zad rfl rfl b0 rfl uN rfl (iN _)) ?_;simp only [aP,lA,lZ,lS]
  refine zaa (ptrTo w.heap.size) rfl (zaf rfl rfl (fldM0 _ ·)) ?_
  refine zaa (ptrTo g) rfl (zak rfl rfl b0 rfl (zjy ·)) ?_;simp only [aP,lA,lZ,lS]
  refine zaa (nv r) rfl (zad rfl rfl br rfl uN rfl (iN _)) ?_
  refine zaa (.pointer (some ⟨w.heap.size,1,none⟩)) rfl (zaf rfl rfl (fldM1 _ ·)) ?_;simp only [aP,lA,lZ,lS]
  refine zaa (nv D) rfl (zad rfl rfl b0 rfl uN rfl (iN _)) ?_
  refine zaa (nv u) rfl (zam (args:=[ptrTo g,nv r,nv D]) rfl rfl (fun W => zae Tryz.func89 rfl rfl _ W) (fun W hW => nmul_p ku.out (zcn kr.out) kD.out (hf.ext hW))) ?_;simp only [aP,lA,lZ,lS]
  refine zaa (nv v) rfl (zam (args:=[ptrTo g,nv E,nv u]) rfl rfl (fun W => zae Tryz.func104 rfl rfl _ W) (fun W hW => nadd_p kv.out kE.out (zcn ku.out) (hf.ext hW))) ?_
  refine zaa (nv t) rfl (zad rfl rfl bt rfl uN rfl (iN _)) ?_;simp only [aP,lA,lZ,lS]
  refine zaa (nv s) rfl (zam (args:=[ptrTo g,nv v,nv t]) rfl rfl (fun W => zae Tryz.func89 rfl rfl _ W) (fun W hW => nmul_p ks.out (zcn kv.out) (inv_top kt.out) (hf.ext hW))) ?_;simp only [aP,lA,lZ,lS]
  exact zan
 refine zcm _ _ rfl rfl rfl rfl rfl rfl rfl rfl rfl (by kernel_rfl) (by kernel_rfl) (by kernel_rfl) rfl rfl (hzN ·) (fun _ => rfl) (fun _ => rfl) (iN _) rfl (zbd _) ?_
 intro gs w4 hgs bs hE
 refine NoPanic.normal ?_
 replace b3:=hE.block b3
 replace br:=hE.block br
 replace hf:=hf.ext hE
 replace hx:=hx.trans hE
 clear hE
 simp only [aP,lA,lZ,lS]
 clear hgs
 go_upto_region 4 with (fail)
 have hgr : gr ≠ w.heap.size + 1 + 1 + 1:=by intro e; rw [e,b3] at br; injection br with br; injection br with _ br; exact absurd br (by decide)
 have hgs : gs ≠ w.heap.size + 1 + 1 + 1:=by intro e; rw [e,b3] at bs; injection bs with bs; injection bs with _ bs; exact absurd bs (by decide)
 cases hzr : decide (r = 0) with
 | true =>
  have kzr:=veil hzr
  obtain rfl : b = false:=by rw [← kb0.out,kzr.out]; rfl
  clear hzr
  have hbr:=(Array.getElem?_eq_some_iff.1 br).1
  have hbs:=(Array.getElem?_eq_some_iff.1 bs).1
  have hRlt:=(Array.getElem?_eq_some_iff.1 b3).1
  refine wp_region_noPanic ?_
  have hS:=But.of_below (r:=w.heap.size + 1 + 1 + 1) (Ext.drew w4)
  have hR:=(Ext.drew w4).block b3
  refine wp_region_held_drew (S:=fun W => But (w.heap.size + 1 + 1 + 1) w4 W) (by kernel_rfl) hS (fun hH => ?_)
  refine wpAnyH_take (i:=0) (v:=nv r) rfl (by kernel_rfl) (by kernel_rfl) (by decide +kernel) (fun _ _ _ h => h) (yieldsIf_load_mid (by rfl) _ _ rfl _ _ rfl (nc r).toList _ (fun W hW j v hv => by rw [cell_of_row W _ _ (nc r) 26 (0,0) ((hW.block _ hbr (fun e => hgr (Option.some.inj e))).trans br),Nat.zero_add]; simpa using hv) uN rfl (iN _)) hH ?_
  simp only [Act.put,List.setIfInBounds_toArray,List.set_cons_zero,List.set_cons_succ,List.getElem_toArray,List.getElem_cons_zero]
  refine wpAnyH_take (i:=1) (v:=nv s) rfl (by kernel_rfl) (by kernel_rfl) (by decide +kernel) (fun _ _ _ h => h) (yieldsIf_load_mid (by rfl) _ _ rfl _ _ rfl (nc s).toList _ (fun W hW j v hv => by rw [cell_of_row W _ _ (nc s) 26 (0,0) ((hW.block _ hbs (fun e => hgs (Option.some.inj e))).trans bs),Nat.zero_add]; simpa using hv) uN rfl (iN _)) hH ?_
  simp only [Act.put,List.setIfInBounds_toArray,List.set_cons_zero,List.set_cons_succ,List.getElem_toArray,List.getElem_cons_zero,List.getElem_cons_succ]
  refine wpAnyH_take (i:=2) (v:=gv r s) rfl (by kernel_rfl) (by kernel_rfl) (by decide +kernel) (fun _ _ _ h => h) (zgy (vs:=[(0,nv r),(1,nv s)]) (by rfl) rfl rfl (fun W => bldG W _ _)) hH ?_
  simp only [Act.put,List.setIfInBounds_toArray,List.set_cons_zero,List.set_cons_succ,List.getElem_toArray,List.getElem_cons_zero,List.getElem_cons_succ]
  refine wpAnyH_take (i:=3) (v:=nv r) rfl (by kernel_rfl) (by kernel_rfl) (by decide +kernel) (fun _ _ _ h => h) (yieldsIf_load_mid (by rfl) _ _ rfl _ _ rfl (nc r).toList _ (fun W hW j v hv => by rw [cell_of_row W _ _ (nc r) 26 (0,0) ((hW.block _ hbr (fun e => hgr (Option.some.inj e))).trans br),Nat.zero_add]; simpa using hv) uN rfl (iN _)) hH ?_
  simp only [Act.put,List.setIfInBounds_toArray,List.set_cons_zero,List.set_cons_succ,List.getElem_toArray,List.getElem_cons_zero,List.getElem_cons_succ]
  refine wpAnyH_ready (rs:=[4]) (by decide +kernel) (by simp) ?_
  refine AllReadyH.cons rfl (fun K hK => ?_) AllReadyH.nil
  go_simp
  refine (iz_is kzr.out (zcn kr.out) _).mono ?_
  rintro e v1 ⟨rfl,hE⟩
  have hS:=hS.below hE
  have hR:=hE.block hR
  refine hK.out _ _ hS (fun hH => ?_)
  clear hK K hE
  try simp only [Act.put,List.setIfInBounds_toArray,List.set_cons_zero,List.set_cons_succ,List.getElem_toArray,List.getElem_cons_zero,List.getElem_cons_succ]
  refine wpAnyH_take (i:=5) (v:=.bool false) rfl (by kernel_rfl) (by kernel_rfl) (by decide +kernel) (fun _ _ _ h => h) (Or.inl ⟨by rfl,fun W hSw => (by dsimp only at hSw; go_simp)⟩) hH ?_
  simp only [Act.put,List.setIfInBounds_toArray,List.set_cons_zero,List.set_cons_succ,List.getElem_toArray,List.getElem_cons_zero,List.getElem_cons_succ]
  refine wpAnyH_take (i:=6) (v:=.bool false) rfl (by kernel_rfl) (by kernel_rfl) (by decide +kernel) (fun _ _ _ h => h) (Or.inl ⟨by rfl,fun W hSw => (by dsimp only at hSw; go_simp)⟩) hH ?_
  simp only [Act.put,List.setIfInBounds_toArray,List.set_cons_zero,List.set_cons_succ,List.getElem_toArray,List.getElem_cons_zero,List.getElem_cons_succ]
  refine wpAnyH_take (i:=7) (v:=undef) rfl (by kernel_rfl) (by kernel_rfl) (by decide +kernel) (fun _ _ _ h => h) (Or.inr ⟨by rfl,rfl⟩) hH ?_
  simp only [Act.put,List.setIfInBounds_toArray,List.set_cons_zero,List.set_cons_succ,List.getElem_toArray,List.getElem_cons_zero,List.getElem_cons_succ]
  refine wpAnyH_take (i:=8) (v:=undef) rfl (by kernel_rfl) (by kernel_rfl) (by decide +kernel) (fun _ _ _ h => h) (Or.inr ⟨by rfl,rfl⟩) hH ?_
  simp only [Act.put,List.setIfInBounds_toArray,List.set_cons_zero,List.set_cons_succ,List.getElem_toArray,List.getElem_cons_zero,List.getElem_cons_succ]
  refine wpAnyH_take (i:=9) (v:=undef) rfl (by kernel_rfl) (by kernel_rfl) (by decide +kernel) (fun _ _ _ h => h) (Or.inr ⟨by rfl,rfl⟩) hH ?_
  simp only [Act.put,List.setIfInBounds_toArray,List.set_cons_zero,List.set_cons_succ,List.getElem_toArray,List.getElem_cons_zero,List.getElem_cons_succ]
  refine wpAnyH_take (i:=10) (v:=.bool false) rfl (by kernel_rfl) (by kernel_rfl) (by decide +kernel) (fun _ _ _ h => h) (yif_pickB (by rfl) rfl rfl rfl) hH ?_
  simp only [Act.put,List.setIfInBounds_toArray,List.set_cons_zero,List.set_cons_succ,List.getElem_toArray,List.getElem_cons_zero,List.getElem_cons_succ]
  refine wpAnyH_ready (rs:=[11]) (by decide +kernel) (by simp) ?_
  refine AllReadyH.cons rfl (fun K hK => ?_) AllReadyH.nil
  refine wp_store_row 39 _ _ rfl (w.heap.size + 1 + 1 + 1) (gc r s) rfl rfl 39 _ hR (iSg _ _) (gz_size _ _) (zcp _ _) ?_
  have hR:=setRow_heap _ _ _ (gc r s) 39 (0,0) hR
  have hS:=zda hS (gc r s)
  refine hK.out _ _ hS (fun hH => ?_)
  clear hK K
  refine wpAnyH_ready (rs:=[12]) (by decide +kernel) (by simp) ?_
  refine AllReadyH.cons rfl (fun K hK => ?_) AllReadyH.nil
  go_simp
  refine hK.out _ _ hS (fun hH => ?_)
  clear hK K
  refine wpAnyH_done (by decide +kernel) ?_ _
  refine NoPanic.normal ?_
  go_wp2
  exact bodyPost_ret (zbf rfl _ _ (w.heap.size + 1 + 1 + 1) 39 (gc r s) (0,0) _ rfl hR Tryz.underlying39 rfl (iSg _ _)) rfl ⟨rfl,hx.new hS (by omega)⟩
 | false =>
  cases hzs : decide (s = 0) with
  | true =>
   have kzr:=veil hzr
   have kzs:=veil hzs
   obtain rfl : b = false:=by rw [← kb0.out,kzr.out,kzs.out]; rfl
   clear hzr hzs
   have hbr:=(Array.getElem?_eq_some_iff.1 br).1
   have hbs:=(Array.getElem?_eq_some_iff.1 bs).1
   have hRlt:=(Array.getElem?_eq_some_iff.1 b3).1
   refine wp_region_noPanic ?_
   have hS:=But.of_below (r:=w.heap.size + 1 + 1 + 1) (Ext.drew w4)
   have hR:=(Ext.drew w4).block b3
   refine wp_region_held_drew (S:=fun W => But (w.heap.size + 1 + 1 + 1) w4 W) (by kernel_rfl) hS (fun hH => ?_)
   refine wpAnyH_take (i:=0) (v:=nv r) rfl (by kernel_rfl) (by kernel_rfl) (by decide +kernel) (fun _ _ _ h => h) (yieldsIf_load_mid (by rfl) _ _ rfl _ _ rfl (nc r).toList _ (fun W hW j v hv => by rw [cell_of_row W _ _ (nc r) 26 (0,0) ((hW.block _ hbr (fun e => hgr (Option.some.inj e))).trans br),Nat.zero_add]; simpa using hv) uN rfl (iN _)) hH ?_
   simp only [Act.put,List.setIfInBounds_toArray,List.set_cons_zero,List.set_cons_succ,List.getElem_toArray,List.getElem_cons_zero]
   refine wpAnyH_take (i:=1) (v:=nv s) rfl (by kernel_rfl) (by kernel_rfl) (by decide +kernel) (fun _ _ _ h => h) (yieldsIf_load_mid (by rfl) _ _ rfl _ _ rfl (nc s).toList _ (fun W hW j v hv => by rw [cell_of_row W _ _ (nc s) 26 (0,0) ((hW.block _ hbs (fun e => hgs (Option.some.inj e))).trans bs),Nat.zero_add]; simpa using hv) uN rfl (iN _)) hH ?_
   simp only [Act.put,List.setIfInBounds_toArray,List.set_cons_zero,List.set_cons_succ,List.getElem_toArray,List.getElem_cons_zero,List.getElem_cons_succ]
   refine wpAnyH_take (i:=2) (v:=gv r s) rfl (by kernel_rfl) (by kernel_rfl) (by decide +kernel) (fun _ _ _ h => h) (zgy (vs:=[(0,nv r),(1,nv s)]) (by rfl) rfl rfl (fun W => bldG W _ _)) hH ?_
   simp only [Act.put,List.setIfInBounds_toArray,List.set_cons_zero,List.set_cons_succ,List.getElem_toArray,List.getElem_cons_zero,List.getElem_cons_succ]
   refine wpAnyH_take (i:=3) (v:=nv r) rfl (by kernel_rfl) (by kernel_rfl) (by decide +kernel) (fun _ _ _ h => h) (yieldsIf_load_mid (by rfl) _ _ rfl _ _ rfl (nc r).toList _ (fun W hW j v hv => by rw [cell_of_row W _ _ (nc r) 26 (0,0) ((hW.block _ hbr (fun e => hgr (Option.some.inj e))).trans br),Nat.zero_add]; simpa using hv) uN rfl (iN _)) hH ?_
   simp only [Act.put,List.setIfInBounds_toArray,List.set_cons_zero,List.set_cons_succ,List.getElem_toArray,List.getElem_cons_zero,List.getElem_cons_succ]
   refine wpAnyH_ready (rs:=[4]) (by decide +kernel) (by simp) ?_
   refine AllReadyH.cons rfl (fun K hK => ?_) AllReadyH.nil
   go_simp
   refine (iz_is kzr.out (zcn kr.out) _).mono ?_
   rintro e v1 ⟨rfl,hE⟩
   have hS:=hS.below hE
   have hR:=hE.block hR
   refine hK.out _ _ hS (fun hH => ?_)
   clear hK K hE
   try simp only [Act.put,List.setIfInBounds_toArray,List.set_cons_zero,List.set_cons_succ,List.getElem_toArray,List.getElem_cons_zero,List.getElem_cons_succ]
   refine wpAnyH_take (i:=5) (v:=.bool true) rfl (by kernel_rfl) (by kernel_rfl) (by decide +kernel) (fun _ _ _ h => h) (Or.inl ⟨by rfl,fun W hSw => (by dsimp only at hSw; go_simp)⟩) hH ?_
   simp only [Act.put,List.setIfInBounds_toArray,List.set_cons_zero,List.set_cons_succ,List.getElem_toArray,List.getElem_cons_zero,List.getElem_cons_succ]
   refine wpAnyH_take (i:=6) (v:=.bool true) rfl (by kernel_rfl) (by kernel_rfl) (by decide +kernel) (fun _ _ _ h => h) (Or.inl ⟨by rfl,fun W hSw => (by dsimp only at hSw; go_simp)⟩) hH ?_
   simp only [Act.put,List.setIfInBounds_toArray,List.set_cons_zero,List.set_cons_succ,List.getElem_toArray,List.getElem_cons_zero,List.getElem_cons_succ]
   refine wpAnyH_take (i:=7) (v:=nv s) rfl (by kernel_rfl) (by kernel_rfl) (by decide +kernel) (fun _ _ _ h => h) (yieldsIf_load_mid (by rfl) _ _ rfl _ _ rfl (nc s).toList _ (fun W hW j v hv => by rw [cell_of_row W _ _ (nc s) 26 (0,0) ((hW.block _ hbs (fun e => hgs (Option.some.inj e))).trans bs),Nat.zero_add]; simpa using hv) uN rfl (iN _)) hH ?_
   simp only [Act.put,List.setIfInBounds_toArray,List.set_cons_zero,List.set_cons_succ,List.getElem_toArray,List.getElem_cons_zero,List.getElem_cons_succ]
   refine wpAnyH_ready (rs:=[8]) (by decide +kernel) (by simp) ?_
   refine AllReadyH.cons rfl (fun K hK => ?_) AllReadyH.nil
   go_simp
   refine (iz_is kzs.out (zcn ks.out) _).mono ?_
   rintro e v2 ⟨rfl,hE⟩
   have hS:=hS.below hE
   have hR:=hE.block hR
   refine hK.out _ _ hS (fun hH => ?_)
   clear hK K hE
   try simp only [Act.put,List.setIfInBounds_toArray,List.set_cons_zero,List.set_cons_succ,List.getElem_toArray,List.getElem_cons_zero,List.getElem_cons_succ]
   refine wpAnyH_take (i:=9) (v:=.bool false) rfl (by kernel_rfl) (by kernel_rfl) (by decide +kernel) (fun _ _ _ h => h) (Or.inl ⟨by rfl,fun W hSw => (by dsimp only at hSw; go_simp)⟩) hH ?_
   simp only [Act.put,List.setIfInBounds_toArray,List.set_cons_zero,List.set_cons_succ,List.getElem_toArray,List.getElem_cons_zero,List.getElem_cons_succ]
   refine wpAnyH_take (i:=10) (v:=.bool false) rfl (by kernel_rfl) (by kernel_rfl) (by decide +kernel) (fun _ _ _ h => h) (yif_pickB (by rfl) rfl rfl rfl) hH ?_
   simp only [Act.put,List.setIfInBounds_toArray,List.set_cons_zero,List.set_cons_succ,List.getElem_toArray,List.getElem_cons_zero,List.getElem_cons_succ]
   refine wpAnyH_ready (rs:=[11]) (by decide +kernel) (by simp) ?_
   refine AllReadyH.cons rfl (fun K hK => ?_) AllReadyH.nil
   refine wp_store_row 39 _ _ rfl (w.heap.size + 1 + 1 + 1) (gc r s) rfl rfl 39 _ hR (iSg _ _) (gz_size _ _) (zcp _ _) ?_
   have hR:=setRow_heap _ _ _ (gc r s) 39 (0,0) hR
   have hS:=zda hS (gc r s)
   refine hK.out _ _ hS (fun hH => ?_)
   clear hK K
   refine wpAnyH_ready (rs:=[12]) (by decide +kernel) (by simp) ?_
   refine AllReadyH.cons rfl (fun K hK => ?_) AllReadyH.nil
   go_simp
   refine hK.out _ _ hS (fun hH => ?_)
   clear hK K
   refine wpAnyH_done (by decide +kernel) ?_ _
   refine NoPanic.normal ?_
   go_wp2
   exact bodyPost_ret (zbf rfl _ _ (w.heap.size + 1 + 1 + 1) 39 (gc r s) (0,0) _ rfl hR Tryz.underlying39 rfl (iSg _ _)) rfl ⟨rfl,hx.new hS (by omega)⟩
  | false =>
   have kzr:=veil hzr
   have kzs:=veil hzs
   obtain rfl : b = true:=by rw [← kb0.out,kzr.out,kzs.out]; rfl
   clear hzr hzs
   have hbr:=(Array.getElem?_eq_some_iff.1 br).1
   have hbs:=(Array.getElem?_eq_some_iff.1 bs).1
   have hRlt:=(Array.getElem?_eq_some_iff.1 b3).1
   refine wp_region_noPanic ?_
   have hS:=But.of_below (r:=w.heap.size + 1 + 1 + 1) (Ext.drew w4)
   have hR:=(Ext.drew w4).block b3
   refine wp_region_held_drew (S:=fun W => But (w.heap.size + 1 + 1 + 1) w4 W) (by kernel_rfl) hS (fun hH => ?_)
   refine wpAnyH_take (i:=0) (v:=nv r) rfl (by kernel_rfl) (by kernel_rfl) (by decide +kernel) (fun _ _ _ h => h) (yieldsIf_load_mid (by rfl) _ _ rfl _ _ rfl (nc r).toList _ (fun W hW j v hv => by rw [cell_of_row W _ _ (nc r) 26 (0,0) ((hW.block _ hbr (fun e => hgr (Option.some.inj e))).trans br),Nat.zero_add]; simpa using hv) uN rfl (iN _)) hH ?_
   simp only [Act.put,List.setIfInBounds_toArray,List.set_cons_zero,List.set_cons_succ,List.getElem_toArray,List.getElem_cons_zero]
   refine wpAnyH_take (i:=1) (v:=nv s) rfl (by kernel_rfl) (by kernel_rfl) (by decide +kernel) (fun _ _ _ h => h) (yieldsIf_load_mid (by rfl) _ _ rfl _ _ rfl (nc s).toList _ (fun W hW j v hv => by rw [cell_of_row W _ _ (nc s) 26 (0,0) ((hW.block _ hbs (fun e => hgs (Option.some.inj e))).trans bs),Nat.zero_add]; simpa using hv) uN rfl (iN _)) hH ?_
   simp only [Act.put,List.setIfInBounds_toArray,List.set_cons_zero,List.set_cons_succ,List.getElem_toArray,List.getElem_cons_zero,List.getElem_cons_succ]
   refine wpAnyH_take (i:=2) (v:=gv r s) rfl (by kernel_rfl) (by kernel_rfl) (by decide +kernel) (fun _ _ _ h => h) (zgy (vs:=[(0,nv r),(1,nv s)]) (by rfl) rfl rfl (fun W => bldG W _ _)) hH ?_
   simp only [Act.put,List.setIfInBounds_toArray,List.set_cons_zero,List.set_cons_succ,List.getElem_toArray,List.getElem_cons_zero,List.getElem_cons_succ]
   refine wpAnyH_take (i:=3) (v:=nv r) rfl (by kernel_rfl) (by kernel_rfl) (by decide +kernel) (fun _ _ _ h => h) (yieldsIf_load_mid (by rfl) _ _ rfl _ _ rfl (nc r).toList _ (fun W hW j v hv => by rw [cell_of_row W _ _ (nc r) 26 (0,0) ((hW.block _ hbr (fun e => hgr (Option.some.inj e))).trans br),Nat.zero_add]; simpa using hv) uN rfl (iN _)) hH ?_
   simp only [Act.put,List.setIfInBounds_toArray,List.set_cons_zero,List.set_cons_succ,List.getElem_toArray,List.getElem_cons_zero,List.getElem_cons_succ]
   refine wpAnyH_ready (rs:=[4]) (by decide +kernel) (by simp) ?_
   refine AllReadyH.cons rfl (fun K hK => ?_) AllReadyH.nil
   go_simp
   refine (iz_is kzr.out (zcn kr.out) _).mono ?_
   rintro e v1 ⟨rfl,hE⟩
   have hS:=hS.below hE
   have hR:=hE.block hR
   refine hK.out _ _ hS (fun hH => ?_)
   clear hK K hE
   try simp only [Act.put,List.setIfInBounds_toArray,List.set_cons_zero,List.set_cons_succ,List.getElem_toArray,List.getElem_cons_zero,List.getElem_cons_succ]
   refine wpAnyH_take (i:=5) (v:=.bool true) rfl (by kernel_rfl) (by kernel_rfl) (by decide +kernel) (fun _ _ _ h => h) (Or.inl ⟨by rfl,fun W hSw => (by dsimp only at hSw; go_simp)⟩) hH ?_
   simp only [Act.put,List.setIfInBounds_toArray,List.set_cons_zero,List.set_cons_succ,List.getElem_toArray,List.getElem_cons_zero,List.getElem_cons_succ]
   refine wpAnyH_take (i:=6) (v:=.bool true) rfl (by kernel_rfl) (by kernel_rfl) (by decide +kernel) (fun _ _ _ h => h) (Or.inl ⟨by rfl,fun W hSw => (by dsimp only at hSw; go_simp)⟩) hH ?_
   simp only [Act.put,List.setIfInBounds_toArray,List.set_cons_zero,List.set_cons_succ,List.getElem_toArray,List.getElem_cons_zero,List.getElem_cons_succ]
   refine wpAnyH_take (i:=7) (v:=nv s) rfl (by kernel_rfl) (by kernel_rfl) (by decide +kernel) (fun _ _ _ h => h) (yieldsIf_load_mid (by rfl) _ _ rfl _ _ rfl (nc s).toList _ (fun W hW j v hv => by rw [cell_of_row W _ _ (nc s) 26 (0,0) ((hW.block _ hbs (fun e => hgs (Option.some.inj e))).trans bs),Nat.zero_add]; simpa using hv) uN rfl (iN _)) hH ?_
   simp only [Act.put,List.setIfInBounds_toArray,List.set_cons_zero,List.set_cons_succ,List.getElem_toArray,List.getElem_cons_zero,List.getElem_cons_succ]
   refine wpAnyH_ready (rs:=[8]) (by decide +kernel) (by simp) ?_
   refine AllReadyH.cons rfl (fun K hK => ?_) AllReadyH.nil
   go_simp
   refine (iz_is kzs.out (zcn ks.out) _).mono ?_
   rintro e v2 ⟨rfl,hE⟩
   have hS:=hS.below hE
   have hR:=hE.block hR
   refine hK.out _ _ hS (fun hH => ?_)
   clear hK K hE
   try simp only [Act.put,List.setIfInBounds_toArray,List.set_cons_zero,List.set_cons_succ,List.getElem_toArray,List.getElem_cons_zero,List.getElem_cons_succ]
   refine wpAnyH_take (i:=9) (v:=.bool true) rfl (by kernel_rfl) (by kernel_rfl) (by decide +kernel) (fun _ _ _ h => h) (Or.inl ⟨by rfl,fun W hSw => (by dsimp only at hSw; go_simp)⟩) hH ?_
   simp only [Act.put,List.setIfInBounds_toArray,List.set_cons_zero,List.set_cons_succ,List.getElem_toArray,List.getElem_cons_zero,List.getElem_cons_succ]
   refine wpAnyH_take (i:=10) (v:=.bool true) rfl (by kernel_rfl) (by kernel_rfl) (by decide +kernel) (fun _ _ _ h => h) (yif_pickB (by rfl) rfl rfl rfl) hH ?_
   simp only [Act.put,List.setIfInBounds_toArray,List.set_cons_zero,List.set_cons_succ,List.getElem_toArray,List.getElem_cons_zero,List.getElem_cons_succ]
   refine wpAnyH_ready (rs:=[11]) (by decide +kernel) (by simp) ?_
   refine AllReadyH.cons rfl (fun K hK => ?_) AllReadyH.nil
   refine wp_store_row 39 _ _ rfl (w.heap.size + 1 + 1 + 1) (gc r s) rfl rfl 39 _ hR (iSg _ _) (gz_size _ _) (zcp _ _) ?_
   have hR:=setRow_heap _ _ _ (gc r s) 39 (0,0) hR
   have hS:=zda hS (gc r s)
   refine hK.out _ _ hS (fun hH => ?_)
   clear hK K
   refine wpAnyH_ready (rs:=[12]) (by decide +kernel) (by simp) ?_
   refine AllReadyH.cons rfl (fun K hK => ?_) AllReadyH.nil
   go_simp
   refine hK.out _ _ hS (fun hH => ?_)
   clear hK K
   refine wpAnyH_done (by decide +kernel) ?_ _
   refine NoPanic.normal ?_
   go_wp2
   exact bodyPost_ret (zbf rfl _ _ (w.heap.size + 1 + 1 + 1) 39 (gc r s) (0,0) _ rfl hR Tryz.underlying39 rfl (iSg _ _)) rfl ⟨rfl,hx.new hS (by omega)⟩
theorem mod_aux (n e u i : Nat) : (e % n + u % n % n) % n * i % n = i * ((e % n + u % n) % n) % n:=by rw [Nat.mod_mod,Nat.mul_comm]
theorem sOf_eq {D E K r t u v s : Nat} (ht : t = Pt.iG Pt.nn K) (hr : r = Pt.rOf K) (hu : u = r * D % Pt.nn) (hv : v = (E % Pt.nn + u % Pt.nn) % Pt.nn) (hs : s = v * t % Pt.nn) : s = Pt.sOf D E K:=by
 rw [hs,hv,hu,ht,hr]
 exact mod_aux Pt.nn E (Pt.rOf K * D) (Pt.iG Pt.nn K)
theorem mayB_mod {X M : Nat} (h : X = M % Pt.nn) : mayB X = !decide (X = 0):=by
 unfold mayB
 rw [decide_eq_true (mod_nn h),Bool.and_true]
 by_cases h0 : X = 0 <;> simp [h0]
theorem made_is {g D E K x : Nat} (hD : D < top) (hE : E < top) (hK : mayB K = true) (hx : x = Pt.pX (Pt.grp.mul K Pt.base).1) {r s : Nat} (hr : r = Pt.rOf K) (hs : s = Pt.sOf D E K) {b : Bool} (hb : (mayB r && mayB s) = b) {w : World} (hF : Fn w g) :
  Calls Tryz.prog 115 #[mv g D E,nv K,nv x] w fun e w' => e = .returned (.tuple #[gv r s,.bool b]) ∧ Ext w w':=by
 have hxt : x < top:=by rw [hx]; exact (p_top _).1
 have hr2 : r = x % Pt.nn:=by rw [hr,hx]; rfl
 have hs2 : s = (E % Pt.nn + (r * D % Pt.nn) % Pt.nn) % Pt.nn * Pt.iG Pt.nn K % Pt.nn:=by rw [hs]; exact (sOf_eq rfl hr rfl rfl rfl).symm
 have hK2 : K ≠ 0 ∧ K < Pt.nn:=⟨may_ne hK,zhw hK⟩
 rw [mayB_mod hr2,mayB_mod hs2] at hb
 exact made_all hD hE hK2 hxt rfl hr2 rfl rfl hs2 hb hF
def sgc : Option (Nat × Nat) → Array Value
 | none => gc 0 0
 | some (r,s) => gc r s
theorem sgv_c (o : Option (Nat × Nat)) : sgv o = .agg (sgc o):=by cases o <;> rfl
theorem sgc_one (o : Option (Nat × Nat)) : (sgc o).all (·.oneCell') = true:=by cases o <;> exact zcp _ _
theorem iSo (o : Option (Nat × Nat)) : (Tryz.prog.info? 39).map (·.size) = some (sgc o).size:=by cases o <;> exact iSg _ _
def sge (o : Option (Nat × Nat)) : Value:=if o.isSome then .nilIface else .iface 35 (.int .i64 4)
theorem first_calls {D E g base : Nat} (hD : D < top) (hE : E < top) {xs : List Nat} (hmx : ∀ k ∈ xs,mayB k = true) (h0 : 0 < xs.length) (hn : xs.length ≤ 100) {w : World} {v : Value} (hF : Fn w g) (hO : OwnN w base v xs) :
  Calls Tryz.prog 60 #[mv g D E,v] w fun e w' => e = .returned (.tuple #[sgv (pick D E xs),sge (pick D E xs)]) ∧ Ext w w':=by
 obtain ⟨gL,cap,cur,rfl,bL,hcs⟩:=hO.blk h0
 obtain ⟨n,hnx⟩ : ∃ n,n = xs.length:=⟨_,rfl⟩
 rw [← hnx] at hn h0 ⊢
 have kCS:=veil (And.intro hcs (And.intro hmx hnx))
 have kN:=veil hn
 have kD:=veil hD
 have kE:=veil hE
 clear hO hmx hcs hnx hn hD hE
 unfold mv mc
 go_enter Tryz.func60,Tryz.ntmps60
 go_upto_region 1 with (fail)
 refine zdy fun w1 hx b0 b1 => ?_
 have b0 : w1.heap[w.heap.size]? = some (.cells (mc g D E) 111 (0,0)):=b0
 have hf:=hF.ext hx
 clear hF
 replace bL:=hx.block bL
 have kX:=veil hx
 clear hx h0
 go_wp2
 go_loopw [14] (fun v14 wr => ∃ i : Nat,i ≤ n ∧ v14 = .int .i64 (i : Int) ∧ pick D E xs = pick D E (xs.drop i) ∧ Ext w1 wr)
  (fun v14 _ => n - (intOf v14).toNat)
 case atStart => exact ⟨0,by omega,rfl,rfl,Ext.refl _⟩
 case round =>
  obtain ⟨i,hi,rfl,hpk,hx⟩:=hrel
  replace b0:=hx.block b0
  replace b1:=hx.block b1
  replace bL:=hx.block bL
  replace hf:=hf.ext hx
  by_cases hlt : i < n
  ·
   have hn100 : n ≤ 100:=kN.out
   obtain ⟨K,hK⟩ : ∃ K,xs[i]? = some K:=⟨_,List.getElem?_eq_getElem (by rw [← kCS.out.2.2]; exact hlt)⟩
   have hmK:=kCS.out.2.1 K (List.mem_of_getElem? hK)
   have kK:=veil hmK
   have kil:=veil hlt
   have kcs:=veil (kCS.out.1 i K hK)
   have kdrop:=veil (drop_at hK)
   have kpick:=veil hpk
   obtain ⟨P,hP⟩ : ∃ P,P = Pt.grp.mul K Pt.base:=⟨_,rfl⟩
   have kP:=veil hP
   obtain ⟨r,hr⟩ : ∃ r,r = Pt.rOf K:=⟨_,rfl⟩
   obtain ⟨s,hs⟩ : ∃ s,s = Pt.sOf D E K:=⟨_,rfl⟩
   have kr:=veil hr
   have ks:=veil hs
   have hI : (i : Int) < (n : Int):=by omega
   clear hs hr hP hpk hmK hK
   go_upto_region 3 with (fail)
   refine' zaq (m:=2) (A:=_) (by kernel_rfl) ?h1 ?h2
   case h1 =>
    refine zaa (.pointer (some ⟨gL,i * 4,none⟩)) rfl (zjd (sz:=4) rfl rfl rfl kil.out Tryz.underlying73 infoN4) ?_
    refine zaa (nv K) rfl (zad (cs:=(nc K).toList) rfl rfl bL kcs.out uN rfl (iN K)) ?_;simp only [aP,lA,lZ,lS]
    exact zan
   refine zck _ _ rfl rfl rfl rfl rfl rfl rfl (hzN ·) (fun _ => rfl) (fun _ => rfl) (iN _) rfl (zbd _) ?_
   intro gk w2 hgk bk hE
   replace b0:=hE.block b0
   replace b1:=hE.block b1
   replace hf:=hf.ext hE
   replace hx:=hx.trans hE
   clear hE
   simp only [aP,lA,lZ,lS]
   clear hgk
   go_upto_region 4 with (fail)
   refine' zbx (m:=5) (A:=_) 7 (by kernel_rfl) (by kernel_rfl) (by kernel_rfl) ?h2a ?h2b
   case h2a =>
    refine zaa (nv K) rfl (zad rfl rfl bk rfl uN rfl (iN _)) ?_
    refine zaa (qv Pt.gx Pt.gy false) rfl (zam (args:=[]) rfl rfl (fun W => zae Tryz.func54 rfl rfl _ W) (fun W hW => base_calls W)) ?_;simp only [aP,lA,lZ,lS]
    refine zaa (.tuple #[qv (Pt.pX P.1) (Pt.pY P.1) (Pt.pFar P.1),.nilIface]) rfl (zam (args:=[nv K,qv Pt.gx Pt.gy false]) rfl rfl (fun W => zae Tryz.func53 rfl rfl _ W) (fun W hW => mulb_is (Nat.lt_trans (zhw kK.out) zcf) kP.out W)) ?_
    refine zaa (.tuple #[qv (Pt.pX P.1) (Pt.pY P.1) (Pt.pFar P.1),.nilIface]) rfl (zap (.inl rfl) rfl) ?_;simp only [aP,lA,lZ,lS]
    refine zaa (qv (Pt.pX P.1) (Pt.pY P.1) (Pt.pFar P.1)) rfl (zcs rfl rfl rfl) ?_;simp only [aP,lA,lZ,lS]
    exact zan
   refine rest_var2 (v:=.nilIface) (vx:=.nilIface) _ _ _ _ rfl rfl rfl rfl rfl rfl rfl rfl rfl rfl rfl rfl rfl rfl rfl rfl (by decide) (by kernel_rfl) (by kernel_rfl) (by kernel_rfl) (by kernel_rfl) (by kernel_rfl) (by kernel_rfl) (by kernel_rfl) rfl rfl rfl rfl rfl rfl (hzT ·) (run_ext rfl rfl rfl) (fun _ => run_ext rfl rfl rfl) (fun _ => rfl) (fun _ => rfl) (fun _ => rfl) (fun _ => rfl) (fun _ => rfl) (iT _ _ _) rfl (qc_one _ _ _) ?_
   intro gp w3 hgp bp hE
   refine NoPanic.normal ?_
   replace b0:=hE.block b0
   replace b1:=hE.block b1
   replace bk:=hE.block bk
   replace hf:=hf.ext hE
   replace hx:=hx.trans hE
   clear hE
   simp only [aP,lA,lZ,lS]
   clear hgp
   go_upto_region 5 with (fail)
   cases hb : (mayB r && mayB s) with
   | false =>
    have kb:=veil hb
    clear hb
    refine' zaq (m:=8) (A:=_) (by kernel_rfl) ?h3a ?h3b
    case h3a =>
     refine zaa (mv g D E) rfl (zad rfl rfl b0 rfl Tryz.underlying111 rfl (iMk _ _ _)) ?_
     refine zaa (nv K) rfl (zad rfl rfl bk rfl uN rfl (iN _)) ?_;simp only [aP,lA,lZ,lS]
     refine zaa (ptrTo gp) rfl (zaf rfl rfl (fldT0 _ ·)) ?_
     refine zaa (nv (Pt.pX P.1)) rfl (zad rfl rfl bp rfl uN rfl (iN _)) ?_;simp only [aP,lA,lZ,lS]
     refine zaa (.tuple #[gv r s,.bool false]) rfl (zam (args:=[mv g D E,nv K,nv (Pt.pX P.1)]) rfl rfl (fun W => zae Tryz.func115 rfl rfl _ W) (fun W hW => made_is kD.out kE.out kK.out (by rw [kP.out]) kr.out ks.out kb.out (hf.ext hW))) ?_
     refine zaa (.tuple #[gv r s,.bool false]) rfl (zap (.inl rfl) rfl) ?_;simp only [aP,lA,lZ,lS]
     refine zaa (gv r s) rfl (zcs rfl rfl rfl) ?_
     refine zaa (.bool false) rfl (zcs rfl rfl rfl) ?_;simp only [aP,lA,lZ,lS]
     exact zan
    refine zeg _ _ rfl rfl rfl rfl rfl rfl rfl (hzG ·) (fun _ => rfl) (fun _ => rfl) (iSg _ _) rfl (zcp _ _) ?_
    intro gs w4 hgs bs hE
    replace b0:=hE.block b0
    replace b1:=hE.block b1
    replace bk:=hE.block bk
    replace bp:=hE.block bp
    replace hf:=hf.ext hE
    replace hx:=hx.trans hE
    clear hE
    simp only [aP,lA,lZ,lS]
    clear hgs
    go_wp2
    go_roundw
    case rel =>
     exact ⟨i + 1,by omega,by go_num,by rw [kpick.out,kdrop.out,pick_no (by rw [← kr.out,← ks.out,kb.out])],hx⟩
    case measure => simp [intOf]; omega
   | true =>
    have kb:=veil hb
    clear hb
    refine' zaq (m:=8) (A:=_) (by kernel_rfl) ?h4a ?h4b
    case h4a =>
     refine zaa (mv g D E) rfl (zad rfl rfl b0 rfl Tryz.underlying111 rfl (iMk _ _ _)) ?_
     refine zaa (nv K) rfl (zad rfl rfl bk rfl uN rfl (iN _)) ?_;simp only [aP,lA,lZ,lS]
     refine zaa (ptrTo gp) rfl (zaf rfl rfl (fldT0 _ ·)) ?_
     refine zaa (nv (Pt.pX P.1)) rfl (zad rfl rfl bp rfl uN rfl (iN _)) ?_;simp only [aP,lA,lZ,lS]
     refine zaa (.tuple #[gv r s,.bool true]) rfl (zam (args:=[mv g D E,nv K,nv (Pt.pX P.1)]) rfl rfl (fun W => zae Tryz.func115 rfl rfl _ W) (fun W hW => made_is kD.out kE.out kK.out (by rw [kP.out]) kr.out ks.out kb.out (hf.ext hW))) ?_
     refine zaa (.tuple #[gv r s,.bool true]) rfl (zap (.inl rfl) rfl) ?_;simp only [aP,lA,lZ,lS]
     refine zaa (gv r s) rfl (zcs rfl rfl rfl) ?_
     refine zaa (.bool true) rfl (zcs rfl rfl rfl) ?_;simp only [aP,lA,lZ,lS]
     exact zan
    refine zeg _ _ rfl rfl rfl rfl rfl rfl rfl (hzG ·) (fun _ => rfl) (fun _ => rfl) (iSg _ _) rfl (zcp _ _) ?_
    intro gs w4 hgs bs hE
    replace b1:=hE.block b1
    replace hf:=hf.ext hE
    replace hx:=hx.trans hE
    clear hE
    simp only [aP,lA,lZ,lS]
    clear hgs
    go_upto_region 7 with (fail)
    refine' zaq (m:=1) (A:=_) (by kernel_rfl) ?h5a ?h5b
    case h5a =>
     refine zaa (gv r s) rfl (zad rfl rfl bs rfl Tryz.underlying39 rfl (iSg _ _)) ?_;simp only [aP,lA,lZ,lS]
     exact zan
    refine zdk _ rfl rfl rfl rfl rfl rfl b1 (iSg _ _) rfl (zcp _ _) ?_
    intro w5 hB hb
    go_wp2
    have hmm:=kb.out
    rw [kr.out,ks.out,Bool.and_eq_true] at hmm
    have hpk : pick D E xs = some (r,s):=by rw [kpick.out,kdrop.out,kr.out,ks.out]; exact pick_yes hmm.1 hmm.2
    clear hmm
    rw [hpk]
    exact bodyPost_ret (zbf rfl _ _ (w.heap.size + 1) 39 (gc r s) (0,0) _ rfl hb Tryz.underlying39 rfl (iSg _ _)) rfl ⟨rfl,(kX.out.trans hx).new hB (by omega)⟩
  ·
   obtain rfl : i = n:=by omega
   have hpk : pick D E xs = none:=by rw [hpk,List.drop_eq_nil_of_le (by rw [← kCS.out.2.2]; exact Nat.le_refl _)]; rfl
   have kpk:=veil hpk
   clear hpk hi hlt
   go_upto_region 9 with (fail)
   refine' zaq (m:=2) (A:=_) (by kernel_rfl) ?h6a ?h6b
   case h6a =>
    refine zaa (gv 0 0) rfl (zba rfl rfl (bldG0 ·)) ?_
    refine zaa (.iface 35 (.int .i64 4)) rfl (made_iface rfl (mkErr4 ·)) ?_;simp only [aP,lA,lZ,lS]
    exact zan
   refine zdk _ rfl rfl rfl rfl rfl rfl b1 (iSg _ _) rfl (zcp _ _) ?_
   intro w2 hB hb
   go_wp2
   rw [kpk.out]
   exact bodyPost_ret (zbf rfl _ _ (w.heap.size + 1) 39 (gc 0 0) (0,0) _ rfl hb Tryz.underlying39 rfl (iSg _ _)) rfl ⟨rfl,(kX.out.trans hx).new hB (by omega)⟩
end Go.Proofs.YtedehdbajiaaiaaGreatDoor
