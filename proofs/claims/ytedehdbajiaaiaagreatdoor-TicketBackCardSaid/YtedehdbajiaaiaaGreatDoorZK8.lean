/-
  Of N1 Parts N2 M3 NK Bytes G8 G9 Q7 Q3 Q4 Q9 Bit Len Q10 PS S0 S3 NL RBytes S4 V0.
-/
import Derived.Deep.RegionHeld3
import Derived.Test.YtedehdbajiaaiaaGreatDoorRows
import Derived.WalkKit
import Derived.WalkSpells
import Derived.WalkLawsBesides
import Derived.Deep.LoopGhost
import Derived.Deep.CutRange
import Derived.Deep.CutBlock
import Derived.Deep.RegionWith
import Derived.Deep.QuietTactic
import Derived.BigQuiet
import Derived.Deep.Cut
import Derived.BigRegion
import Derived.Deep.MidRow
import Derived.Laws.OwnMore
import Derived.Deep.AppendLies
import Derived.Test.YtedehdbajiaaiaaGreatDoorZK7
import Derived.Test.YtedehdbajiaaiaaGreatDoorZK1
import Derived.Test.YtedehdbajiaaiaaGreatDoorZK5
import Derived.Test.YtedehdbajiaaiaaGreatDoorZK4
import Derived.Test.YtedehdbajiaaiaaGreatDoorZK3
import Derived.Test.YtedehdbajiaaiaaGreatDoorZK6
import Derived.Test.YtedehdbajiaaiaaGreatDoorZK2
set_option maxRecDepth 1000000
set_option maxHeartbeats 20000000
namespace Go.Proofs.YtedehdbajiaaiaaGreatDoor
open Go.RowKit
open Go.Value renaming int → vI
open Go.IntKind renaming u64 → vU
open Go.Act renaming put → aP
open List renaming setIfInBounds_toArray → lA, set_cons_zero → lZ, set_cons_succ → lS
def nb (k : Nat → Nat) (n : Nat) (t : Nat → Nat) (m : Nat) : Nat → Nat:=fun j => dByte (shaSt (macOut k n t m) 96) j
theorem nb_lt (k : Nat → Nat) (n : Nat) (t : Nat → Nat) (m j : Nat) : nb k n t m j < 256:=Nat.mod_lt _ (by decide)
theorem macD_nb (k : Nat → Nat) (n : Nat) (t : Nat → Nat) (m : Nat) : macD k n t m = arrOf 32 (fun i => .int .u8 (nb k n t m i : Nat)):=rfl
theorem infoInt : (Tryz.prog.info? 3).map (fun i => (i.zero,i.size,i.bytes)) = some (some (.int .i64 0),1,8):=by kernel_rfl
def ptv (X j : Nat) : Value:=.int .i64 (pt X j)
theorem ptL_succ (X m : Nat) : (List.range (m + 1)).map (ptv X) = (List.range m).map (ptv X) ++ [.int .i64 (pt X m)]:=by
 rw [List.range_succ,List.map_append]; rfl
theorem parts_any (X : Nat) (w : World) :
  Calls Tryz.prog 67 #[.agg #[vI vU (wd X 0),vI vU (wd X 1),vI vU (wd X 2),vI vU (wd X 3)]] w fun e w' => ∃ v,e = .returned v ∧ w'.ownsRow (w.heap.size + 1) 3 1 v 16 ((List.range 16).map (ptv X)) ∧ Below w.heap.size w w':=by
 obtain ⟨i0,hi,hz0,hz1,hz2⟩:=info_parts infoInt
 go_enter Tryz.func67,Tryz.ntmps67
 go_wp2
 go_loopw [3,4] (fun v i wr => ∃ k : Nat,k ≤ 4 ∧ i = .int .i64 k ∧ wr.ownsRow (w.heap.size + 1) 3 1 v (4 * k) ((List.range (4 * k)).map (ptv X)) ∧ wr.rowIs w.heap.size 26 4 (fun j => .int .u64 (wd X j)) ∧ Below w.heap.size w wr)
  (fun _ i _ => 4 - (intOf i).toNat)
 case atStart => exact ⟨0,by omega,rfl,World.ownsRow_nil _ _ _ _,zan (n:=4) (by simp) rfl (arr4 fun j => .int .u64 (wd X j)),(Below.refl _ _).alloc (by simp) _⟩
 case round =>
  obtain ⟨i,hi4,rfl,hown,hR,hbel⟩:=hrel
  by_cases hlt : i < 4
  ·
   have c1:=hR.cell hlt
   have hd : decide ((i : Int) < 4) = true:=by simp; omega
   go_wp2
   clear c1
   obtain ⟨wo,hwo⟩ : ∃ wo : World,wo = wr:=⟨_,rfl⟩
   rw [← hwo] at hown hR hbel ⊢
   clear hwo
   go_loopw [3,5,6] (fun v q k wq => ∃ m : Nat,m ≤ 4 ∧ k = .int .i64 m ∧ q = .int .u64 (wk X i m) ∧ wq.ownsRow (w.heap.size + 1) 3 1 v (4 * i + m) ((List.range (4 * i + m)).map (ptv X)) ∧ wq.rowIs w.heap.size 26 4 (fun j => .int .u64 (wd X j)) ∧ Below w.heap.size w wq)
    (fun _ _ k _ => 4 - (intOf k).toNat)
   case atStart => exact ⟨0,by omega,rfl,by rw [wk_zero],hown,hR,hbel⟩
   case round =>
    obtain ⟨m,hm4,rfl,rfl,hown,hR,hbel⟩:=hrel
    have hq:=wk_lo X i m
    have hq2:=wk_le X i m
    by_cases hlm : m < 4
    ·
     have hsz:=hR.lt
     go_wp2_with (at_builtin; refine wpList_append_own _ rfl _ _ 70 rfl (w.heap.size + 1) 3 i0 (.int .i64 0) 1 8 Tryz.underlying70 hi hz0 hz1 hz2 rfl (by decide) _ _ _ rfl (hown.alloc _) ⟨wr.heap.size,0,none⟩ 1 1 [.int .i64 (wk X i m % 65536)] rfl rfl ?c1 ?c2 ?c3 ?c4 ?c5 ?_)
     case c1 =>
      intro j u hj
      match j,hj with
      | 0,hj => simp at hj; subst hj; simp [Addr.add]
     case c2 => intro u hu; simp at hu; subst hu; rfl
     case c3 => unfold maxLen; omega
     case c4 => omega
     case c5 => simp; omega
     intro v' w1 hown' hgrow _
     rw [wk_pt X i m hlm,← ptL_succ] at hown'
     have hR1:=row_grown (hR.alloc _) hgrow (fun e => by have:=(hown.lt _ e.symm).1; omega)
     have hb1:=(hbel.alloc (by omega) _).grown hgrow (by simp; omega) (fun k e => by have:=(hown.lt _ e).1; omega)
     clear hown hgrow hR hbel
     go_wp2
     go_roundw
     case rel => exact ⟨m + 1,by omega,by go_num,by rw [wk_succ],hown',hR1,hb1⟩
     case measure => simp [intOf]; omega
    ·
     obtain rfl : m = 4:=by omega
     go_wp2
     go_roundw
     case rel => exact ⟨i + 1,by omega,by go_num,by rw [show 4 * (i + 1) = 4 * i + 4 by omega]; exact hown,hR,hbel⟩
     case measure => simp [intOf]; omega
  ·
   obtain rfl : i = 4:=by omega
   go_wp2
   go_ret
   exact ⟨_,rfl,hown,hbel⟩
theorem parts_calls (X : Nat) (w : World) :
  Calls Tryz.prog 67 #[.agg #[vI vU (wd X 0),vI vU (wd X 1),vI vU (wd X 2),vI vU (wd X 3)]] w fun e w' => ∃ g cap,e = .returned (.slice (some ⟨g,0,none⟩) 16 cap) ∧ w.heap.size ≤ g ∧ Pre w' g 3 16 (ptv X) ∧ Below w.heap.size w w':=by
 refine (parts_any X w).mono ?_
 rintro e w' ⟨v,rfl,hown,hb⟩
 obtain ⟨g,cap,rfl,_,hg,hp⟩:=Pre.of_own hown (by omega)
 exact ⟨g,cap,rfl,by omega,hp,hb⟩
theorem zdp : Pt.nn < top:=by decide +kernel
theorem nn_words : wd Pt.nn 0 = 17562291160714782033 ∧ wd Pt.nn 1 = 13611842547513532036 ∧ wd Pt.nn 2 = 18446744073709551615 ∧ wd Pt.nn 3 = 18446744069414584320:=by decide +kernel
theorem neN0 {X : Nat} (hX : X < top) (h0 : X ≠ 0) (W : World) : (binOp .neq 26 (nv X) (nv 0)).run Tryz.prog W = .ok (.bool true) W:=by
 have e:=eql_num hX zdq W
 rw [decide_eq_false h0] at e
 exact neq_of e rfl
section
variable {P : Program} {o : Oper} {a : Act} {w : World}
theorem ziy {x : Operand} {ty ty2 : TypeId} {c : Int} {v : Bool} (ho : o.op = .binOp .lss ty x (.const (.int .i64 0)) ty2) (hx : a.eval x = .int .i64 c) (hv : decide (c < 0) = v) : Made P o (.bool v) a w:=zcd fun W _ => by
 have h0 : a.eval (.const (.int .i64 0)) = .int .i64 0:=rfl
 unfold execOp
 simp only [ho]
 generalize a.eval = ρ at *
 subst hv
 rw [hx,h0]
 simp [go_sem,eqGuard]
end
theorem cmpL {X Y : Nat} (h : X < Y) : decide (cmpN X Y < 0) = true:=by unfold cmpN; rw [if_pos h]; rfl
theorem cmpG {X Y : Nat} (h : ¬ X < Y) : decide (cmpN X Y < 0) = false:=by
 unfold cmpN
 rw [if_neg h]
 split <;> rfl
def mayB (X : Nat) : Bool:=decide (X ≠ 0) && decide (X < Pt.nn)
theorem cat_assoc (a b c : Nat → Nat) (n m : Nat) : cat (cat a n b) (n + m) c = cat a n (cat b m c):=by
 funext i
 unfold cat
 by_cases h1 : i < n
 ·
  have h2 : i < n + m:=by omega
  simp only [h1,h2,if_true]
 ·
  by_cases h2 : i < n + m
  ·
   have h3 : i - n < m:=by omega
   simp only [h1,h2,h3,if_true,if_false]
  ·
   have h3 : ¬ i - n < m:=by omega
   simp only [h1,h2,h3,if_false]
   congr 1; omega
theorem lenN_mono {L : Nat → Nat} {i j : Nat} (h : i ≤ j) : lenN L i ≤ lenN L j:=by
 induction j with
 | zero =>
      obtain rfl : i = 0:=by omega
      exact Nat.le_refl _
 | succ j ih =>
  by_cases e : i = j + 1
  ·
   subst e; exact Nat.le_refl _
  ·
   have:=ih (by omega)
   show _ ≤ lenN L j + L j
   omega
theorem Parts3.call {W W' : World} {AL : Option Addr} {nl : Nat} {A : Nat → Option Addr} {L C : Nat → Nat} {Y : Nat → Nat → Nat} (h : Parts3 W AL nl A L C Y) (hb : Below W.heap.size W W') : Parts3 W' AL nl A L C Y where
 row:=h.row.imp id fun ⟨b,o,e,hlt,hc⟩ => ⟨b,o,e,by have:=hb.size; omega,fun r hr => (hb.cell (p:=⟨b,o + r,none⟩) hlt).trans (hc r hr)⟩
 src:=fun r hr => ((h.src r hr).at (g':=W'.heap.size) hb.size).below hb
 cap:=h.cap
 lt:=h.lt
theorem zix (k : Nat → Nat) (hk : ∀ j,k j < 256) (x : Nat) (hx : x < 256) (AL : Option Addr) (nl cl : Nat) (A : Nat → Option Addr) (L C : Nat → Nat) (Y : Nat → Nat → Nat) (hnl : nl ≤ 100000) (hT : lenN L nl ≤ 100000) (w : World) (hK : KT w) (hP : Parts3 w AL nl A L C Y) :
  Calls Tryz.prog 167 #[.agg (arrOf 64 fun j => .int .u8 (k j : Nat)),.int .u8 (x : Int),.slice AL nl cl] w fun e w' => e = .returned (.agg (dgst (cat (fun j => k j ^^^ x) 64 (textN L Y nl)) (64 + lenN L nl))) ∧ Below w.heap.size w w':=by
 obtain ⟨F,hF⟩ : ∃ F,F = arrOf 64 fun j => Value.int .u8 (k j : Nat):=⟨_,rfl⟩
 rw [← hF]
 have HF:=veil hF
 have HK:=veil hK
 have HP:=veil hP
 have HX:=veil (And.intro hx hk)
 have HT:=veil hT
 have hg0:=hK.lt
 clear hF hK hP hx hk hT
 go_enter Tryz.func167,Tryz.ntmps167
 go_upto_region 1 with (fail)
 rw [zeros32]
 have hB0 : (w.alloc (.cells F 161)).rowIs w.heap.size 161 64 (fun j => Value.int .u8 (k j : Nat)):=by rw [HF.out]; exact zbz w 64 161 _ rfl
 have hb0 : Below w.heap.size w (w.alloc (.cells F 161)):=(Below.refl _ _).alloc (Nat.le_refl _) _
 have hz0 : (w.alloc (.cells F 161)).heap.size = w.heap.size + 1:=by simp
 generalize w.alloc (.cells F 161) = w0 at *
 have hR1:=zbz w0 32 43 (fun _ => Value.int .u8 0) rfl
 rw [hz0] at hR1
 have hB1:=hB0.alloc (.cells (arrOf 32 (fun _ => .int .u8 0)) 43)
 have hb1:=hb0.alloc hb0.size (.cells (arrOf 32 (fun _ => .int .u8 0)) 43)
 generalize w0.alloc (.cells (arrOf 32 (fun _ => .int .u8 0)) 43) = w1 at *
 clear hB0 hb0 hz0
 go_wp2
 go_loopw [11] (fun v wr => ∃ i : Nat,i ≤ 64 ∧ v = .int .i64 (i : Int) ∧ wr.rowIs w.heap.size 161 64 (fun j => .int .u8 ((if j < i then k j ^^^ x else k j : Nat) : Int)) ∧ wr.rowIs (w.heap.size + 1) 43 32 (fun _ => .int .u8 0) ∧ Below w.heap.size w wr)
  (fun v _ => 64 - (intOf v).toNat)
 case atStart => exact ⟨0,by omega,rfl,hB1,hR1,hb1⟩
 case round =>
  obtain ⟨i,hi,rfl,hRB,hR,hB⟩:=hrel
  by_cases hlt : i < 64
  ·
   obtain ⟨c,hc⟩ : ∃ c,c = k i:=⟨_,rfl⟩
   have c0:=hRB.cell hlt
   have f0:=hRB.frozen i
   rw [if_neg (Nat.lt_irrefl i),← hc] at c0
   have hxor:=xor8 c x (by rw [hc]; exact HX.out.2 i) HX.out.1
   have HC:=veil hc
   clear hc
   go_wp2
   go_roundw
   case rel =>
    refine ⟨i + 1,by omega,by go_num,(hRB.set i _).congr fun q hq => ?_,zbp hR (by omega) _,zav hB (Nat.le_refl _) _⟩
    by_cases h : q = i
    ·
     rw [if_pos h,if_pos (by omega),HC.out,h]
    ·
     rw [if_neg h]
     by_cases h2 : q < i
     ·
      rw [if_pos h2,if_pos (by omega)]
     ·
      rw [if_neg h2,if_neg (by omega)]
   case measure => simp [intOf]; omega
  ·
   have e64 : i = 64:=by omega
   have hRB : wr.rowIs w.heap.size 161 64 (fun j => .int .u8 ((k j ^^^ x : Nat) : Int)):=hRB.congr fun p hp => by rw [if_pos (by omega)]
   have hd : decide ((i : Int) < 64) = false:=by simp; omega
   clear e64 hlt hi
   go_wp2_with fail
   refine (new_calls wr).mono ?_
   rintro e w2 ⟨rfl,hC,hb2⟩
   have hRB2:=zag hRB hb2 hRB.lt
   have hR2:=zag hR hb2 hR.lt
   have hB2:=hB.trans (hb2.mono hB.size)
   have hC2:=hC (fun _ => 0)
   have hgH:=hC2.lt
   have hHR:=hR.lt
   generalize wr.heap.size = gH at *
   clear hRB hR hB hC hb2
   have hS2 : Src w2 (some ⟨w.heap.size,0,none⟩) 64 (fun j => k j ^^^ x) gH:=.inr ⟨_,0,rfl,hRB2.lt,by omega,fun j hj => by rw [Nat.zero_add]; exact hRB2.cell hj⟩
   go_wp2_with fail
   refine (zfi gH (fun _ => 0) 0 _ 64 64 (fun j => k j ^^^ x) (fun j => xor8_lt (HX.out.2 j) HX.out.1) (by decide) (by decide) (by omega) w2 (zff HK.out hB2) hC2 hS2).mono ?_
   rintro e w3 ⟨rfl,hH3,hb3⟩
   rw [Nat.zero_add,zhf] at hH3
   have hR3:=zeq hR2 hb3 (by omega)
   have hB3:=but_below hB2 hb3 (by omega)
   clear hRB2 hR2 hB2 hC2 hS2 hb3
   have hH3 : HashIs w3 gH (cat (fun j => k j ^^^ x) 64 (textN L Y 0)) (64 + lenN L 0):=hH3.congr fun i hi => by unfold cat; rw [if_pos hi]
   go_wp2
   go_loopw [27] (fun v wr => ∃ i : Nat,i ≤ nl ∧ v = .int .i64 (i : Int) ∧ HashIs wr gH (cat (fun j => k j ^^^ x) 64 (textN L Y i)) (64 + lenN L i) ∧ wr.rowIs (w.heap.size + 1) 43 32 (fun _ => .int .u8 0) ∧ Below w.heap.size w wr)
    (fun v _ => nl - (intOf v).toNat)
   case atStart => exact ⟨0,by omega,rfl,hH3,hR3,hB3⟩
   case round =>
    obtain ⟨i,hi,rfl,hH,hR,hB⟩:=hrel
    by_cases hlt : i < nl
    ·
     have hd2 : decide ((i : Int) < (nl : Int)) = true:=by simp; omega
     have hd1 : decide (i < nl) = true:=by simp; omega
     have hii : (i : Int) < (nl : Int):=by omega
     obtain ⟨bl,ol,hAL,hbl,hcl⟩:=HP.out.row.resolve_left (by omega)
     have cr : wr.cell? ⟨bl,ol + i,none⟩ = some (.slice (A i) (L i) (C i)):=(hB.cell (p:=⟨bl,ol + i,none⟩) hbl).trans (hcl i hlt)
     clear hcl
     subst hAL
     go_wp2_with fail
     have hL1:=lenN_mono (L:=L) (show i + 1 ≤ nl by omega)
     have hT:=HT.out
     have hL2 : lenN L (i + 1) = lenN L i + L i:=rfl
     refine (zfi gH _ (64 + lenN L i) (A i) (L i) (C i) (Y i) (HP.out.lt i) (HP.out.cap i hlt) (by omega) (by omega) wr (zff HK.out hB) hH (src_now (HP.out.src i hlt) hB (by omega))).mono ?_
     rintro e w4 ⟨rfl,hH4,hb4⟩
     rw [cat_assoc,Nat.add_assoc] at hH4
     have hH5 : HashIs w4 gH (cat (fun j => k j ^^^ x) 64 (textN L Y (i + 1))) (64 + lenN L (i + 1)):=hH4
     clear hH4
     have hR4:=zeq hR hb4 (by omega)
     have hB4:=but_below hB hb4 (by omega)
     clear hR hB hH hb4 cr hT hL1 hL2
     go_wp2
     go_roundw
     case rel => exact ⟨i + 1,by omega,by go_num,hH5,hR4,hB4⟩
     case measure => simp [intOf]; omega
    ·
     obtain rfl : i = nl:=by omega
     go_wp2_with fail
     have hT:=HT.out
     refine (hsum_calls gH _ _ (by omega) wr (zff HK.out hB) hH).mono ?_
     rintro e w4 ⟨rfl,hb4⟩
     have hR4:=zag hR hb4 hR.lt
     have hB4:=hB.trans (hb4.mono hB.size)
     obtain ⟨y,hy⟩ : ∃ y,y = cat (fun j => k j ^^^ x) 64 (textN L Y i):=⟨_,rfl⟩
     obtain ⟨n,hn⟩ : ∃ n,n = 64 + lenN L i:=⟨_,rfl⟩
     rw [← hy,← hn]
     have HN:=veil (blkOf hR4)
     have HZ:=veil (And.intro (zca y n) (And.intro (show (dgst y n).all (·.oneCell') = true from zbw fun _ _ => rfl) (show (Tryz.prog.info? 43).map (·.size) = some (dgst y n).size by rw [zca]; exact infoD)))
     obtain ⟨D,hD⟩ : ∃ D,D = dgst y n:=⟨_,rfl⟩
     rw [← hD] at HZ ⊢
     have HD:=veil (show D = dgst (cat (fun j => k j ^^^ x) 64 (textN L Y i)) (64 + lenN L i) by rw [hD,hy,hn])
     clear hD hR4 hR hB hH hb4 hy hn hT hH3 hR3 hB3
     go_wp2_with ((with_reducible refine zaw ?_); refine wpList_store_row rfl 43 _ _ rfl (w.heap.size + 1) D rfl rfl 43 _ HN.out HZ.out.2.2 (by rw [HZ.out.1,zba]) HZ.out.2.1 ?_)
     exact bodyPost_ret (results_cell_row rfl _ _ (w.heap.size + 1) 43 D (0,0) _ rfl (setRow_heap w4 (w.heap.size + 1) _ D 43 (0,0) HN.out) Tryz.underlying43 rfl HZ.out.2.2) rfl ⟨by rw [HD.out],zcy hB4 (by omega) _⟩
structure KV where
 k : Nat → Nat
 v : Nat → Nat
structure KV.Ok (s : KV) : Prop where
 k : ∀ j,s.k j < 256
 v : ∀ j,s.v j < 256
def num32 (y : Nat → Nat) : Nat:=lev (fun k => y (32 - 1 - k)) 32
theorem zgv {y : Nat → Nat} (hy : ∀ j,y j < 256) : num32 y < top:=by
 have h:=lev_lt (z:=fun k => y (32 - 1 - k)) (fun j => hy _) 32
 have e : 256 ^ 32 = top:=by decide +kernel
 unfold num32
 omega
def tx (v : Nat → Nat) (b : Nat) (t : Nat → Nat) : Nat → Nat:=cat v 32 (cat (fun _ => b) 1 t)
def KV.step (s : KV) : KV:=⟨s.k,nb s.k 32 s.v 32⟩
def KV.mix (s : KV) (b : Nat) (t : Nat → Nat) (m : Nat) : KV:=KV.step ⟨nb s.k 32 (tx s.v b t) (33 + m),s.v⟩
def none0 : Nat → Nat:=fun _ => 0
def KV.next (s : KV) : KV:=s.step.mix 0 none0 0
theorem KV.Ok.step {s : KV} (h : s.Ok) : s.step.Ok:=⟨h.k,fun j => nb_lt _ _ _ _ j⟩
theorem KV.Ok.mix {s : KV} (_h : s.Ok) (b : Nat) (t : Nat → Nat) (m : Nat) : (s.mix b t m).Ok:=⟨fun j => nb_lt _ _ _ _ j,fun j => nb_lt _ _ _ _ j⟩
theorem KV.Ok.next {s : KV} (h : s.Ok) : s.next.Ok:=h.step.mix _ _ _
def kv0 : KV:=⟨fun _ => 0,fun _ => 1⟩
theorem kv0_ok : kv0.Ok:=⟨fun _ => by show (0 : Nat) < 256; decide,fun _ => by show (1 : Nat) < 256; decide⟩
def be (X j : Nat) : Nat:=dg 256 X (31 - j)
theorem be_lt (X j : Nat) : be X j < 256:=Nat.mod_lt _ (by decide)
def two (D M : Nat) : Nat → Nat:=cat (be D) 32 (be M)
def kvS (D M : Nat) : KV:=(kv0.mix 0 (two D M) 64).mix 1 (two D M) 64
def kvN (D M : Nat) : Nat → KV
 | 0 => kvS D M
 | i + 1 => (kvN D M i).next
theorem kvN_ok (D M : Nat) : ∀ i,(kvN D M i).Ok
 | 0 => (kv0_ok.mix _ _ _).mix _ _ _
 | i + 1 => (kvN_ok D M i).next
def numN (D M i : Nat) : Nat:=num32 (kvN D M i).step.v
theorem numN_lt (D M i : Nat) : numN D M i < top:=zgv (kvN_ok D M i).step.v
def outN (D M : Nat) : Nat → List Nat
 | 0 => []
 | i + 1 => if mayB (numN D M i) = true then outN D M i ++ [numN D M i] else outN D M i
theorem outN_step (D M i : Nat) : (outN D M i).length ≤ (outN D M (i + 1)).length ∧ (outN D M (i + 1)).length ≤ (outN D M i).length + 1:=by
 have e : outN D M (i + 1) = if mayB (numN D M i) = true then outN D M i ++ [numN D M i] else outN D M i:=rfl
 rw [e]
 split <;> simp
theorem zit (D M : Nat) : ∀ i,∀ x ∈ outN D M i,mayB x = true ∧ x < top
 | 0,x,h => by simp [outN] at h
 | i + 1,x,h => by
  unfold outN at h
  split at h
  ·
   rcases List.mem_append.1 h with h | h
   ·
    exact zit D M i x h
   ·
    simp only [List.mem_singleton] at h
    subst h
    exact ⟨by assumption,numN_lt D M i⟩
  ·
   exact zit D M i x h
structure Ends (D M many s : Nat) : Prop where
 le : s ≤ 100
 pre : ∀ j,j < s → (outN D M j).length < many
 fin : s = 100 ∨ ¬ (outN D M s).length < many
theorem Ends.same {D M many s s' : Nat} (h : Ends D M many s) (h' : Ends D M many s') : s = s':=by
 rcases Nat.lt_trichotomy s s' with e | e | e
 ·
  have:=h'.pre s e
  rcases h.fin with f | f
  ·
   have:=h'.le; omega
  ·
   exact absurd this f
 ·
  exact e
 ·
  have:=h.pre s' e
  rcases h'.fin with f | f
  ·
   have:=h.le; omega
  ·
   exact absurd this f
theorem Ends.most {D M many s : Nat} (h : Ends D M many s) : (outN D M s).length ≤ many:=by
 cases s with
 | zero => simp [outN]
 | succ s =>
  have h1:=h.pre s (by omega)
  have h2:=(outN_step D M s).2
  omega
theorem Ends.full {D M many s : Nat} (h : Ends D M many s) (hn : ¬ (outN D M s).length < many) : (outN D M s).length = many:=by
 have:=h.most
 omega
def byv (X i : Nat) : Int:=(dg 256 X i : Nat)
theorem dg_byte (X m q r : Nat) (hr : r < m) : dg (256 ^ m) X q / 256 ^ r % 256 = dg 256 X (m * q + r):=by
 show dg 256 (X / (256 ^ m) ^ q % 256 ^ m) r = _
 rw [zdz _ m r hr,dg,dg,← Nat.pow_mul,Nat.div_div_eq_div_mul,← Nat.pow_add]
theorem byte_word (X k : Nat) : wd X (k / 8) / 2 ^ (k % 8 * 8) % 256 = byv X k:=by
 have e : wd X (k / 8) / 2 ^ (k % 8 * 8) = ((dg w64 X (k / 8) / 256 ^ (k % 8) : Nat) : Int):=by
  unfold wd
  rw [← two_256,Int.natCast_ediv]
  simp
 rw [e]
 have h:=dg_byte X 8 (k / 8) (k % 8) (Nat.mod_lt _ (by omega))
 rw [Nat.div_add_mod,← w64_bytes] at h
 unfold byv
 omega
theorem bytes_step {X k j : Nat} (hk : k < 32) (hj : j = 31 - k) : ∀ i,i < 32 → (if i = j then Value.int .u8 (byv X k) else Value.int .u8 (if 32 ≤ i + k then byv X (31 - i) else 0)) = Value.int .u8 (if 32 ≤ i + (k + 1) then byv X (31 - i) else 0):=by
 intro i hi
 by_cases h : i = j
 ·
  rw [if_pos h,if_pos (by omega),show 31 - i = k by omega]
 ·
  rw [if_neg h]
  by_cases h2 : 32 ≤ i + k
  ·
   rw [if_pos h2,if_pos (by omega)]
  ·
   rw [if_neg h2,if_neg (by omega)]
theorem infoByte : (Tryz.prog.info? 5).map (fun i => (i.zero,i.size,i.bytes)) = some (some (.int .u8 0),1,1):=by kernel_rfl
theorem row_filled {w : World} {z : Value} {n b t : Nat} (hb : b = w.heap.size) : (w.alloc (.cells (madeCells #[z] n) t)).rowIs b t n (fun _ => z):=by
 subst hb
 exact World.rowIs_made w z n t
theorem bytes_calls (X : Nat) (w : World) :
  Calls Tryz.prog 65 #[.agg #[vI vU (wd X 0),vI vU (wd X 1),vI vU (wd X 2),vI vU (wd X 3)]] w fun e w' => ∃ g,e = .returned (.slice (some ⟨g,0,none⟩) 32 32) ∧ w.heap.size ≤ g ∧ w'.rowIs g 5 32 (fun j => .int .u8 (byv X (31 - j))) ∧ Below w.heap.size w w':=by
 obtain ⟨i0,hi,hz0,hz1,hz2⟩:=info_parts infoByte
 have hmk : ∀ W : World,(Instr.makeSlice 29 (.int .i64 32) (.int .i64 32)).run Tryz.prog W = .ok (.slice (some ⟨W.heap.size,0,none⟩) 32 32) (W.alloc (.cells (madeCells #[.int .u8 0] 32) 5)) :=
  fun W => run_make_row 29 5 i0 (.int .u8 0) Tryz.underlying29 hi hz0 hz1 rfl .i64 .i64 32 (by rw [hz2]; omega) (by omega) W
 go_enter Tryz.func65,Tryz.ntmps65
 go_wp2
 go_loopw [6] (fun i wr => ∃ k : Nat,k ≤ 32 ∧ i = .int .i64 k ∧ wr.rowIs w.heap.size 26 4 (fun j => .int .u64 (wd X j)) ∧ wr.rowIs (w.heap.size + 1) 5 32 (fun j => .int .u8 (if 32 ≤ j + k then byv X (31 - j) else 0)) ∧ Below w.heap.size w wr)
  (fun i _ => 32 - (intOf i).toNat)
 case atStart => exact ⟨0,by omega,rfl,(zan (n:=4) rfl rfl (arr4 fun j => .int .u64 (wd X j))).alloc _,(row_filled (w:=w.alloc (.cells #[vI vU (wd X 0),vI vU (wd X 1),vI vU (wd X 2),vI vU (wd X 3)] 26)) (z:=.int .u8 0) (by simp)).congr (fun i hi => by rw [if_neg (by omega)]),((Below.refl _ _).alloc (by simp) _).alloc (by simp) _⟩
 case round =>
  obtain ⟨k,hk,rfl,hR,hS,hbel⟩:=hrel
  by_cases hlt : k < 32
  ·
   have c1:=hR.cell (i:=k / 8) (by omega)
   obtain ⟨j,hj⟩ : ∃ j,j = 31 - k:=⟨_,rfl⟩
   have hji : (31 : Int) - (k : Int) = (j : Int):=by omega
   have hjn : (j : Int) < (32 : Int):=by omega
   have c2:=hS.cell (i:=j) (by omega)
   have f2:=hS.frozen j
   have l1:=wd_lo X (k / 8)
   have u1:=wd_le X (k / 8)
   have HJ:=veil hj
   clear hj
   go_wp2
   go_roundw
   case rel =>
    rw [byte_word]
    exact ⟨k + 1,by omega,by go_num,zbp hR (by omega) _,(hS.set j _).congr (bytes_step hlt HJ.out),zav hbel (by omega) _⟩
   case measure => simp [intOf]; omega
  ·
   obtain rfl : k = 32:=by omega
   go_wp2
   go_ret
   exact ⟨_,rfl,by omega,hS.congr (fun i hi => by rw [if_pos (by omega)]),hbel⟩
def hf (X M : Nat) : Nat:=if X % 2 = 0 then X / 2 else (X + M) / 2
theorem hf_lt {X M : Nat} (h : X < M) : hf X M < M:=by unfold hf; split <;> omega
theorem gcd_even (u v : Nat) (hu : u % 2 = 0) (hv : v % 2 = 1) : Nat.gcd (u / 2) v = Nat.gcd u v:=by
 have hc : Nat.Coprime 2 v:=by
  unfold Nat.Coprime
  rw [Nat.gcd_rec,hv]; rfl
 have e : u = 2 * (u / 2):=by omega
 conv => rhs; rw [e]
 exact (Nat.Coprime.gcd_mul_left_cancel (u / 2) hc).symm
theorem gcd_less (u v : Nat) (h : u ≤ v) : Nat.gcd (v - u) u = Nat.gcd u v:=by
 rw [Nat.gcd_comm u v]
 have e : v = (v - u) + u:=by omega
 conv => rhs; rw [e,Nat.gcd_add_self_left]
theorem cut_twice {M A B : Nat} (hM : M % 2 = 1) (h : 2 * A % M = 2 * B % M) : A % M = B % M:=by
 have hM0 : 0 < M:=by omega
 rw [Nat.mul_mod,← Nat.mul_mod_mod,Nat.mod_mul_mod] at h
 rw [Nat.mul_mod 2 B,← Nat.mul_mod_mod,Nat.mod_mul_mod] at h
 have ha:=Nat.mod_lt A hM0
 have hb:=Nat.mod_lt B hM0
 simp only [Nat.mod_mod] at h
 generalize A % M = a at *
 generalize B % M = b at *
 have e : ∀ c,c < M → 2 * c % M = if 2 * c < M then 2 * c else 2 * c - M:=by
  intro c hc
  split
  ·
   exact Nat.mod_eq_of_lt (by assumption)
  ·
   rw [Nat.mod_eq_sub_mod (by omega),Nat.mod_eq_of_lt (by omega)]
 rw [e a ha,e b hb] at h
 split at h <;> split at h <;> omega
theorem cut_add {M A B C : Nat} (hM0 : 0 < M) (h : (A + C) % M = (B + C) % M) : A % M = B % M:=by
 rw [Nat.add_mod,Nat.add_mod B] at h
 have ha:=Nat.mod_lt A hM0
 have hb:=Nat.mod_lt B hM0
 have hc:=Nat.mod_lt C hM0
 generalize A % M = a at *
 generalize B % M = b at *
 generalize C % M = c at *
 have e : ∀ d,d < M → (d + c) % M = if d + c < M then d + c else d + c - M:=by
  intro d hd
  split
  ·
   exact Nat.mod_eq_of_lt (by assumption)
  ·
   rw [Nat.mod_eq_sub_mod (by omega),Nat.mod_eq_of_lt (by omega)]
 rw [e a ha,e b hb] at h
 split at h <;> split at h <;> omega
structure Inv (a M r u v x y : Nat) : Prop where
 hx : x < M
 hy : y < M
 hu : u < top
 hv : v < top
 odd : v % 2 = 1
 ex : a * x % M = u % M
 ey : a * y % M = v % M
 g : Nat.gcd u v = Nat.gcd a M
 left : ∃ p q,u < 2 ^ p ∧ v < 2 ^ q ∧ r + 2 * (p + q) + u % 2 ≤ 1025
theorem neq4 (f g : Nat → Int) (w : World) : (binOp .neq 26 (.agg #[vI vU (f 0),vI vU (f 1),vI vU (f 2),vI vU (f 3)]) (.agg #[vI vU (g 0),vI vU (g 1),vI vU (g 2),vI vU (g 3)])).run Tryz.prog w = .ok (.bool (!((List.range 4).all fun i => f i == g i))) w:=by
 obtain ⟨i,hi⟩ : ∃ i,Tryz.prog.info? 24 = some i:=Option.isSome_iff_exists.1 (by kernel_rfl)
 have hc : Tryz.prog.cellsOf 24 = 1:=by kernel_rfl
 rw [run_neq_struct,run_equalIn_array (P:=Tryz.prog) w 9999 _ _ Tryz.underlying26 hi,hc]
 rw [run_items 9998 _ _ f g w _ (fun j hj => arr4 (fun j => .int .u64 (f j)) j (by simpa using hj)) (fun j hj => arr4 (fun j => .int .u64 (g j)) j (by simpa using hj))]
 rfl
theorem neq_zero {X : Nat} (hX : X < top) (w : World) : (binOp .neq 26 (.agg #[vI vU (wd X 0),vI vU (wd X 1),vI vU (wd X 2),vI vU (wd X 3)]) (.agg #[vI vU 0,vI vU 0,vI vU 0,vI vU 0])).run Tryz.prog w = .ok (.bool (!decide (X = 0))) w:=by
 have h:=neq4 (wd X) (wd 0) w
 rw [all_wd 4 X 0] at h
 have e : (X % w64 ^ 4 = 0 % w64 ^ 4) = (X = 0):=by rw [Nat.mod_eq_of_lt (show X < w64 ^ 4 from hX),Nat.zero_mod]
 rw [decide_eq_decide.2 (iff_of_eq e)] at h
 have e0 : ∀ i,wd 0 i = 0:=by intro i; unfold wd dg; simp
 simpa [e0] using h
def x3 (U T X1 X2 : Nat) : Nat:=((U * T % Pt.pp * (U * T % Pt.pp) % Pt.pp + Pt.pp - X1) % Pt.pp + Pt.pp - X2) % Pt.pp
def y3 (U T X1 Y1 X2 : Nat) : Nat:=(U * T % Pt.pp * ((X1 + Pt.pp - x3 U T X1 X2) % Pt.pp) % Pt.pp + Pt.pp - Y1) % Pt.pp
theorem pp_one : 1 < Pt.pp:=by decide +kernel
def rightN (X : Nat) : Nat:=((X * X % Pt.pp * X % Pt.pp + Pt.pp - 3 * X % Pt.pp) % Pt.pp + Pt.bb) % Pt.pp
def onB (X Y : Nat) (f : Bool) : Bool:=if f then decide (X = 0) && decide (Y = 0) else decide (X < Pt.pp) && (decide (Y < Pt.pp) && decide (Y * Y % Pt.pp = rightN X))
theorem eql_zero {X : Nat} (hX : X < top) (w : World) : (binOp .eql 26 (.agg #[vI vU (wd X 0),vI vU (wd X 1),vI vU (wd X 2),vI vU (wd X 3)]) (.agg #[vI vU 0,vI vU 0,vI vU 0,vI vU 0])).run Tryz.prog w = .ok (.bool (decide (X = 0))) w:=by
 have h:=eql_num hX (show 0 < top by decide) w
 have e0 : ∀ i,wd 0 i = 0:=by intro i; unfold wd dg; simp
 simp only [e0] at h
 exact h
theorem three_lt : 3 < Pt.pp:=by decide +kernel
theorem bb_lt : Pt.bb < Pt.pp:=by decide +kernel
theorem zgm : ((0 : Fin Pt.pp)).val = 0:=Fin.val_zero _
theorem v_one : ((1 : Fin Pt.pp)).val = 1:=Pt.val_one pp_one
theorem v_three : ((3 : Fin Pt.pp)).val = 3:=by
 rw [← Pt.F_three]
 exact Nat.mod_eq_of_lt three_lt
theorem p_top (p : Pt.P Pt.pp) : Pt.pX p < top ∧ Pt.pY p < top:=⟨Nat.lt_trans (Pt.pX_lt p) zib,Nat.lt_trans (Pt.pY_lt p) zib⟩
theorem right_val (x : Fin Pt.pp) : rightN x.val = (x * x * x - 3 * x + Pt.F Pt.bb).val:=by
 unfold rightN
 have e3 : 3 * x.val % Pt.pp = (3 * x).val:=by rw [← Pt.v_mul,v_three]
 have eb : Pt.bb = (Pt.F Pt.bb : Fin Pt.pp).val:=(Nat.mod_eq_of_lt bb_lt).symm
 rw [e3,Pt.v_mul,Pt.v_mul,Pt.v_sub]
 conv => lhs; rw [eb]
 rw [Pt.v_add]
theorem onB_iff (X Y : Nat) (f : Bool) : onB X Y f = true ↔ Pt.isOn X Y f:=by
 unfold onB Pt.isOn
 cases f with
 | true => simp
 | false =>
  simp only [Bool.false_eq_true,if_false,Bool.and_eq_true,decide_eq_true_eq]
  constructor
  ·
   rintro ⟨hx,hy,h⟩
   refine ⟨hx,hy,(Pt.on_iff _ _).2 (Fin.ext ?_)⟩
   have ex : X = (Pt.F X : Fin Pt.pp).val:=(Nat.mod_eq_of_lt hx).symm
   have ey : Y = (Pt.F Y : Fin Pt.pp).val:=(Nat.mod_eq_of_lt hy).symm
   rw [← Pt.v_mul,← right_val,← ex,← ey]
   exact h
  ·
   rintro ⟨hx,hy,h⟩
   refine ⟨hx,hy,?_⟩
   have ex : X = (Pt.F X : Fin Pt.pp).val:=(Nat.mod_eq_of_lt hx).symm
   have ey : Y = (Pt.F Y : Fin Pt.pp).val:=(Nat.mod_eq_of_lt hy).symm
   have h2:=congrArg Fin.val ((Pt.on_iff _ _).1 h)
   rw [← Pt.v_mul,← right_val,← ex,← ey] at h2
   exact h2
theorem onB_some {X Y : Nat} {f : Bool} (h : onB X Y f = true) : ∃ q : Pt.Q,X = Pt.pX q.1 ∧ Y = Pt.pY q.1 ∧ f = Pt.pFar q.1:=(Pt.isOn_iff X Y f).1 ((onB_iff X Y f).1 h)
theorem onB_of (q : Pt.Q) : onB (Pt.pX q.1) (Pt.pY q.1) (Pt.pFar q.1) = true:=(onB_iff _ _ _).2 ((Pt.isOn_iff _ _ _).2 ⟨q,rfl,rfl,rfl⟩)
def bit (X n : Nat) : Bool:=X / 2 ^ n % 2 == 1
theorem w64_two : w64 = 2 ^ 64:=by decide
theorem bit_dg (a n r m : Nat) (hr : r < m) : a / (2 ^ m) ^ n % 2 ^ m / 2 ^ r % 2 = a / 2 ^ (m * n + r) % 2:=by
 have h:=zdz (B:=2) (a / (2 ^ m) ^ n) m r hr
 unfold dg at h
 rw [h,← Nat.pow_mul,Nat.div_div_eq_div_mul,← Nat.pow_add]
theorem bit_word (X n : Nat) : (bits BinOp.and IntKind.u64 (wd X (n / 64) / 2 ^ (n % 64)) 1 == 1) = bit X n:=by
 have e : wd X (n / 64) / 2 ^ (n % 64) = ((dg w64 X (n / 64) / 2 ^ (n % 64) : Nat) : Int):=by
  unfold wd
  rw [Int.natCast_ediv]
  simp
 have hlt : dg w64 X (n / 64) / 2 ^ (n % 64) < 18446744073709551616:=Nat.lt_of_le_of_lt (Nat.div_le_self _ _) (dg_lt zbm X _)
 rw [e,show (1 : Int) = ((1 : Nat) : Int) from rfl,u64_and_nat _ _ hlt (by omega),Nat.and_one_is_mod]
 have h:=bit_dg X (n / 64) (n % 64) 64 (Nat.mod_lt _ (by omega))
 rw [Nat.div_add_mod] at h
 unfold bit dg
 rw [w64_two,h]
 rw [Bool.eq_iff_iff]
 simp only [beq_iff_eq]
 omega
theorem bit_in (X n : Nat) (hn : n < 256) (w : World) :
  Calls Tryz.prog 99 #[.agg #[vI vU (wd X 0),vI vU (wd X 1),vI vU (wd X 2),vI vU (wd X 3)],.int .i64 (n : Int)] w fun e w' => e = .returned (.bool (bit X n)) ∧ Below w.heap.size w w':=by
 have hq : n / 64 < 4:=by omega
 have h0 : ¬ (n : Int) < 0:=by omega
 have h1 : ¬ (256 : Int) ≤ (n : Int):=by omega
 have hR : (w.alloc (.cells #[vI vU (wd X 0),vI vU (wd X 1),vI vU (wd X 2),vI vU (wd X 3)] 26)).rowIs w.heap.size 26 4 (fun j => .int .u64 (wd X j)):=zan (n:=4) (by simp) rfl (arr4 fun j => .int .u64 (wd X j))
 have c1:=hR.cell hq
 have l1:=wd_lo X (n / 64)
 have u1:=wd_le X (n / 64)
 clear hR
 go_enter Tryz.func99,Tryz.ntmps99
 go_wp2
 go_ret
 rw [← bit_word]
 exact ⟨rfl,(Below.refl _ _).alloc (Nat.le_refl _) _⟩
theorem zer {a b : Int} (h : a = b) : Ending.returned (.int .i64 a) = .returned (.int .i64 b):=by rw [h]
theorem zeh (k i : Nat) (hi : i < 256) (hk : k ≤ 56) : wrap64 ((k : Int) + wrap64 (bitLen i : Int)) = ((k + bitLen i : Nat) : Int):=by
 have:=bitLen_le8 i hi
 rw [IntWalk.wrap64_in (bitLen i : Int) (by omega),IntWalk.wrap64_in _ (by omega)]
 omega
theorem zec (x b : Nat) (h : 2 ^ b ≤ x) : bitLen x = b + bitLen (x / 2 ^ b) :=
 bitLen_shift x b (by have:=Nat.div_pos h (Nat.two_pow_pos b); omega)
theorem len64_0 (x : Int) (hl : 0 ≤ x) (hu : x ≤ 255) (w : World) : Calls Tryz.prog 139 #[vI vU x] w fun e w' => e = .returned (.int .i64 (bitLen x.toNat)) ∧ w' = w:=by
 have h1 : x ≤ 4294967295:=by omega
 have h2 : x ≤ 65535:=by omega
 have h3 : x ≤ 255:=by omega
 have h0 : 0 ≤ x:=by omega
 clear hu hl
 go_enter Tryz.func139,Tryz.ntmps139
 go_wp2
 go_ret
 refine ⟨zer ?_,rfl⟩
 rw [len8tab_get]
 have h:=zeh 0 x.toNat (by omega) (by omega)
 simpa using h
theorem len64_8 (x : Int) (hl : 256 ≤ x) (hu : x ≤ 65535) (w : World) : Calls Tryz.prog 139 #[vI vU x] w fun e w' => e = .returned (.int .i64 (bitLen x.toNat)) ∧ w' = w:=by
 have h1 : x ≤ 4294967295:=by omega
 have h2 : x ≤ 65535:=by omega
 have h3 : (256 : Int) ≤ x:=by omega
 have h4 : x / 256 ≤ 255:=by omega
 have h0 : 0 ≤ x:=by omega
 clear hu hl
 go_enter Tryz.func139,Tryz.ntmps139
 go_wp2
 go_ret
 refine ⟨zer ?_,rfl⟩
 rw [len8tab_get]
 have e : (x / 256).toNat = x.toNat / 2 ^ 8:=by show _ = x.toNat / 256; omega
 rw [e,zec x.toNat 8 (by show 256 ≤ x.toNat; omega)]
 exact zeh 8 _ (by rw [← e]; omega) (by omega)
theorem len64_16 (x : Int) (hl : 65536 ≤ x) (hu : x ≤ 16777215) (w : World) : Calls Tryz.prog 139 #[vI vU x] w fun e w' => e = .returned (.int .i64 (bitLen x.toNat)) ∧ w' = w:=by
 have h1 : x ≤ 4294967295:=by omega
 have h2 : (65536 : Int) ≤ x:=by omega
 have h3 : x / 65536 ≤ 255:=by omega
 have h0 : 0 ≤ x:=by omega
 clear hu hl
 go_enter Tryz.func139,Tryz.ntmps139
 go_wp2
 go_ret
 refine ⟨zer ?_,rfl⟩
 rw [len8tab_get]
 have e : (x / 65536).toNat = x.toNat / 2 ^ 16:=by show _ = x.toNat / 65536; omega
 rw [e,zec x.toNat 16 (by show 65536 ≤ x.toNat; omega)]
 exact zeh 16 _ (by rw [← e]; omega) (by omega)
theorem len64_24 (x : Int) (hl : 16777216 ≤ x) (hu : x ≤ 4294967295) (w : World) : Calls Tryz.prog 139 #[vI vU x] w fun e w' => e = .returned (.int .i64 (bitLen x.toNat)) ∧ w' = w:=by
 have h1 : x ≤ 4294967295:=by omega
 have h2 : (65536 : Int) ≤ x:=by omega
 have h3 : (256 : Int) ≤ x / 65536:=by omega
 have h4 : x / 65536 / 256 ≤ 255:=by omega
 have h0 : 0 ≤ x:=by omega
 clear hu hl
 go_enter Tryz.func139,Tryz.ntmps139
 go_wp2
 go_ret
 refine ⟨zer ?_,rfl⟩
 rw [len8tab_get]
 have e : (x / 65536 / 256).toNat = x.toNat / 2 ^ 24:=by show _ = x.toNat / 16777216; omega
 rw [e,zec x.toNat 24 (by show 16777216 ≤ x.toNat; omega)]
 exact zeh 24 _ (by rw [← e]; omega) (by omega)
theorem len64_32 (x : Int) (hl : 4294967296 ≤ x) (hu : x ≤ 1099511627775) (w : World) : Calls Tryz.prog 139 #[vI vU x] w fun e w' => e = .returned (.int .i64 (bitLen x.toNat)) ∧ w' = w:=by
 have h1 : (4294967296 : Int) ≤ x:=by omega
 have h2 : x / 4294967296 ≤ 65535:=by omega
 have h3 : x / 4294967296 ≤ 255:=by omega
 have h0 : 0 ≤ x:=by omega
 clear hu hl
 go_enter Tryz.func139,Tryz.ntmps139
 go_wp2
 go_ret
 refine ⟨zer ?_,rfl⟩
 rw [len8tab_get]
 have e : (x / 4294967296).toNat = x.toNat / 2 ^ 32:=by show _ = x.toNat / 4294967296; omega
 rw [e,zec x.toNat 32 (by show 4294967296 ≤ x.toNat; omega)]
 exact zeh 32 _ (by rw [← e]; omega) (by omega)
theorem len64_40 (x : Int) (hl : 1099511627776 ≤ x) (hu : x ≤ 281474976710655) (w : World) : Calls Tryz.prog 139 #[vI vU x] w fun e w' => e = .returned (.int .i64 (bitLen x.toNat)) ∧ w' = w:=by
 have h1 : (4294967296 : Int) ≤ x:=by omega
 have h2 : x / 4294967296 ≤ 65535:=by omega
 have h3 : (256 : Int) ≤ x / 4294967296:=by omega
 have h4 : x / 4294967296 / 256 ≤ 255:=by omega
 have h0 : 0 ≤ x:=by omega
 clear hu hl
 go_enter Tryz.func139,Tryz.ntmps139
 go_wp2
 go_ret
 refine ⟨zer ?_,rfl⟩
 rw [len8tab_get]
 have e : (x / 4294967296 / 256).toNat = x.toNat / 2 ^ 40:=by show _ = x.toNat / 1099511627776; omega
 rw [e,zec x.toNat 40 (by show 1099511627776 ≤ x.toNat; omega)]
 exact zeh 40 _ (by rw [← e]; omega) (by omega)
theorem len64_48 (x : Int) (hl : 281474976710656 ≤ x) (hu : x ≤ 72057594037927935) (w : World) : Calls Tryz.prog 139 #[vI vU x] w fun e w' => e = .returned (.int .i64 (bitLen x.toNat)) ∧ w' = w:=by
 have h1 : (4294967296 : Int) ≤ x:=by omega
 have h2 : (65536 : Int) ≤ x / 4294967296:=by omega
 have h3 : x / 4294967296 / 65536 ≤ 255:=by omega
 have h0 : 0 ≤ x:=by omega
 clear hu hl
 go_enter Tryz.func139,Tryz.ntmps139
 go_wp2
 go_ret
 refine ⟨zer ?_,rfl⟩
 rw [len8tab_get]
 have e : (x / 4294967296 / 65536).toNat = x.toNat / 2 ^ 48:=by show _ = x.toNat / 281474976710656; omega
 rw [e,zec x.toNat 48 (by show 281474976710656 ≤ x.toNat; omega)]
 exact zeh 48 _ (by rw [← e]; omega) (by omega)
theorem len64_56 (x : Int) (hl : 72057594037927936 ≤ x) (hu : x ≤ 18446744073709551615) (w : World) : Calls Tryz.prog 139 #[vI vU x] w fun e w' => e = .returned (.int .i64 (bitLen x.toNat)) ∧ w' = w:=by
 have h1 : (4294967296 : Int) ≤ x:=by omega
 have h2 : (65536 : Int) ≤ x / 4294967296:=by omega
 have h3 : (256 : Int) ≤ x / 4294967296 / 65536:=by omega
 have h4 : x / 4294967296 / 65536 / 256 ≤ 255:=by omega
 have h0 : 0 ≤ x:=by omega
 clear hu hl
 go_enter Tryz.func139,Tryz.ntmps139
 go_wp2
 go_ret
 refine ⟨zer ?_,rfl⟩
 rw [len8tab_get]
 have e : (x / 4294967296 / 65536 / 256).toNat = x.toNat / 2 ^ 56:=by show _ = x.toNat / 72057594037927936; omega
 rw [e,zec x.toNat 56 (by show 72057594037927936 ≤ x.toNat; omega)]
 exact zeh 56 _ (by rw [← e]; omega) (by omega)
theorem len64_calls (x : Int) (h0 : 0 ≤ x) (h1 : x ≤ 18446744073709551615) (w : World) : Calls Tryz.prog 139 #[vI vU x] w fun e w' => e = .returned (.int .i64 (bitLen x.toNat)) ∧ w' = w:=by
 by_cases a : x ≤ 4294967295
 ·
  by_cases b : x ≤ 65535
  ·
   by_cases c : x ≤ 255
   ·
    exact len64_0 x (by omega) (by omega) w
   ·
    exact len64_8 x (by omega) (by omega) w
  ·
   by_cases c : x ≤ 16777215
   ·
    exact len64_16 x (by omega) (by omega) w
   ·
    exact len64_24 x (by omega) (by omega) w
 ·
  by_cases b : x ≤ 281474976710655
  ·
   by_cases c : x ≤ 1099511627775
   ·
    exact len64_32 x (by omega) (by omega) w
   ·
    exact len64_40 x (by omega) (by omega) w
  ·
   by_cases c : x ≤ 72057594037927935
   ·
    exact len64_48 x (by omega) (by omega) w
   ·
    exact len64_56 x (by omega) (by omega) w
theorem high_zero {X m : Nat} (hX : X < top) (h : ∀ j,m ≤ j → j < 4 → dg w64 X j = 0) : X < w64 ^ m:=by
 have hp : 0 < w64 ^ m:=Nat.pow_pos zbm
 have e : X % w64 ^ 4 = X % w64 ^ m % w64 ^ 4:=zjd zbm 4 fun i hi => by
  by_cases hlt : i < m
  ·
   rw [zdz X m i hlt]
  ·
   rw [h i (by omega) hi]
   unfold dg
   rw [Nat.div_eq_of_lt (Nat.lt_of_lt_of_le (Nat.mod_lt _ hp) (Nat.pow_le_pow_right zbm (by omega)))]
   rfl
 rw [Nat.mod_eq_of_lt (show X < w64 ^ 4 from hX)] at e
 have h1:=Nat.mod_le (X % w64 ^ m) (w64 ^ 4)
 have h2:=Nat.mod_lt X hp
 omega
theorem len_word {X m : Nat} (hX : X < top) (h : ∀ j,m + 1 ≤ j → j < 4 → dg w64 X j = 0) (hne : dg w64 X m ≠ 0) : bitLen X = 64 * m + bitLen (dg w64 X m):=by
 have hlt:=high_zero hX h
 have hd : X / w64 ^ m = dg w64 X m:=by
  rw [dg,Nat.mod_eq_of_lt]
  rw [Nat.div_lt_iff_lt_mul (Nat.pow_pos zbm),Nat.mul_comm,← Nat.pow_succ]
  exact hlt
 have e : 2 ^ (64 * m) = w64 ^ m:=by rw [w64_two,← Nat.pow_mul]
 rw [← hd] at hne ⊢
 have h1:=bitLen_shift X (64 * m) (by rw [e]; exact hne)
 rw [e] at h1
 exact h1
theorem wd_toNat (X i : Nat) : (wd X i).toNat = dg w64 X i:=by unfold wd; omega
theorem bitLen_le64 (X i : Nat) : bitLen (dg w64 X i) ≤ 64:=by
 unfold bitLen
 split
 ·
  omega
 ·
  rename_i h
  have:=(Nat.log2_lt h).2 (show dg w64 X i < 2 ^ 64 from dg_lt zbm X i)
  omega
theorem len_calls (X : Nat) (hX : X < top) (w : World) :
  Calls Tryz.prog 97 #[.agg #[vI vU (wd X 0),vI vU (wd X 1),vI vU (wd X 2),vI vU (wd X 3)]] w fun e w' => e = .returned (.int .i64 (bitLen X)) ∧ Below w.heap.size w w':=by
 go_enter Tryz.func97,Tryz.ntmps97
 go_wp2
 go_loopw [3] (fun i wr => ∃ k : Nat,k ≤ 4 ∧ i = .int .i64 ((k : Int) - 1) ∧ (∀ j,k ≤ j → j < 4 → dg w64 X j = 0) ∧ wr.rowIs w.heap.size 26 4 (fun j => .int .u64 (wd X j)) ∧ Below w.heap.size w wr)
  (fun i _ => (intOf i + 1).toNat)
 case atStart => exact ⟨4,by omega,rfl,by intro j h1 h2; omega,zan (n:=4) (by simp) rfl (arr4 fun j => .int .u64 (wd X j)),(Below.refl _ _).alloc (by simp) _⟩
 case round =>
  obtain ⟨k,hk,hi,hall,hR,hbel⟩:=hrel
  have HALL:=veil hall
  clear hall
  cases k with
  | zero =>
   subst hi
   have h1:=high_zero hX HALL.out
   have hX0 : X = 0:=by simpa using h1
   have HX:=veil hX0
   clear hX0 h1
   go_wp2
   go_ret
   rw [show bitLen X = 0 by rw [HX.out]; rfl]
   exact ⟨rfl,hbel⟩
  | succ m =>
   obtain rfl : _ = Value.int .i64 (m : Int):=hi.trans (by congr 1; omega)
   have hm : m < 4:=by omega
   clear hi
   have c1:=hR.cell hm
   have l1:=wd_lo X m
   have u1:=wd_le X m
   by_cases h : dg w64 X m = 0
   ·
    have hz : (wd X m != 0) = false:=by unfold wd; rw [h]; rfl
    go_wp2
    go_roundw
    case rel => exact ⟨m,by omega,rfl,fun j h1 h2 => by
     by_cases e : j = m
     ·
      rw [e]; exact h
     ·
      exact HALL.out j (by omega) h2,hR,hbel⟩
    case measure => simp [intOf]
   ·
    have hz : (wd X m != 0) = true:=by rw [bne_iff_ne]; unfold wd; omega
    have hw:=len_word hX HALL.out h
    have hb:=bitLen_le64 X m
    have ht:=wd_toNat X m
    have HW:=veil hw
    have HT:=veil ht
    clear hw h ht
    go_wp2_with (go_at_call 139; refine (len64_calls _ l1 u1 _).mono ?_; rintro e w' ⟨rfl,rfl⟩)
    rw [HT.out]
    go_wp2
    go_ret
    rw [HW.out]
    exact ⟨zer (by rw [IntWalk.wrap64_in _ (by omega)]; omega),hbel⟩
theorem top_two : top = 2 ^ 256:=by unfold top; rw [w64_two,← Nat.pow_mul]
theorem bl_le {X : Nat} (hX : X < top) : bitLen X ≤ 256:=by
 unfold bitLen
 split
 ·
  omega
 ·
  rename_i h
  have:=(Nat.log2_lt h).2 (show X < 2 ^ 256 by rw [← top_two]; exact hX)
  omega
theorem bl_div (X : Nat) : X / 2 ^ bitLen X = 0:=Nat.div_eq_of_lt (bitLen_spec X).1
theorem times_step (K m : Nat) (q : Pt.Q) : Pt.grp.mul (K / 2 ^ m) q = if bit K m = true then Pt.grp.op (Pt.grp.op (Pt.grp.mul (K / 2 ^ (m + 1)) q) (Pt.grp.mul (K / 2 ^ (m + 1)) q)) q else Pt.grp.op (Pt.grp.mul (K / 2 ^ (m + 1)) q) (Pt.grp.mul (K / 2 ^ (m + 1)) q):=by
 rw [Pt.mul_top]
 have hb : (bit K m = true) = (K / 2 ^ m % 2 = 1):=by unfold bit; simp
 simp only [hb]
end Go.Proofs.YtedehdbajiaaiaaGreatDoor
namespace Go.Proofs.YtedehdbajiaaiaaGreatDoor.Pt
theorem nn_big : 3 < nn:=by decide +kernel
theorem nn_root : ∃ g : Fin nn,Root g:=by
 obtain ⟨ps,hp,h⟩:=(tab_pr tab [2] two_only tab_ok (0xffffffff00000000ffffffffffffffffbce6faada7179e84f3b9cac2fc632551,7,[2,2,2,2,3,71,131,373,3407,17449,38189,187019741,622491383,1002328039319,2624747550333869278416773953]) (by decide +kernel)).2
 exact ⟨_,(row_root (n:=nn) hp h).2⟩
abbrev Ne:=Fin nn
theorem nn_one : 1 < nn:=by have:=nn_big; omega
section
variable {n : Nat} [NeZero n]
theorem uniq_inv {x y z : Fin n} (h1 : x * y = 1) (h2 : x * z = 1) : y = z:=by
 have e : y = y * (x * z):=by rw [h2,zgw]
 rw [e,← zfd,zfu y x,h1,zft]
theorem F_vlt {a : Nat} (h : a < n) : (F a : Fin n).val = a:=Nat.mod_eq_of_lt h
theorem F_ne' {a : Nat} (h0 : a ≠ 0) (h : a < n) : (F a : Fin n) ≠ 0:=fun e => h0 (by
 have h2:=congrArg Fin.val e
 rwa [Fin.val_zero,F_vlt h] at h2)
theorem F_mul_one (hn : 1 < n) {a t : Nat} (h : a * t % n = 1) : (F a : Fin n) * F t = 1:=by
 rw [← F_mul]
 apply Fin.ext
 rw [val_one hn]
 exact h
def gi (x : Fin n) : Fin n:=pf x (n - 2)
theorem gi_mul (hr : ∃ g : Fin n,Root g) (hn : 1 < n) {x : Fin n} (h : x ≠ 0) : x * gi x = 1:=by
 obtain ⟨g,hg⟩:=hr
 exact zhm hg hn h
theorem gi_of (hr : ∃ g : Fin n,Root g) (hn : 1 < n) {x t : Fin n} (h : x * t = 1) : t = gi x:=by
 have hx : x ≠ 0:=by
  rintro rfl
  have e : (0 : Fin n) * t = 0:=by grobner
  rw [e] at h
  have h2:=congrArg Fin.val h
  rw [Fin.val_zero,val_one hn] at h2
  exact absurd h2 (by decide)
 exact uniq_inv h (gi_mul hr hn hx)
end
section
variable (n : Nat) [NeZero n]
def iG (a : Nat) : Nat:=(gi (F a : Fin n)).val
theorem iG_lt (a : Nat) : iG n a < n:=(gi (F a : Fin n)).isLt
theorem iG_of (hr : ∃ g : Fin n,Root g) (hn : 1 < n) {a t : Nat} (ht : t < n) (h : a * t % n = 1) : t = iG n a:=by
 have e2:=congrArg Fin.val (gi_of hr hn (F_mul_one hn h))
 rw [F_vlt ht] at e2
 exact e2
theorem F_iG (a : Nat) : (F (iG n a) : Fin n) = gi (F a):=F_val _
omit [NeZero n] in
theorem gcd_of (hp : ∀ d,d ∣ n → d = 1 ∨ d = n) {a : Nat} (h0 : a ≠ 0) (h : a < n) : Nat.gcd a n = 1:=by
 rcases hp _ (Nat.gcd_dvd_right a n) with h1 | h1
 ·
  exact h1
 ·
  exfalso
  have h2:=Nat.gcd_dvd_left a n
  rw [h1] at h2
  have h3:=Nat.le_of_dvd (Nat.pos_of_ne_zero h0) h2
  omega
end
theorem F_ne {a : Nat} (h0 : a ≠ 0) (h : a < nn) : (F a : Ne) ≠ 0:=F_ne' h0 h
theorem gcd_nn {a : Nat} (h0 : a ≠ 0) (h : a < nn) : Nat.gcd a nn = 1:=gcd_of nn nn_pr.2 h0 h
/-! ### multiples -/
theorem mul_eq_of {a b : Nat} (h : (F a : Ne) = F b) (q : Q) : grp.mul a q = grp.mul b q:=by
 have h2:=congrArg Fin.val h
 have h3 : a % nn = b % nn:=h2
 rw [← mul_nn a,h3,mul_nn]
theorem pFar_of_pX {p : P pp} (h : pX p ≠ 0) : pFar p = false:=by
 rcases p with _ | ⟨x,y⟩
 ·
  exact absurd rfl h
 ·
  rfl
theorem mul_near {k : Nat} (h0 : k ≠ 0) (hk : k < nn) {q : Q} (hq : q ≠ grp.o) : grp.mul k q ≠ grp.o:=fun e => by
 have h:=grp.mul_gcd q k nn e (nn_all q)
 rw [gcd_nn h0 hk,grp.mul_one] at h
 exact hq h
theorem base_near : base ≠ grp.o:=fun e => by
 have h:=congrArg (fun q : Q => pFar q.1) e
 exact absurd h (by decide)
theorem far_iff (q : Q) : pFar q.1 = true ↔ q = grp.o:=by
 obtain ⟨p,hp⟩:=q
 rcases p with _ | ⟨x,y⟩
 ·
  exact ⟨fun _ => rfl,fun _ => rfl⟩
 ·
  refine ⟨fun h => absurd (show false = true from h) (by decide),fun h => ?_⟩
  have h2:=congrArg Subtype.val h
  exact absurd h2 (by show ¬ some (x,y) = none; simp)
/-! ### signatures -/
def rOf (k : Nat) : Nat:=pX (grp.mul k base).1 % nn
def sOf (d e k : Nat) : Nat:=iG nn k * ((e % nn + rOf k * d % nn) % nn) % nn
def inR (x : Nat) : Bool:=decide (x ≠ 0) && decide (x < nn)
theorem inR_iff (x : Nat) : inR x = true ↔ x ≠ 0 ∧ x < nn:=by simp [inR]
def sumOf (q : Q) (e r s : Nat) : Q:=grp.op (grp.mul (e % nn * iG nn s % nn) base) (grp.mul (r * iG nn s % nn) q)
def verB (q : Q) (e r s : Nat) : Bool:=!pFar q.1 && inR r && inR s && !pFar (sumOf q e r s).1 && decide (pX (sumOf q e r s).1 % nn = r)
theorem ring_sign {n : Nat} [NeZero n] {K K' S T e r d : Fin n} (hK : K * K' = 1) (hS : S = K' * (e + r * d)) (hT : S * T = 1) : e * T + r * T * d = K:=by
 subst hS
 have h2 : K * (K' * (e + r * d) * T) = K * 1:=by rw [hT]
 clear hT
 grobner
theorem sum_sign {d e k : Nat} (hk0 : k ≠ 0) (hk : k < nn) (hs0 : sOf d e k ≠ 0) : sumOf (grp.mul d base) e (rOf k) (sOf d e k) = grp.mul k base:=by
 have hs : sOf d e k < nn:=Nat.mod_lt _ (by have:=nn_big; omega)
 unfold sumOf
 rw [← grp.mul_mul,← grp.mul_add]
 refine mul_eq_of ?_ base
 have hS : (F (sOf d e k) : Ne) = gi (F k) * (F e + F (rOf k) * F d):=by
  unfold sOf
  rw [F_mod,F_mul,F_iG,F_mod,F_add,F_mod,F_mod,F_mul]
 have hK:=gi_mul nn_root nn_one (F_ne hk0 hk)
 have hT:=gi_mul nn_root nn_one (F_ne hs0 hs)
 rw [F_add,F_mod,F_mul,F_mod,F_mul,F_mod,F_mul,F_iG]
 exact ring_sign hK hS hT
theorem sign_holds {d e k : Nat} (hd0 : d ≠ 0) (hd : d < nn) (hk0 : k ≠ 0) (hk : k < nn) (hr : rOf k ≠ 0) (hs : sOf d e k ≠ 0) : verB (grp.mul d base) e (rOf k) (sOf d e k) = true:=by
 have h1 : pFar (grp.mul d base).1 = false:=by
  cases h : pFar (grp.mul d base).1 with
  | false => rfl
  | true => exact absurd ((far_iff _).1 h) (mul_near hd0 hd base_near)
 have hm : (0 : Nat) < nn:=by have:=nn_big; omega
 have h2 : inR (rOf k) = true:=(inR_iff _).2 ⟨hr,Nat.mod_lt _ hm⟩
 have h3 : inR (sOf d e k) = true:=(inR_iff _).2 ⟨hs,Nat.mod_lt _ hm⟩
 have hX : pX (grp.mul k base).1 ≠ 0:=fun h => hr (by unfold rOf; rw [h]; exact Nat.zero_mod _)
 unfold verB
 rw [h1,h2,h3,sum_sign hk0 hk hs,pFar_of_pX hX]
 exact decide_eq_true rfl
end Go.Proofs.YtedehdbajiaaiaaGreatDoor.Pt
namespace Go.Proofs.YtedehdbajiaaiaaGreatDoor
open Go.RowKit
open Go.Value renaming int → vI
open Go.IntKind renaming u64 → vU
open Go.Act renaming put → aP
open List renaming setIfInBounds_toArray → lA, set_cons_zero → lZ, set_cons_succ → lS
/-! ### points -/
def pv (q : Pt.Q) : Value:=qv (Pt.pX q.1) (Pt.pY q.1) (Pt.pFar q.1)
theorem base_x : Pt.pX Pt.base.1 = Pt.gx ∧ Pt.pY Pt.base.1 = Pt.gy ∧ Pt.pFar Pt.base.1 = false:=by decide +kernel
/-! ### numbers modulo n -/
theorem nn_1 : 1 < Pt.nn:=Pt.nn_one
theorem nn_pos : 0 < Pt.nn:=Nat.lt_trans Nat.zero_lt_one nn_1
theorem mod_nn {M X : Nat} (h : M = X % Pt.nn) : M < Pt.nn:=by rw [h]; exact Nat.mod_lt _ nn_pos
theorem zeg {M X : Nat} (h : M = X % Pt.nn) : M < top:=Nat.lt_trans (mod_nn h) zdp
theorem mul_top {M X Y : Nat} (h : M = X * Y % Pt.nn) : M < top:=zeg h
theorem inv_nn {t S : Nat} (h : t = Pt.iG Pt.nn S) : t < Pt.nn:=by rw [h]; exact Pt.iG_lt Pt.nn S
theorem zjb {t S : Nat} (h : t = Pt.iG Pt.nn S) : t < top:=Nat.lt_trans (inv_nn h) zdp
theorem zge {X : Nat} (h : mayB X = true) : X < Pt.nn:=((Pt.inR_iff X).1 h).2
theorem may_ne {X : Nat} (h : mayB X = true) : X ≠ 0:=((Pt.inR_iff X).1 h).1
theorem inR_may (X : Nat) : Pt.inR X = mayB X:=rfl
def cellsN : List Nat → List Value
 | [] => []
 | x :: xs => (nc x).toList ++ cellsN xs
theorem zhy : ∀ (xs ys : List Nat),cellsN (xs ++ ys) = cellsN xs ++ cellsN ys
 | [],ys => rfl
 | x :: xs,ys => by
  show (nc x).toList ++ cellsN (xs ++ ys) = ((nc x).toList ++ cellsN xs) ++ cellsN ys
  rw [zhy xs ys,List.append_assoc]
theorem cellsN_at : ∀ (xs : List Nat) (i : Nat) (x : Nat),xs[i]? = some x → ((cellsN xs).drop (i * 4)).take 4 = (nc x).toList
 | [],i,x,h => by simp at h
 | y :: xs,0,x,h => by
  obtain rfl : y = x:=by simpa using h
  rfl
 | y :: xs,i + 1,x,h => by
  have h1:=cellsN_at xs i x (by simpa using h)
  have e : (i + 1) * 4 = (nc y).toList.length + i * 4:=by
   show _ = 4 + _
   omega
  show (((nc y).toList ++ cellsN xs).drop ((i + 1) * 4)).take 4 = _
  rw [e,← List.drop_drop,List.drop_left,h1]
def OwnN (w : World) (base : Nat) (v : Value) (xs : List Nat) : Prop:=w.ownsRow base 26 4 v xs.length (cellsN xs)
section
variable {w w' : World} {base : Nat} {v : Value} {xs : List Nat}
theorem OwnN.nil (w : World) (base : Nat) : OwnN w base (.slice none 0 0) []:=World.ownsRow_nil _ _ _ _
theorem OwnN.form (o : OwnN w base v xs) : ∃ A c,v = .slice A xs.length c ∧ xs.length ≤ c:=by
 rcases o.2 with ⟨h,h0⟩ | ⟨g,cap,cur,h,_,_,hn,_⟩
 ·
  exact ⟨none,0,by rw [h,h0],by omega⟩
 ·
  exact ⟨_,cap,h,hn⟩
theorem OwnN.lt (o : OwnN w base v xs) {k : Nat} (hk : v.ownBlock = some k) : base ≤ k ∧ k < w.heap.size:=World.ownsRow.lt o k hk
theorem OwnN.keep (o : OwnN w base v xs) (h : ∀ k,v.ownBlock = some k → w'.heap[k]? = w.heap[k]?) : OwnN w' base v xs:=by
 refine ⟨o.1,?_⟩
 rcases o.2 with hn | ⟨g,cap,cur,rfl,hbg,hh,rest⟩
 ·
  exact .inl hn
 ·
  exact .inr ⟨g,cap,cur,rfl,hbg,(h g rfl).trans hh,rest⟩
theorem OwnN.ext (o : OwnN w base v xs) (h : Ext w w') : OwnN w' base v xs:=o.keep fun k hk => Below.block h k (o.lt hk).2
theorem OwnN.but {r : Nat} (o : OwnN w base v xs) (h : But r w w') (hr : r < base) : OwnN w' base v xs:=o.keep fun k hk => h.block k (o.lt hk).2 (by have:=(o.lt hk).1; intro e; injection e; omega)
theorem OwnN.base_le {base' : Nat} (o : OwnN w base v xs) (hb : base' ≤ base) : OwnN w base' v xs :=
 ⟨o.1,o.2.elim .inl fun ⟨g,cap,cur,hv,hg,r⟩ => .inr ⟨g,cap,cur,hv,Nat.le_trans hb hg,r⟩⟩
theorem OwnN.at (o : OwnN w base v xs) {i : Nat} (hi : i < xs.length) : ∃ g cap,v = .slice (some ⟨g,0,none⟩) xs.length cap ∧ base ≤ g ∧ g < w.heap.size ∧ w.rangeAt g (i * 4) (nc (xs[i]'hi)).toList:=by
 rcases o.2 with ⟨_,h0⟩ | ⟨g,cap,cur,rfl,hbg,hh,hn,hm,hs,ht⟩
 ·
  omega
 ·
  refine ⟨g,cap,rfl,hbg,(Array.getElem?_eq_some_iff.1 hh).1,fun j u hu => ?_⟩
  have hj : j < 4:=by have:=(List.getElem?_eq_some_iff.1 hu).1; exact this
  rw [cell_of_row w g _ cur _ _ hh]
  have h1:=cellsN_at xs i _ (List.getElem?_eq_getElem hi)
  rw [← h1,List.getElem?_take_of_lt hj,List.getElem?_drop,← ht,List.getElem?_take_of_lt (by omega)] at hu
  simpa using hu
end
theorem infoN32 : (Tryz.prog.info? 26).map (fun i => (i.zero,i.size,i.bytes)) = some (some (.agg #[vI vU 0,vI vU 0,vI vU 0,vI vU 0]),4,32):=by kernel_rfl
theorem info_parts4 {i : Option TypeInfo} {z : Value} {n b : Nat} (h : i.map (fun i => (i.zero,i.size,i.bytes)) = some (some z,n,b)) : ∃ j,i = some j ∧ j.zero = some z ∧ j.size = n ∧ j.bytes = b:=by
 cases i with
 | none => simp at h
 | some j =>
  simp only [Option.map_some,Option.some.injEq,Prod.mk.injEq] at h
  exact ⟨j,rfl,h.1,h.2.1,h.2.2⟩
theorem wpl_append_num {w : World} {ops : Array Oper} {rest : List Oper} {o : Oper} {a : Act} {Q : Exit → Act → World → Prop} (hgd : o.guard = none) (s x : Operand)
  (ho : o.op = .call { callee:=.builtin .append,args:=#[s,x],argTypes:=#[73,73] })
  (base : Nat) (v : Value) (xs : List Nat) (hs : a.eval s = v) (hown : OwnN w base v xs) (g X : Nat) (hx : a.eval x = .slice (some ⟨g,0,none⟩) 1 1) (hg : w.heap[g]? = some (.cells (nc X) 26 (0,0)))
  (hn : xs.length ≤ 1000) (hbase : base ≤ w.heap.size)
  (h : ∀ v' w',OwnN w' base v' (xs ++ [X]) → w.grownBy w' v.ownBlock → wpList Tryz.prog ops Q rest (a.put o.dst v') w') : wpList Tryz.prog ops Q (o :: rest) a w:=by
 obtain ⟨i,hi,hz,hsz,hby⟩:=info_parts4 infoN32
 refine wpList_plain hgd fun K hK => ?_
 obtain ⟨v',w',hr,h2,h3,_,_⟩:=run_append_own_at (P:=Tryz.prog) w base 73 o.type 26 i _ 4 32 Tryz.underlying73 hi hz hsz hby rfl (by decide) v xs.length (cellsN xs) hown ⟨g,0,none⟩ 1 1 (nc X).toList rfl
  (fun j u hu => by
   rw [Addr.add_mid,Nat.zero_add,cell_of_row w g j (nc X) _ _ hg]
   simpa using hu)
  (fun u hu => (Array.all_eq_true_iff_forall_mem.1 (zbf X)) u (by simpa using hu)) (by unfold maxLen; omega) (by omega) hbase
 unfold Oper.wp execOp
 simp only [ho,resolve,invoke,builtin,Sem.run_bind,Sem.run_pure,Result.andThen_ok,List.map_toArray,List.map_cons,List.map_nil,hs,hx,hr]
 refine hK _ _ (h v' w' ?_ h3)
 unfold OwnN
 rw [zhy,List.length_append]
 have e : cellsN [X] = (nc X).toList:=List.append_nil _
 rw [e]
 exact h2
theorem part_bytes (X m : Nat) : pt X m / 256 = byv X (2 * m + 1) ∧ pt X m % 256 = byv X (2 * m):=by
 have h0:=dg_byte X 2 m 0 (by omega)
 have h1:=dg_byte X 2 m 1 (by omega)
 rw [← w16_bytes] at h0 h1
 have hl:=dg_lt w16_pos X m
 unfold pt byv
 rw [← h1,← show dg w16 X m / 256 ^ 0 % 256 = dg 256 X (2 * m) from h0]
 generalize dg w16 X m = D at *
 unfold w16 at hl
 simp only [Nat.pow_zero,Nat.pow_one,Nat.div_one]
 omega
theorem heap_alloc_drew (w : World) (o : Obj) : (w.alloc o).drew.heap[w.heap.size]? = some o:=heap_alloc_new w o
def bsv (X j : Nat) : Value:=.int .u8 (byv X (31 - j))
theorem bsL_step (X m : Nat) (hm : m < 16) : (List.range (32 - 2 * (m + 1))).map (bsv X) ++ [.int .u8 (byv X (2 * m + 1)),.int .u8 (byv X (2 * m))] = (List.range (32 - 2 * m)).map (bsv X):=by
 rw [show 32 - 2 * m = (32 - 2 * (m + 1)) + 1 + 1 by omega,List.range_succ,List.range_succ,List.map_append,List.map_append,List.append_assoc]
 simp only [List.map_cons,List.map_nil,bsv,List.cons_append,List.nil_append]
 rw [show 31 - (32 - 2 * (m + 1)) = 2 * m + 1 by omega,show 31 - (32 - 2 * (m + 1) + 1) = 2 * m by omega]
theorem conv_hi (z : Int) (h0 : 0 ≤ z) (h1 : z ≤ 65535) : IntKind.u8.wrap (IntKind.i64.wrap (z.tdiv 256)) = z / 256:=by
 have e : z.tdiv 256 = z / 256:=Int.tdiv_eq_ediv_of_nonneg h0
 have h2 : 0 ≤ z / 256:=by omega
 have h3 : z / 256 ≤ 255:=by omega
 rw [e]
 generalize z / 256 = q at *
 rw [IntWalk.i64_in q ⟨by omega,by omega⟩,IntKind.wrap_u8]
 exact Int.emod_eq_of_lt h2 (by omega)
theorem conv_lo (z : Int) (h0 : 0 ≤ z) : IntKind.u8.wrap (z.tmod 256) = z % 256:=by
 have e : z.tmod 256 = z % 256:=Int.tmod_eq_emod_of_nonneg h0
 rw [e,IntKind.wrap_u8]
 exact Int.emod_emod_of_dvd z (Int.dvd_refl 256)
theorem none_yet (X : Nat) (W : World) (base : Nat) : W.ownsRow base 5 1 (.slice none 0 0) (32 - 2 * 16) ((List.range (32 - 2 * 16)).map (bsv X)):=by
 simp only [show 32 - 2 * 16 = 0 from by omega,List.range_zero,List.map_nil]
 exact World.ownsRow_nil _ _ _ _
theorem rbytes_own (X : Nat) (w : World) :
  Calls Tryz.prog 69 #[.agg #[vI vU (wd X 0),vI vU (wd X 1),vI vU (wd X 2),vI vU (wd X 3)]] w fun e w' => ∃ g cap,e = .returned (.slice (some ⟨g,0,none⟩) 32 cap) ∧ 32 ≤ cap ∧ w.heap.size ≤ g ∧ Own w' w.heap.size 5 (.slice (some ⟨g,0,none⟩) 32 cap) 32 (bsv X) ∧ Below w.heap.size w w':=by
 obtain ⟨i0,hi,hz0,hz1,hz2⟩:=info_parts infoByte
 have hB0 : Below w.heap.size w (w.alloc (.cells #[vI vU (wd X 0),vI vU (wd X 1),vI vU (wd X 2),vI vU (wd X 3)] 26)):=(Below.refl _ _).alloc (by simp) _
 go_enter Tryz.func69,Tryz.ntmps69
 go_wp2_with fail
 refine (parts_calls X _).mono ?_
 rintro e w1 ⟨g1,cap1,rfl,hg1,hp1,hb1⟩
 have hB1:=hB0.trans (hb1.mono (by simp))
 have hl1:=hp1.lt
 have hsz:=hB1.size
 clear hB0 hb1 hg1
 go_wp2
 go_loopw [4,5] (fun v i wr => ∃ k : Nat,k ≤ 16 ∧ i = .int .i64 ((k : Int) - 1) ∧ wr.ownsRow w1.heap.size 5 1 v (32 - 2 * k) ((List.range (32 - 2 * k)).map (bsv X)) ∧ Pre wr g1 3 16 (ptv X) ∧ Below w.heap.size w wr ∧ w1.heap.size ≤ wr.heap.size)
  (fun _ i _ => (intOf i + 1).toNat)
 case atStart => exact ⟨16,by omega,rfl,none_yet X w1 _,hp1,hB1,Nat.le_refl _⟩
 case round =>
  clear hp1 hB1
  obtain ⟨k,hk,hii,hown,hp,hbel,hsz2⟩:=hrel
  cases k with
  | zero =>
   subst hii
   go_wp2
   go_ret
   have ho : Own wr w1.heap.size 5 _ 32 (bsv X):=hown
   obtain ⟨g,cap,rfl,hc,hg,_⟩:=ho.pre (by omega)
   exact ⟨g,cap,rfl,hc,by omega,ho.base_le hsz,hbel⟩
  | succ m =>
   obtain rfl : _ = Value.int .i64 (m : Int):=hii.trans (by congr 1; omega)
   have hm : m < 16:=by omega
   have c1:=hp.cell hm
   simp only [ptv] at c1
   clear hii
   go_wp2
   have hm0 : (0 : Int) ≤ (m : Int):=by omega
   have hm1 : (m : Int) < 16:=by omega
   have l1:=pt_lo X m
   have u1 : pt X m ≤ 65535:=by have:=pt_lt X m; omega
   obtain ⟨q1,q2⟩:=part_bytes X m
   have E1 : IntKind.u8.wrap (IntKind.i64.wrap ((pt X m).tdiv 256)) = byv X (2 * m + 1):=(conv_hi _ l1 u1).trans q1
   have E2 : IntKind.u8.wrap ((pt X m).tmod 256) = byv X (2 * m):=(conv_lo _ l1).trans q2
   clear q1 q2
   as_aux_lemma =>
   go_region_held3 (fun w' => w'.cell? ⟨g1,m,none⟩ = some (.int .i64 (pt X m)))
    (first
     | go_keep
     | exact (hgrow.cell_far ⟨g1,m,none⟩ ((hp.alloc _).drew).lt (fun e => by have h2 : w1.heap.size ≤ g1:=(hown.lt g1 e.symm).1; omega)).trans (((hp.alloc _).drew).cell hm))
    ((refine step_append_lies _ (by rfl) _ _ _ (by rfl) w1.heap.size 5 i0 _ 1 1 Tryz.underlying29 hi hz0 hz1 hz2 rfl (by omega) _ _ _ (by rfl) ((hown.alloc _).drew)
       ⟨wr.heap.size,0,none⟩ 2 2 [.int .u8 (byv X (2 * m + 1)),.int .u8 (byv X (2 * m))] (by rfl) (by rfl) (World.news_of_block (cs:=#[.int .u8 (byv X (2 * m + 1)),.int .u8 (byv X (2 * m))]) (t:=5) (fr:=(0,0)) (heap_alloc_drew wr _)) (by simp [Value.oneCell'])
       (by omega) (by unfold maxLen; omega) (by omega) (by simp; omega) (wr.heap.size + 1) (by simp) ?_; intro gg cap w4 hown1 hgrow hat hlt))
   all_goals
    go_wp2
    go_roundw
    have hsz5 : w1.heap.size ≤ w4.heap.size:=by
     have h6:=hgrow.size
     have h5 : wr.heap.size ≤ (wr.alloc (.cells #[.int .u8 (byv X (2 * m + 1)),.int .u8 (byv X (2 * m))] 5)).drew.heap.size:=by
      show wr.heap.size ≤ (wr.alloc _).heap.size
      simp
     omega
    case rel => exact ⟨m,by omega,rfl,by rw [bsL_step X m hm,show 32 - 2 * (m + 1) + 2 = 32 - 2 * m by omega] at hown1; rw [show 32 - 2 * (m + 1) + 2 = 32 - 2 * m by omega]; exact hown1,(hp.alloc _).drew.of_block (hgrow.block g1 ((hp.alloc _).drew).lt (fun e => by have h2 : w1.heap.size ≤ g1:=(hown.lt g1 e.symm).1; omega)),((hbel.alloc (by omega) _).drew).grown hgrow (by show w.heap.size ≤ (wr.alloc _).heap.size; simp; omega) (fun k e => by have:=(hown.lt _ e).1; omega),hsz5⟩
    case measure => simp [intOf]
def pick (D E : Nat) : List Nat → Option (Nat × Nat)
 | [] => none
 | k :: l => if (mayB (Pt.rOf k) && mayB (Pt.sOf D E k)) = true then some (Pt.rOf k,Pt.sOf D E k) else pick D E l
def sigOf (D E : Nat) (xs : List Nat) : Option (Nat × Nat):=if xs.length < 16 then none else pick D E xs
theorem pick_yes {D E k : Nat} {l : List Nat} (h1 : mayB (Pt.rOf k) = true) (h2 : mayB (Pt.sOf D E k) = true) : pick D E (k :: l) = some (Pt.rOf k,Pt.sOf D E k):=by
 show (if _ then _ else _) = _
 rw [h1,h2]; rfl
theorem pick_no {D E k : Nat} {l : List Nat} (h : (mayB (Pt.rOf k) && mayB (Pt.sOf D E k)) = false) : pick D E (k :: l) = pick D E l:=by
 show (if _ then _ else _) = _
 rw [h]; rfl
def sgv : Option (Nat × Nat) → Value
 | none => gv 0 0
 | some (r,s) => gv r s
theorem OwnN.blk {w : World} {base : Nat} {v : Value} {xs : List Nat} (o : OwnN w base v xs) (hn : 0 < xs.length) : ∃ g cap cur,v = .slice (some ⟨g,0,none⟩) xs.length cap ∧ w.heap[g]? = some (.cells cur 26 (0,0)) ∧ ∀ i k,xs[i]? = some k → (cur.toList.drop (i * 4)).take 4 = (nc k).toList:=by
 rcases o.2 with ⟨_,h0⟩ | ⟨g,cap,cur,rfl,hbg,hh,hn,hm,hs,ht⟩
 ·
  omega
 ·
  refine ⟨g,cap,cur,rfl,hh,fun i k hk => ?_⟩
  have hi : i < xs.length:=(List.getElem?_eq_some_iff.1 hk).1
  have h1:=cellsN_at xs i k hk
  rw [← h1,← ht,List.drop_take,List.take_take,show min 4 (xs.length * 4 - i * 4) = 4 by omega]
theorem gc_zero : #[Value.int .u64 0,vI vU 0,vI vU 0,vI vU 0,vI vU 0,vI vU 0,vI vU 0,vI vU 0] = gc 0 0:=by
 unfold gc
 rw [zem,zem,zem,zem]
theorem drop_at {xs : List Nat} {i k : Nat} (h : xs[i]? = some k) : xs.drop i = k :: xs.drop (i + 1):=by
 obtain ⟨hi,rfl⟩:=List.getElem?_eq_some_iff.1 h
 exact List.drop_eq_getElem_cons hi
section
variable {P : Program} {o : Oper} {a : Act} {w : World}
end
theorem sig_top {D E r s : Nat} {l : List Nat} (h : pick D E l = some (r,s)) : r < top ∧ s < top:=by
 induction l with
 | nil => cases h
 | cons k l ih =>
  unfold pick at h
  split at h
  ·
   injection h with h
   injection h with h1 h2
   rename_i hc
   simp only [Bool.and_eq_true] at hc
   rw [← h1,← h2]
   exact ⟨Nat.lt_trans (zge hc.1) zdp,Nat.lt_trans (zge hc.2) zdp⟩
  ·
   exact ih h
theorem sigOf_top {D E r s : Nat} {l : List Nat} (h : sigOf D E l = some (r,s)) : r < top ∧ s < top:=by
 unfold sigOf at h
 split at h
 ·
  cases h
 ·
  exact sig_top h
end Go.Proofs.YtedehdbajiaaiaaGreatDoor
