/-
  Of Y5 Y7 W3 KJ.
-/
import Derived.Lib.AppendZeros
import Derived.Deep.AppendLies
import Derived.Deep.RegionHeld3
import Derived.Test.YtihophdbkjhopaaDoorRows
import Derived.WalkKit
import Derived.WalkSpells
import Derived.WalkLawsBesides
import Derived.Test.YtihophdbkjhopaaDoorZL15
import Derived.Test.YtihophdbkjhopaaDoorZL4
import Derived.Test.YtihophdbkjhopaaDoorZL2
import Derived.Test.YtihophdbkjhopaaDoorZL8
import Derived.Test.YtihophdbkjhopaaDoorZL14
import Derived.Test.YtihophdbkjhopaaDoorZL3
import Derived.Test.YtihophdbkjhopaaDoorZL1
set_option maxRecDepth 1000000
set_option maxHeartbeats 20000000
namespace Go.Proofs.YtihophdbkjhopaaDoor
open Go.RowKit
open Go.Value renaming int → vI
open Go.IntKind renaming u64 → vU
open Go.Act renaming put → aP
open List renaming setIfInBounds_toArray → lA, set_cons_zero → lZ, set_cons_succ → lS
theorem sver_far {X Y R S : Nat} (hX : X < top) (hY : Y < top) (hR : R < top) (hS : S < top) (y : Nat → Nat) (w : World) :
  Calls Tryd.prog 8 #[qv X Y true,dgv y,gv R S] w fun e w' => e = .returned (.bool false) ∧ Ext w w':=by
 have kX:=veil hX
 have kY:=veil hY
 have kR:=veil hR
 have kS:=veil hS
 clear hS hR hY hX
 exact way1 Tryd.func8 [qv X Y true,dgv y,gv R S] (.ret _ fun _ h => ⟨rfl,h⟩) (by kernel_rfl)
theorem sver_off {X Y R S : Nat} (hX : X < top) (hY : Y < top) (hR : R < top) (hS : S < top) (hon : onB X Y false = false) (y : Nat → Nat) (w : World) :
  Calls Tryd.prog 8 #[qv X Y false,dgv y,gv R S] w fun e w' => e = .returned (.bool false) ∧ Ext w w':=by
 have kX:=veil hX
 have kY:=veil hY
 have kR:=veil hR
 have kS:=veil hS
 have kon:=veil hon
 clear hon hS hR hY hX
 exact way1 Tryd.func8 [qv X Y false,dgv y,gv R S] (.call _ _ _ (fun W _ => onp_is kon.out kX.out kY.out W) <|
  .ret _ fun _ h => ⟨rfl,h⟩) (by kernel_rfl)
theorem sver_r {X Y R S : Nat} (hX : X < top) (hY : Y < top) (hR : R < top) (hS : S < top) (hon : onB X Y false = true) (hr : mayB R = false) (y : Nat → Nat) (w : World) :
  Calls Tryd.prog 8 #[qv X Y false,dgv y,gv R S] w fun e w' => e = .returned (.bool false) ∧ Ext w w':=by
 have kX:=veil hX
 have kY:=veil hY
 have kR:=veil hR
 have kS:=veil hS
 have kon:=veil hon
 have kr:=veil hr
 clear hr hon hS hR hY hX
 exact way1 Tryd.func8 [qv X Y false,dgv y,gv R S] (.call _ _ _ (fun W _ => onp_is kon.out kX.out kY.out W) <|
  .call _ _ _ (fun W _ => zfg kr.out kR.out W) <|
  .ret _ fun _ h => ⟨rfl,h⟩) (by kernel_rfl)
theorem sver_s {X Y R S : Nat} (hX : X < top) (hY : Y < top) (hR : R < top) (hS : S < top) (hon : onB X Y false = true) (hr : mayB R = true) (hs : mayB S = false) (y : Nat → Nat) (w : World) :
  Calls Tryd.prog 8 #[qv X Y false,dgv y,gv R S] w fun e w' => e = .returned (.bool false) ∧ Ext w w':=by
 have kX:=veil hX
 have kY:=veil hY
 have kR:=veil hR
 have kS:=veil hS
 have kon:=veil hon
 have kr:=veil hr
 have ks:=veil hs
 clear hs hr hon hS hR hY hX
 exact way1 Tryd.func8 [qv X Y false,dgv y,gv R S] (.call _ _ _ (fun W _ => onp_is kon.out kX.out kY.out W) <|
  .call _ _ _ (fun W _ => zfg kr.out kR.out W) <|
  .call _ _ _ (fun W _ => zfg ks.out kS.out W) <|
  .ret _ fun _ h => ⟨rfl,h⟩) (by kernel_rfl)
theorem sver_all (y : Nat → Nat) {p a b c : Pt.Q} {X Y R S t E u v m : Nat} {f : Bool} (hX : X < top) (hY : Y < top) (hR : R < top) (hS : S < top) (hon : onB X Y false = true) (hr : mayB R = true) (hs : mayB S = true) (hp : X = Pt.pX p.1 ∧ Y = Pt.pY p.1 ∧ false = Pt.pFar p.1) (hy : ∀ j,y j < 256) (hE : E = num32 y) (ht : t = Pt.iG Pt.nn S) (hu : u = E * t % Pt.nn) (hv : v = R * t % Pt.nn) (ha : a = Pt.grp.mul u Pt.base) (hb : b = Pt.grp.mul v p) (hc : c = Pt.grp.op a b) (hfar : Pt.pFar c.1 = f) (hm : m = Pt.pX c.1 % Pt.nn) (w : World) :
  Calls Tryd.prog 8 #[qv X Y false,dgv y,gv R S] w fun e w' => e = .returned (.bool (!f && decide (m = R))) ∧ Ext w w':=by
 obtain ⟨x,hx0⟩ : ∃ x,x = Pt.pX c.1:=⟨_,rfl⟩
 obtain ⟨z,hz0⟩ : ∃ z,z = Pt.pY c.1:=⟨_,rfl⟩
 have kEt:=veil (show E < top from by rw [hE]; exact num32_lt hy)
 have ksum:=fun W => sumof_calls (w:=W) (mul_top hu) (mul_top hv) hp ha hb hc
 rw [← hx0,← hz0,hfar] at ksum
 have KS:=veil ksum
 have km:=veil (show m = x % Pt.nn ∧ x < top ∧ m < top from ⟨by rw [hx0]; exact hm,by rw [hx0]; exact (p_top _).1,by rw [hm]; exact Nat.lt_trans (Nat.mod_lt _ (Nat.lt_trans (by decide) nn_odd.2)) nn_top⟩)
 have kX:=veil hX
 have kY:=veil hY
 have kR:=veil hR
 have kS:=veil hS
 have kon:=veil hon
 have kr:=veil hr
 have ks:=veil hs
 have ky:=veil hy
 have kE:=veil hE
 have kt:=veil ht
 have ku:=veil hu
 have kv:=veil hv
 clear hv hu ht hE hy hs hr hon hS hR hY hX
 clear ksum hp ha hb hc hfar hm hx0 hz0
 cases f
 ·
  exact way1 Tryd.func8 [qv X Y false,dgv y,gv R S] (.call _ _ _ (fun W _ => onp_is kon.out kX.out kY.out W) <| .call _ _ _ (fun W _ => zfg kr.out kR.out W) <| .call _ _ _ (fun W _ => zfg ks.out kS.out W) <| hMod fun g =>
   .call _ _ _ (fun W hW => ninv_p (may_ne ks.out) (may_lt ks.out) kt.out hW.2) <| .call _ _ _ (fun W _ => numof_calls ky.out kE.out W) <| .call _ _ _ (fun W hW => nmul_p ku.out kEt.out (inv_top kt.out) hW.2) <|
   .call _ _ _ (fun W hW => nmul_p kv.out kR.out (inv_top kt.out) hW.2) <| .call _ _ _ (fun W _ => KS.out W) <| .call _ _ _ (fun W hW => scut_calls km.out.1 km.out.2.1 hW.2) <|
   .ins 60 (binK .eql 25 (.tmp 57) (.tmp 59) (nv m) (nv R)) (.bool (decide (m = R))) (fun W _ => zcj (gN _ _ _ _ _ W) (eql_num km.out.2.2 kR.out W)) <| .ret _ fun _ h => ⟨rfl,h.1⟩) (by kernel_rfl)
 ·
  exact way1 Tryd.func8 [qv X Y false,dgv y,gv R S] (.call _ _ _ (fun W _ => onp_is kon.out kX.out kY.out W) <| .call _ _ _ (fun W _ => zfg kr.out kR.out W) <| .call _ _ _ (fun W _ => zfg ks.out kS.out W) <| hMod fun g =>
   .call _ _ _ (fun W hW => ninv_p (may_ne ks.out) (may_lt ks.out) kt.out hW.2) <| .call _ _ _ (fun W _ => numof_calls ky.out kE.out W) <| .call _ _ _ (fun W hW => nmul_p ku.out kEt.out (inv_top kt.out) hW.2) <|
   .call _ _ _ (fun W hW => nmul_p kv.out kR.out (inv_top kt.out) hW.2) <| .call _ _ _ (fun W _ => KS.out W) <| .ret _ fun _ h => ⟨rfl,h.1⟩) (by kernel_rfl)
theorem sver_no {X Y R S : Nat} {f : Bool} (hX : X < top) (hY : Y < top) (hR : R < top) (hS : S < top) (h : onB X Y f = false) (y : Nat → Nat) (w : World) :
  Calls Tryd.prog 8 #[qv X Y f,dgv y,gv R S] w fun e w' => e = .returned (.bool false) ∧ Ext w w':=by
 cases f with
 | true => exact sver_far hX hY hR hS y w
 | false => exact sver_off hX hY hR hS h y w
theorem mod_mul_l (E t : Nat) : E * t % Pt.nn = E % Pt.nn * t % Pt.nn:=by
 have h1:=Nat.mul_mod E t Pt.nn
 have h2:=Nat.mul_mod (E % Pt.nn) t Pt.nn
 rw [Nat.mod_mod] at h2
 rw [h1,h2]
theorem sver_yes (p : Pt.Q) {R S : Nat} (hR : R < top) (hS : S < top) (y : Nat → Nat) (hy : ∀ j,y j < 256) (w : World) :
  Calls Tryd.prog 8 #[pv p,dgv y,gv R S] w fun e w' => e = .returned (.bool (Pt.verB p (num32 y) R S)) ∧ Ext w w':=by
 have hon:=onB_of p
 have hX:=(p_top p.1).1
 have hY:=(p_top p.1).2
 have hsum : Pt.sumOf p (num32 y) R S = Pt.grp.op (Pt.grp.mul (num32 y * Pt.iG Pt.nn S % Pt.nn) Pt.base) (Pt.grp.mul (R * Pt.iG Pt.nn S % Pt.nn) p):=by
  unfold Pt.sumOf
  rw [← mod_mul_l]
 unfold pv Pt.verB
 rw [inR_may,inR_may]
 cases hf : Pt.pFar p.1 with
 | true => exact sver_far hX hY hR hS y w
 | false =>
  rw [hf] at hon
  cases hr : mayB R with
  | false => exact sver_r hX hY hR hS hon hr y w
  | true =>
   cases hs : mayB S with
   | false => exact sver_s hX hY hR hS hon hr hs y w
   | true =>
    refine (sver_all (p:=p) (m:=Pt.pX (Pt.sumOf p (num32 y) R S).1 % Pt.nn) y hX hY hR hS hon hr hs ⟨rfl,rfl,hf.symm⟩ hy rfl rfl rfl rfl rfl rfl hsum rfl rfl w).mono ?_
    rintro e w' ⟨rfl,hE⟩
    exact ⟨by simp only [Bool.not_false,Bool.true_and],hE⟩
theorem le_lo (y : Nat → Nat) : lev (fun k => y (32 - 1 - k)) 32 = be32 y 0:=by
 unfold be32
 simp only [Nat.zero_add]
theorem le_hi (y : Nat → Nat) : lev (fun k => y (32 + (32 - 1 - k))) 32 = be32 y 32:=rfl
theorem ofl_lo {b o c : Nat} {y : Nat → Nat} (hy : ∀ j,y j < 256) {w : World} (hlt : b < w.heap.size) (hcell : ∀ j,j < 64 → w.cell? ⟨b,o + j,none⟩ = some (.int .u8 (y j : Nat))) (W : World) (hW : Ext w W) : Calls Tryd.prog 26 #[.slice (some ⟨b,o,none⟩) 32 c] W fun e W' => e = .returned (.tuple #[nv (be32 y 0),.nilIface]) ∧ Ext W W':=by
 have h:=of_some b o 32 c y hy (by decide) W (Nat.lt_of_lt_of_le hlt (Below.size hW)) (fun j hj => (Below.cell (p:=⟨b,o + j,none⟩) hW hlt).trans (hcell j (by omega)))
 rw [le_lo] at h
 exact h
theorem ofl_hi {b o c : Nat} {y : Nat → Nat} (hy : ∀ j,y j < 256) {w : World} (hlt : b < w.heap.size) (hcell : ∀ j,j < 64 → w.cell? ⟨b,o + j,none⟩ = some (.int .u8 (y j : Nat))) (W : World) (hW : Ext w W) : Calls Tryd.prog 26 #[.slice (some ⟨b,o + 32,none⟩) 32 (c - 32)] W fun e W' => e = .returned (.tuple #[nv (be32 y 32),.nilIface]) ∧ Ext W W':=by
 have h:=of_some b (o + 32) 32 (c - 32) (fun j => y (32 + j)) (fun j => hy _) (by decide) W (Nat.lt_of_lt_of_le hlt (Below.size hW)) (fun j hj => by
  rw [Nat.add_assoc]
  exact (Below.cell (p:=⟨b,o + (32 + j),none⟩) hW hlt).trans (hcell (32 + j) (by omega)))
 rw [le_hi] at h
 exact h
theorem cut_lo (b o : Nat) {c : Nat} (hc : 64 ≤ c) (W : World) : (Instr.sliceAt 29 (.slice (some ⟨b,o,none⟩) 64 c) none (some (.int .i64 32)) none).run Tryd.prog W = .ok (.slice (some ⟨b,o,none⟩) 32 c) W:=by
 have h:=cut_to (some ⟨b,o,none⟩) 64 c 32 (by omega) W
 unfold cutA at h
 by_cases h0 : c = 0
 ·
  omega
 ·
  simpa [Addr.add_mid,h0] using h
theorem cut_hi (b o : Nat) {c : Nat} (hc : 64 ≤ c) (W : World) : (Instr.sliceAt 29 (.slice (some ⟨b,o,none⟩) 64 c) (some (.int .i64 32)) none none).run Tryd.prog W = .ok (.slice (some ⟨b,o + 32,none⟩) 32 (c - 32)) W:=by
 have h:=cut_from (some ⟨b,o,none⟩) 64 c 32 (by omega) W
 unfold cutA at h
 rw [if_neg (by omega)] at h
 simpa [Addr.add_mid] using h
theorem sparse_no (A : Option Addr) (n c : Nat) (hn : n ≠ 64) (w : World) :
  Calls Tryd.prog 11 #[.slice A n c] w fun e w' => e = .returned (.tuple #[gv 0 0,.iface 44 (.int .i64 2)]) ∧ Ext w w':=by
 have hn2 : ¬ (n : Int) = 64:=by omega
 clear hn
 exact way1 Tryd.func11 [.slice A n c] (.ins 10 (binK .neq 3 (.tmp 9) (.const (.int .i64 64)) (.int .i64 n) (.int .i64 64)) _ (fun W _ => neq_run hn2 W) <| .ret _ fun _ h => ⟨rfl,h⟩) (by kernel_rfl)
theorem sparse_64 (b o c : Nat) (y : Nat → Nat) (hy : ∀ j,y j < 256) (hc : 64 ≤ c) (w : World) (hlt : b < w.heap.size) (hcell : ∀ j,j < 64 → w.cell? ⟨b,o + j,none⟩ = some (.int .u8 (y j : Nat))) :
  Calls Tryd.prog 11 #[.slice (some ⟨b,o,none⟩) 64 c] w fun e w' => e = .returned (.tuple #[gv (be32 y 0) (be32 y 32),.nilIface]) ∧ Ext w w':=by
 have kx:=fun (W : World) (hW : Ext w W) => ofl_lo (c:=c) hy hlt hcell W hW
 have ky:=fun (W : World) (hW : Ext w W) => ofl_hi (c:=c) hy hlt hcell W hW
 have q1:=cut_lo b o hc
 have q2:=cut_hi b o hc
 clear hy hc hlt hcell
 generalize be32 y 0 = PX at *
 generalize be32 y 32 = PY at *
 have KX:=veil kx
 have KY:=veil ky
 have Q1:=veil q1
 have Q2:=veil q2
 clear q1 q2 kx ky
 exact way1 Tryd.func11 [.slice (some ⟨b,o,none⟩) 64 c] (.ins 15 (Instr.sliceAt 29 (.slice (some ⟨b,o,none⟩) 64 c) none (some (.int .i64 32)) none) _ (fun W _ => Q1.out W) <|
  .call _ _ _ (fun W hW => KX.out W hW) <|
  .ins 21 (Instr.sliceAt 29 (.slice (some ⟨b,o,none⟩) 64 c) (some (.int .i64 32)) none none) _ (fun W _ => Q2.out W) <|
  .call _ _ _ (fun W hW => KY.out W hW) <|
  .ret _ fun _ h => ⟨rfl,h⟩) (by kernel_rfl)
theorem on_q_is (q : Pt.Q) (w : World) : Calls Tryd.prog 16 #[pv q] w fun e w' => e = .returned (.bool true) ∧ Ext w w':=by
 have h:=on_is (Pt.pX q.1) (Pt.pY q.1) (Pt.pFar q.1) (p_top q.1).1 (p_top q.1).2 w
 rw [onB_of] at h
 exact h
theorem code_sum (A : Option Addr) (m c : Nat) (bs : List Nat) (w : World) (hK : KT w) (hm : m = bs.length) (hmc : m ≤ c) (hle : m ≤ 100000) (hS : Bs w A bs) : Calls Tryd.prog 12 #[.slice A m c] w fun e w' => e = .returned (dgv (dgL bs)) ∧ Ext w w':=by
 subst hm
 exact sum_calls A bs.length c (fun j => bs.getD j 0) hS.1.getD hmc (by omega) w hK (src_bs hS)
theorem code_ver (X Y : Nat) (f : Bool) (y : Nat → Nat) (R S : Nat) (w : World) (hX : X < top) (hY : Y < top) (hR : R < top) (hS : S < top) (hy : ∀ j,y j < 256) : Calls Tryd.prog 8 #[qv X Y f,dgv y,gv R S] w fun e w' => e = .returned (.bool (vfL X Y f y R S)) ∧ Ext w w':=by
 cases h : onB X Y f with
 | false =>
  rw [vfL_off h]
  exact sver_no hX hY hR hS h y w
 | true =>
  obtain ⟨p,rfl,rfl,rfl⟩:=onB_some h
  rw [vfL_on]
  exact sver_yes p hR hS y hy w
theorem code_on (D : Nat) (w : World) (hm : mayB D = true) : Calls Tryd.prog 16 #[qv (pubL D).1 (pubL D).2 false] w fun e w' => e = .returned (.bool true) ∧ Ext w w':=by
 rw [pub_q hm]
 exact on_q_is _ w
theorem code_parse_no (A : Option Addr) (m c : Nat) (w : World) (hm : m ≠ 64) : Calls Tryd.prog 11 #[.slice A m c] w fun e w' => e = .returned (.tuple #[gv 0 0,.iface 44 (.int .i64 2)]) ∧ Ext w w':=sparse_no A m c hm w
theorem code_parse_64 (A : Option Addr) (m c : Nat) (bs : List Nat) (w : World) (hm : m = bs.length) (h64 : m = 64) (hc : m ≤ c) (hS : Bs w A bs) : Calls Tryd.prog 11 #[.slice A m c] w fun e w' => e = .returned (.tuple #[gv (sigR bs) (sigS bs),.nilIface]) ∧ Ext w w':=by
 subst h64
 obtain ⟨b,o,rfl,hb,hcl⟩:=hS.2.resolve_left (by omega)
 have e1 : be32 (fun j => bs.getD j 0) 0 = sigR bs:=lev_valB (bs:=bs.take 32) (hS.1.take 32) (by rw [List.length_take]; omega) fun k hk => by
  simp only [List.getD_eq_getElem?_getD,List.getElem?_take_of_lt (show 32 - 1 - k < 32 by omega),Nat.zero_add]
 have e2 : be32 (fun j => bs.getD j 0) 32 = sigS bs:=lev_valB (bs:=bs.drop 32) (hS.1.drop 32) (by rw [List.length_drop]; omega) fun k hk => by
  simp only [List.getD_eq_getElem?_getD,List.getElem?_drop]
 refine (sparse_64 b o c (fun j => bs.getD j 0) hS.1.getD hc w hb fun j hj => hcl j (by omega)).mono fun e w' ⟨he,hE⟩ => ⟨?_,hE⟩
 rw [he,e1,e2]
theorem codeL : CodeL where
 sum:=code_sum
 ver:=code_ver
 on:=code_on
 parse_odd:=code_parse_no
 parse_64:=code_parse_64
end Go.Proofs.YtihophdbkjhopaaDoor
