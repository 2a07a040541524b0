/-
  Of KI.
-/
import Derived.Test.YtihophdbkjhopaaGreatDoorZC10
import Derived.Test.YtihophdbkjhopaaGreatDoorZC11
import Derived.Test.YtihophdbkjhopaaGreatDoorZC22
import Derived.Test.YtihophdbkjhopaaGreatDoorZC18
import Derived.Test.YtihophdbkjhopaaGreatDoorZC12
set_option maxRecDepth 1000000
set_option maxHeartbeats 20000000
namespace Go.Proofs.YtihophdbkjhopaaGreatDoor
open Go.RowKit
open Go.Value renaming int → vI
open Go.IntKind renaming u64 → vU
open Go.Act renaming put → aP
open List renaming setIfInBounds_toArray → lA, set_cons_zero → lZ, set_cons_succ → lS
theorem low_bytes (r s : Nat) (w : World) : Calls Tryz.prog 55 #[gv r s] w fun e w' => ∃ A c,e = .returned (.slice A 64 c) ∧ 64 ≤ c ∧ Bs w' A (sigB r s) ∧ Fresh w A (sigB r s) ∧ Ext w w' :=
 (rsig_bytes r s w).mono fun e w' ⟨g,c,he,_,o,hE⟩ => by
  obtain ⟨A,c2,hv,h1,h2,h3⟩:=own_sig o
  rw [hv] at he
  exact ⟨A,c2,he,h1,h2,h3,hE⟩
theorem low_num (A : Option Addr) (m c : Nat) (bs : List Nat) (w : World) (hm : m = bs.length) (h32 : m = 32) (hS : Bs w A bs) : Calls Tryz.prog 75 #[.slice A m c] w fun e w' => e = .returned (nv (valB bs)) ∧ Ext w w':=by
 subst hm
 obtain ⟨b,o,rfl,hb,hc⟩:=hS.2.resolve_left (by omega)
 refine (rof_some b o bs.length c (fun j => bs.getD j 0) hS.1.getD (by omega) w hb hc).mono fun e w' ⟨he,hE⟩ => ⟨?_,hE⟩
 rw [he,lev_valB hS.1 rfl fun k _ => rfl]
 rfl
theorem low_sum (A : Option Addr) (m c : Nat) (bs : List Nat) (w : World) (hm : m = bs.length) (hle : m ≤ 100000) (hS : Bs w A bs) : Calls Tryz.prog 36 #[.slice A m c] w fun e w' => e = .returned (dgv (dgL bs)) ∧ Ext w w':=by
 subst hm
 exact rsum_calls A bs.length c (fun j => bs.getD j 0) hS.1.getD (by omega) w (src_bs hS)
theorem low_ver (X Y : Nat) (f : Bool) (y : Nat → Nat) (R S : Nat) (w : World) (hX : X < top) (hY : Y < top) (hR : R < top) (hS : S < top) (hy : ∀ j,y j < 256) : Calls Tryz.prog 19 #[qv X Y f,dgv y,gv R S] w fun e w' => e = .returned (.bool (vfL X Y f y R S)) ∧ Ext w w':=by
 cases h : onB X Y f with
 | false =>
  rw [vfL_off h]
  exact ver_no hX hY hR hS h y w
 | true =>
  obtain ⟨p,rfl,rfl,rfl⟩:=onB_some h
  rw [vfL_on]
  exact ver_yes p hR hS y hy w
theorem lowR : LowR lowL where
 bytes:=low_bytes
 num:=low_num
 sum:=low_sum
 ver:=low_ver
end Go.Proofs.YtihophdbkjhopaaGreatDoor
