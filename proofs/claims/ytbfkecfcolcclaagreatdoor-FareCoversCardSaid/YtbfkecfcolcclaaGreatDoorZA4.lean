/-
  Of Ra Pa Ls Svb Svc Nwc Pb Pc Svd Pd TF Lk Rb Sve Pe Pf.
-/
import Derived.Deep.MidRow
import Derived.Deep.Slices
import Derived.Laws.OwnMore
import Derived.Maps.AppendAt
import Derived.Lib.SmallJoins
import Derived.Great.BuildSlice
import Derived.Test.YtbfkecfcolcclaaGreatDoorZA3
import Derived.Test.YtbfkecfcolcclaaGreatDoorZA1
import Derived.Test.YtbfkecfcolcclaaGreatDoorZA2
set_option maxRecDepth 1000000
set_option maxHeartbeats 20000000
namespace Go.Proofs.YtbfkecfcolcclaaGreatDoor
theorem rv_get {l : List Rv} {i : Nat} (h : i < l.length) : l[i]? = some (l.getD i (0,0)):=by rw [List.getD_eq_getElem?_getD,List.getElem?_eq_getElem h]; rfl
theorem mayRs_false {l : List Rv} {j : Nat} (hj : j < l.length) (h : ¬ okR l j) : mayRs l = false:=decide_eq_false fun hh => h (hh.2 j hj)
theorem mayRs_len {l : List Rv} (h : ∀ j,j < l.length → okR l j) : mayRs l = decide (l.length ≤ 200):=by
 unfold mayRs
 by_cases hc : l.length ≤ 200
 ·
  rw [decide_eq_true hc,decide_eq_true ⟨hc,h⟩]
 ·
  rw [decide_eq_false hc,decide_eq_false fun hh => hc hh.1]
/-! ### what it tells -/
/-! ### bytes -/
/-! ### made compact -/
/-! ### sorted -/
end Go.Proofs.YtbfkecfcolcclaaGreatDoor
namespace Go.Proofs.YtbfkecfcolcclaaGreatDoor
structure Pd where
 id : Int
 mi : Int
 sv : Sv
def noPd : Pd:=⟨0,0,noSv⟩
def okP (l : List Pd) (i : Nat) : Prop:=1 ≤ (l.getD i noPd).id ∧ (l.getD i noPd).id ≤ 16 ∧ (0 < i → (l.getD (i - 1) noPd).id < (l.getD i noPd).id) ∧ 1 ≤ (l.getD i noPd).mi ∧ (l.getD i noPd).mi ≤ 1048576 ∧ mayV (l.getD i noPd).sv = true
instance (l : List Pd) (i : Nat) : Decidable (okP l i):=by unfold okP; infer_instance
def mayP (l : List Pd) : Bool:=decide (l.length ≤ 16 ∧ ∀ i,i < l.length → okP l i)
theorem mayP_no {l : List Pd} {i : Nat} (hi : i < l.length) (h : ¬ okP l i) : mayP l = false:=decide_eq_false fun k => h (k.2 i hi)
theorem mayP_len {l : List Pd} (h : ∀ i,i < l.length → okP l i) : mayP l = decide (l.length ≤ 16):=by
 unfold mayP
 by_cases c : l.length ≤ 16
 ·
  rw [decide_eq_true c,decide_eq_true ⟨c,h⟩]
 ·
  rw [decide_eq_false c,decide_eq_false fun k => c k.1]
theorem mayP_ok {l : List Pd} (h : mayP l = true) {i : Nat} (hi : i < l.length) : okP l i:=(of_decide_eq_true h).2 i hi
theorem mayP_16 {l : List Pd} (h : mayP l = true) : l.length ≤ 16:=(of_decide_eq_true h).1
theorem mayP_rise {l : List Pd} (h : mayP l = true) {i : Nat} : ∀ {j : Nat},i < j → j < l.length → (l.getD i noPd).id < (l.getD j noPd).id
 | 0,h1,_ => by omega
 | j + 1,h1,h2 => by
  have h3:=(mayP_ok h h2).2.2.1 (by omega)
  rw [Nat.add_sub_cancel] at h3
  by_cases c : i = j
  ·
   rw [c]; exact h3
  ·
   have:=mayP_rise h (i:=i) (j:=j) (by omega) (by omega)
   omega
def prodP (l : List Pd) (p : Int) : Option Pd:=l.find? fun x => decide (x.id = p)
theorem prodP_no {l : List Pd} {p : Int} (h : ∀ j,j < l.length → (l.getD j noPd).id ≠ p) : prodP l p = none:=List.find?_eq_none.2 fun x hx => by
 obtain ⟨i,hi,rfl⟩:=List.mem_iff_getElem.1 hx
 have:=h i hi
 rw [List.getD_eq_getElem?_getD,List.getElem?_eq_getElem hi] at this
 simpa using this
theorem prodP_is {l : List Pd} {p : Int} : ∀ {i : Nat},i < l.length → (l.getD i noPd).id = p → (∀ j,j < i → (l.getD j noPd).id ≠ p) → prodP l p = some (l.getD i noPd):=by
 induction l with
 | nil => intro i h; simp at h
 | cons x r ih =>
  intro i h1 h2 h3
  unfold prodP
  cases i with
  | zero =>
   have : x.id = p:=h2
   rw [List.find?_cons_of_pos (by simpa using this)]
   rfl
  | succ i =>
   have h0 : x.id ≠ p:=h3 0 (by omega)
   rw [List.find?_cons_of_neg (by simpa using h0)]
   exact ih (i:=i) (by simpa using h1) (by simpa using h2) fun j hj => by have:=h3 (j + 1) (by omega); simpa using this
theorem prodP_at {l : List Pd} {p : Int} (h : mayP l = true) {i : Nat} (h1 : i < l.length) (h2 : (l.getD i noPd).id = p) : prodP l p = some (l.getD i noPd):=prodP_is h1 h2 fun j hj e => by
 have:=mayP_rise h hj h1
 omega
theorem prodP_in {l : List Pd} {p : Int} {x : Pd} (h : prodP l p = some x) : ∃ i,i < l.length ∧ l.getD i noPd = x:=by
 obtain ⟨i,hi,e⟩:=List.mem_iff_getElem.1 (List.mem_of_find?_eq_some h)
 exact ⟨i,hi,by rw [List.getD_eq_getElem?_getD,List.getElem?_eq_getElem hi]; exact e⟩
def whyX (x : Pd) (t : Tk) (z a : Int) : Int:=if t.z / 2 ^ z.toNat % 2 = 0 then 5 else if a < t.f ∨ t.f + x.mi ≤ a ∨ runsV x.sv (a / 1440) = false then 6 else 1
def whyV (l : List Pd) (t : Tk) (z a : Int) : Int:=match prodP l t.p with
 | none => 7
 | some x => whyX x t z a
def placeB (z a : Int) : Bool:=decide (0 ≤ z ∧ z ≤ 7 ∧ 0 ≤ a ∧ a ≤ 1073741824)
def coversV (l : List Pd) (t : Tk) (z a : Int) : Bool:=mayP l && (mayT t && (placeB z a && decide (whyV l t z a = 1)))
end Go.Proofs.YtbfkecfcolcclaaGreatDoor
namespace Go.Proofs.YtbfkecfcolcclaaGreatDoor
open Go.RowKit
open Go.Value renaming int → vI
open Go.IntKind renaming u64 → vU
open Go.Act renaming put → aP
open List renaming setIfInBounds_toArray → lA, set_cons_zero → lZ, set_cons_succ → lS
section
variable {α : Type} {sz : Nat} {cs : α → List Value} {w w' : World} {v : Value} {l : List α} {P : Program}
def Ls (sz : Nat) (cs : α → List Value) (w : World) (v : Value) (l : List α) : Prop :=
 ∃ A c,v = .slice A l.length c ∧ l.length ≤ c ∧ (l.length = 0 ∨ ∃ b o,A = some ⟨b,o,none⟩ ∧ b < w.heap.size ∧ ∀ i x,l[i]? = some x → w.rangeAt b (o + i * sz) (cs x))
theorem zah (h : Ext w w') {b o : Nat} {L : List Value} (hb : b < w.heap.size) (hr : w.rangeAt b o L) : w'.rangeAt b o L:=fun j u hu => (h.cell hb).trans (hr j u hu)
theorem Ls.ext (h : Ls sz cs w v l) (k : Ext w w') : Ls sz cs w' v l:=by
 obtain ⟨A,c,e,hc,hx⟩:=h
 exact ⟨A,c,e,hc,hx.imp id fun ⟨b,o,ha,hb,hr⟩ => ⟨b,o,ha,Nat.lt_of_lt_of_le hb (Below.size k),fun i x hi => zah k hb (hr i x hi)⟩⟩
theorem Ls.nil (w : World) (A : Option Addr) (c : Nat) : Ls sz cs w (.slice A 0 c) ([] : List α):=⟨A,c,rfl,Nat.zero_le _,.inl rfl⟩
theorem Ls.at (h : Ls sz cs w v l) {i : Nat} (hi : i < l.length) : ∃ b o c,v = .slice (some ⟨b,o,none⟩) l.length c ∧ l.length ≤ c ∧ b < w.heap.size ∧ ∀ i x,l[i]? = some x → w.rangeAt b (o + i * sz) (cs x):=by
 obtain ⟨A,c,e,hc,hx⟩:=h
 rcases hx with h0 | ⟨b,o,rfl,hb,hr⟩
 ·
  omega
 ·
  exact ⟨b,o,c,e,hc,hb,hr⟩
variable {base ty : Nat}
theorem ls_one {g c : Nat} {x : α} {fr : Nat × Nat} (hg : w.heap[g]? = some (.cells (cs x).toArray ty fr)) (hc : 1 ≤ c:=by decide) : Ls sz cs w (.slice (some ⟨g,0,none⟩) 1 c) [x] :=
 ⟨_,c,rfl,hc,.inr ⟨g,0,rfl,(Array.getElem?_eq_some_iff.1 hg).1,fun i y hi j u hu => by
  match i,hi with
  | 0,hi =>
   obtain rfl : x = y:=by simpa using hi
   simp only [Nat.zero_mul,Nat.zero_add]
   rw [cell_of_row w g j _ _ _ hg]
   simpa using hu⟩⟩
theorem ls_of {H : Type} {enc : TypeId × Value → H} {t e fuel base : Nat} {sp : Nat → Bool} {hd : Bool} {d : DataW H} {p : List MemPlace} (ht : P.underlying t = some (.slice e)) (hsz : P.cellsOf e = sz) (h0 : 0 < sz)
  (he : ∀ n cs' y,DataW.trod enc P w base sp hd n e cs' = some y → ∃ x,cs' = cs x) (hf : DataW.trod enc P w base sp hd fuel t [v] = some (d,p)) : ∃ l : List α,Ls sz cs w v l:=by
 rcases Go.Deep.open_slice ht hf with ⟨h,_⟩ | ⟨a,len,cap,m,n,D,Pl,h,_,hlc,_,hm,_,hx⟩
 ·
  simp only [List.cons.injEq,and_true] at h
  rw [h]
  exact ⟨[],Ls.nil _ _ _⟩
 ·
  simp only [List.cons.injEq,and_true] at h
  have hlm : len ≤ m:=by rw [hm]; split <;> omega
  have each : ∀ i,i < len → ∃ x : α,(cs x).length = sz ∧ ∀ j u,(cs x)[j]? = some u → w.cell? ((a.add (i * sz)).add j) = some u:=by
   intro i hi
   obtain ⟨cs',h1,h2⟩:=hx i (by omega)
   rw [hsz] at h1
   obtain ⟨_,hlen,hcell⟩:=World.cells?_some h1
   obtain ⟨x,rfl⟩:=he _ _ _ h2
   refine ⟨x,hlen,fun j u hu => ?_⟩
   have hj:=(List.getElem?_eq_some_iff.1 hu).1
   rw [hcell j (by omega),hu]
  by_cases hl0 : len = 0
  ·
   rw [h,hl0]
   exact ⟨[],Ls.nil _ _ _⟩
  ·
   obtain ⟨x0,_⟩:=each 0 (by omega)
   haveI : Inhabited α:=⟨x0⟩
   obtain ⟨q,hq⟩:=Go.Deep.choose_lt each
   refine ⟨(List.range len).map q,some a,cap,by rw [h]; simp,by simpa using hlc,.inr ?_⟩
   obtain ⟨b,off,spot⟩:=a
   have h00 : ∃ u,(cs (q 0))[0]? = some u:=⟨_,List.getElem?_eq_getElem (by rw [(hq 0 (by omega)).1]; exact h0)⟩
   obtain ⟨u0,hu0⟩:=h00
   have hc0:=(hq 0 (by omega)).2 0 u0 hu0
   have hspot : spot = none:=by simpa [Addr.add] using World.cell?_spot hc0
   subst hspot
   have hblk : b < w.heap.size:=by
    have:=World.block_lt_of_cell? w _ hc0
    simpa [Addr.add] using this
   refine ⟨b,off,rfl,hblk,fun i x hi j u hu => ?_⟩
   have hil : i < len:=by
    have:=(List.getElem?_eq_some_iff.1 hi).1
    simpa using this
   obtain rfl : q i = x:=by simpa [hil] using hi
   have:=(hq i hil).2 j u hu
   rw [Addr.add_mid,Addr.add_mid] at this
   exact this
end
def dC (x : Int) : List Value:=[.int .i64 x]
abbrev Ds (w : World) (v : Value) (l : List Int) : Prop:=Ls 1 dC w v l
theorem zcq {w w' : World} {b o i : Nat} {l : List Int} (hE : Ext w w') (hb : b < w.heap.size) (h : ∀ i x,l[i]? = some x → w.rangeAt b (o + i * 1) (dC x)) (hi : i < l.length) : w'.cell? ⟨b,o + i,none⟩ = some (.int .i64 (l.getD i 0)):=by
 have:=zah hE hb (h i _ (d_get hi)) 0 _ rfl
 simpa using this
theorem zdg (v : Value) (l : List Int) (d : Int) (w : World) (hF : Ds w v l) (hL : l.length ≤ 1000000000) :
  Calls Tryz.prog 43 #[v,.int .i64 d] w fun e w' => e = .returned (.bool (decide (d ∈ l))) ∧ Ext w w':=by
 obtain ⟨AL,c,rfl,hc,hx⟩:=hF
 obtain ⟨R,hR⟩ : ∃ R,R = decide (d ∈ l):=⟨_,rfl⟩
 rw [← hR]
 obtain ⟨n,hn⟩ : ∃ n,n = l.length:=⟨_,rfl⟩
 rw [← hn] at hx hc ⊢
 have HR:=veil (And.intro hR (And.intro hn hL))
 have HX:=veil hx
 have hnL : n ≤ 1000000000:=by omega
 clear hR hx hn hL
 go_enter Tryz.func43,Tryz.ntmps43
 go_wp2
 go_loopw [5] (fun v wr => ∃ i : Nat,i ≤ n ∧ v = .int .i64 (i : Int) ∧ (∀ j,j < i → l.getD j 0 ≠ d) ∧ Ext w wr)
  (fun v _ => n - (intOf v).toNat)
 case atStart => exact ⟨0,by omega,rfl,fun j hj => by omega,Ext.refl _⟩
 case round =>
  obtain ⟨i,hi,rfl,hall,hE⟩:=hrel
  by_cases hlt : i < n
  ·
   have hd1 : decide ((i : Int) < (n : Int)) = true:=by simp; omega
   have hii : (i : Int) < (n : Int):=by omega
   obtain ⟨b,o,hAL,hb,hcl⟩:=HX.out.resolve_left (by omega)
   have hil : i < l.length:=by have:=HR.out.2.1; omega
   have c0:=zcq hE hb hcl hil
   have HK:=veil (And.intro hall (And.intro hil hE))
   obtain ⟨k,hk⟩ : ∃ z,z = l.getD i 0:=⟨_,rfl⟩
   rw [← hk] at c0
   have HV:=veil hk
   clear hk hall hcl hb hE hil
   subst hAL
   by_cases g0 : k = d
   ·
    have f1 : (k == d) = true:=by simp [g0]
    have e : R = true:=HR.out.1.trans (d_is HK.out.2.1 (HV.out.symm.trans g0))
    subst e
    clear g0
    go_wp2
    go_ret
    exact ⟨rfl,HK.out.2.2⟩
   ·
    have f1 : (k == d) = false:=by simp [g0]
    have G:=veil g0
    clear g0
    go_wp2
    go_roundw
    case rel =>
     refine ⟨i + 1,by omega,by go_num,fun j hj => ?_,HK.out.2.2⟩
     by_cases e : j = i
     ·
      subst e
      rw [← HV.out]
      exact G.out
     ·
      exact HK.out.1 j (by omega)
    case measure => simp [intOf]; omega
  ·
   obtain rfl : i = n:=by omega
   have hd1 : decide ((i : Int) < (i : Int)) = false:=by simp
   have e : R = false:=HR.out.1.trans (d_not (by rw [← HR.out.2.1]; exact hall))
   subst e
   clear hall
   go_wp2
   go_ret
   exact ⟨rfl,hE⟩
theorem zdq (v : Value) (l : List Int) (w : World) (hF : Ds w v l) (hL : l.length ≤ 1000000000) :
  Calls Tryz.prog 42 #[v] w fun e w' => e = .returned (.bool (daysB l)) ∧ Ext w w':=by
 obtain ⟨AL,c,rfl,hc,hx⟩:=hF
 obtain ⟨R,hR⟩ : ∃ R,R = daysB l:=⟨_,rfl⟩
 rw [← hR]
 obtain ⟨n,hn⟩ : ∃ n,n = l.length:=⟨_,rfl⟩
 rw [← hn] at hx hc ⊢
 have HR:=veil (And.intro hR (And.intro hn hL))
 have HX:=veil hx
 have hnL : n ≤ 1000000000:=by omega
 clear hR hx hn hL
 go_enter Tryz.func42,Tryz.ntmps42
 go_wp2
 go_loopw [3] (fun v wr => ∃ i : Nat,i ≤ n ∧ v = .int .i64 (i : Int) ∧ (∀ j,j < i → okD l j) ∧ Ext w wr)
  (fun v _ => n - (intOf v).toNat)
 case atStart => exact ⟨0,by omega,rfl,fun j hj => by omega,Ext.refl _⟩
 case round =>
  obtain ⟨i,hi,rfl,hall,hE⟩:=hrel
  by_cases hlt : i < n
  ·
   have hd1 : decide ((i : Int) < (n : Int)) = true:=by simp; omega
   have hii : (i : Int) < (n : Int):=by omega
   obtain ⟨b,o,hAL,hb,hcl⟩:=HX.out.resolve_left (by omega)
   have hil : i < l.length:=by have:=HR.out.2.1; omega
   have c0:=zcq hE hb hcl hil
   have hpc : 0 < i → wr.cell? ⟨b,o + (i - 1),none⟩ = some (.int .i64 (l.getD (i - 1) 0)):=fun h0 => zcq hE hb hcl (by omega)
   have hfalse : ∀ h : ¬ okD l i,R = false:=fun h => HR.out.1.trans (daysB_false hil h)
   have HK:=veil (And.intro hall (And.intro hfalse (And.intro hpc hE)))
   obtain ⟨ks,hks⟩ : ∃ z,z = l.getD i 0:=⟨_,rfl⟩
   rw [← hks] at c0
   have HV:=veil hks
   clear hks hil hb hE hall hfalse hpc hcl
   subst hAL
   go_upto_region 4 with (fail)
   by_cases g0 : ks < 0
   ·
    have hd2 : decide (ks < 0) = true:=decide_eq_true g0
    have e : R = false:=HK.out.2.1 fun h => by have h1:=h.1; rw [← HV.out] at h1; omega
    subst e
    go_quiet (fail)
    go_wp2
    go_ret
    exact ⟨rfl,HK.out.2.2.2.trans (Ext.drewK _ _)⟩
   ·
    have hd2 : decide (ks < 0) = false:=decide_eq_false g0
    by_cases g1 : 1048576 < ks
    ·
     have hd3 : decide (1048576 < ks) = true:=decide_eq_true g1
     have e : R = false:=HK.out.2.1 fun h => by have h1:=h.2.1; rw [← HV.out] at h1; omega
     subst e
     go_quiet (fail)
     go_wp2
     go_ret
     exact ⟨rfl,HK.out.2.2.2.trans (Ext.drewK _ _)⟩
    ·
     have hd3 : decide (1048576 < ks) = false:=decide_eq_false g1
     by_cases g7 : i = 0
     ·
      have hd9 : decide (0 < i) = false:=by simp; omega
      have hd9' : decide ((0 : Int) < (i : Int)) = false:=by simp; omega
      have G:=veil g7
      clear g7
      go_quiet (fail)
      go_wp2
      go_roundw
      case rel =>
       refine ⟨i + 1,by omega,by go_num,fun j hj => ?_,HK.out.2.2.2.trans (Ext.drewK _ _)⟩
       obtain rfl : j = i:=by have:=G.out; omega
       unfold okD
       rw [← HV.out]
       exact ⟨by omega,by omega,fun h => absurd h (by have:=G.out; omega)⟩
      case measure => simp [intOf]; omega
     ·
      have hd9 : decide (0 < i) = true:=by simp; omega
      have hd9' : decide ((0 : Int) < (i : Int)) = true:=by simp; omega
      have cp:=HK.out.2.2.1 (by omega)
      obtain ⟨z,hz⟩ : ∃ z,z = l.getD (i - 1) 0:=⟨_,rfl⟩
      rw [← hz] at cp
      have hki2 : (i : Int) - 1 = ((i - 1 : Nat) : Int):=by omega
      obtain ⟨m,hm⟩ : ∃ m,m = i - 1:=⟨_,rfl⟩
      rw [← hm] at cp hki2
      have hmn : (m : Int) < (n : Int):=by omega
      have HZ:=veil (And.intro hz hm)
      clear hz hm
      by_cases g8 : ks ≤ z
      ·
       have hd10 : decide (ks ≤ z) = true:=decide_eq_true g8
       have e : R = false:=HK.out.2.1 fun h => by
        have h1:=h.2.2 (by omega)
        rw [← HV.out,← HZ.out.1] at h1
        omega
       subst e
       go_quiet (fail)
       go_wp2
       go_ret
       exact ⟨rfl,HK.out.2.2.2.trans (Ext.drewK _ _)⟩
      ·
       have hd10 : decide (ks ≤ z) = false:=decide_eq_false g8
       go_quiet (fail)
       go_wp2
       go_roundw
       case rel =>
        refine ⟨i + 1,by omega,by go_num,fun j hj => ?_,HK.out.2.2.2.trans (Ext.drewK _ _)⟩
        by_cases e : j = i
        ·
         subst e
         unfold okD
         rw [← HV.out,← HZ.out.1]
         exact ⟨by omega,by omega,fun _ => by omega⟩
        ·
         exact HK.out.1 j (by omega)
       case measure => simp [intOf]; omega
  ·
   obtain rfl : i = n:=by omega
   have hd1 : decide ((i : Int) < (i : Int)) = false:=by simp
   have e : R = decide ((i : Int) ≤ 100):=by
    rw [HR.out.1,daysB_len (by rw [← HR.out.2.1]; exact hall),← HR.out.2.1]
    by_cases h : i ≤ 100
    ·
     rw [decide_eq_true h,decide_eq_true (by omega)]
    ·
     rw [decide_eq_false h,decide_eq_false (by omega)]
   have HE:=veil e
   clear hall e
   go_wp2
   go_ret
   exact ⟨by rw [HE.out]; rfl,hE⟩
theorem up_calls12 {P : Program} {w : World} {D : World → Prop} (h : Up w D) {f : FuncId} {args : Array Value} {v : Value} (k : ∀ W,Ext w W → Calls P f args W fun _e w' => _e = .returned v ∧ Ext W w') (x : Gw D) :
  Calls P f args x.val fun _e w' => _e = .returned v ∧ ∃ y : Gw D,w' = y.val :=
 (k _ (h.grown _ x.property)).mono fun _ w' ⟨he,hE⟩ => ⟨he,⟨w',h.up _ _ x.property hE⟩,rfl⟩
def svC (s : Sv) (vE vX : Value) : Array Value:=#[.int .i64 s.wk,.int .i64 s.fr,.int .i64 s.to,vE,vX]
def Vs12 (w : World) (v : Value) (s : Sv) : Prop:=∃ vE vX,v = .agg (svC s vE vX) ∧ Ds w vE s.ex ∧ Ds w vX s.ec
theorem Vs12.ext {w w' : World} {v : Value} {s : Sv} (h : Vs12 w v s) (k : Ext w w') : Vs12 w' v s:=by
 obtain ⟨vE,vX,e,h1,h2⟩:=h
 exact ⟨vE,vX,e,h1.ext k,h2.ext k⟩
theorem iSv (s : Sv) (vE vX : Value) : (Tryz.prog.info? 49).map (·.size) = some (svC s vE vX).size:=by
 show _ = some 5
 kernel_rfl
section
variable {w w' : World} {g : Nat} {s : Sv} {vE vX : Value}
def SvAt (w : World) (g : Nat) (s : Sv) (vE vX : Value) : Prop:=w.heap[g]? = some (.cells (svC s vE vX) 49 (0,0))
theorem SvAt.ext (h : SvAt w g s vE vX) (k : Ext w w') : SvAt w' g s vE vX:=k.block h
theorem SvAt.at0 (h : SvAt w g s vE vX) : w.cell? ⟨g,0,none⟩ = some (.int .i64 s.wk):=cell_of_row w g 0 _ _ _ h
theorem SvAt.at1 (h : SvAt w g s vE vX) : w.cell? ⟨g,1,none⟩ = some (.int .i64 s.fr):=cell_of_row w g 1 _ _ _ h
theorem SvAt.at2 (h : SvAt w g s vE vX) : w.cell? ⟨g,2,none⟩ = some (.int .i64 s.to):=cell_of_row w g 2 _ _ _ h
theorem SvAt.at3 (h : SvAt w g s vE vX) : w.cell? ⟨g,3,none⟩ = some vE:=cell_of_row w g 3 _ _ _ h
theorem SvAt.at4 (h : SvAt w g s vE vX) : w.cell? ⟨g,4,none⟩ = some vX:=cell_of_row w g 4 _ _ _ h
theorem SvAt.new (w : World) (s : Sv) (vE vX : Value) : SvAt (w.alloc (.cells (svC s vE vX) 49)) w.heap.size s vE vX:=zag w _
end
theorem zas {wk fr tu : Int} {ex ec : List Int} (h : ¬ (0 ≤ wk ∧ wk ≤ 127 ∧ 0 ≤ fr ∧ fr ≤ tu ∧ tu ≤ 1048576)) : boundB ⟨wk,fr,tu,ex,ec⟩ = false:=decide_eq_false h
theorem boundB_yes {wk fr tu : Int} {ex ec : List Int} (h : 0 ≤ wk ∧ wk ≤ 127 ∧ 0 ≤ fr ∧ fr ≤ tu ∧ tu ≤ 1048576) : boundB ⟨wk,fr,tu,ex,ec⟩ = true:=decide_eq_true h
theorem mayV_ex {s : Sv} (h : ¬ s.ex.length ≤ 100) : mayV s = false:=by unfold mayV; rw [zdh h]; rfl
theorem mayV_ec {s : Sv} (h : ¬ s.ec.length ≤ 100) : mayV s = false:=by unfold mayV; rw [zdh h]; simp
theorem mayV_far {s : Sv} (h : farB s.ex s.ec = false) : mayV s = false:=by unfold mayV; rw [h]; simp
theorem mayV_rest {s : Sv} (h : farB s.ex s.ec = true) : mayV s = (daysB s.ex && daysB s.ec && boundB s):=by unfold mayV; rw [h,Bool.and_true]
theorem rmay12_calls (v : Value) (s : Sv) (w : World) (hF : Vs12 w v s) (h1 : s.ex.length ≤ 1000000000) (h2 : s.ec.length ≤ 1000000000) :
  Calls Tryz.prog 20 #[v] w fun e w' => e = .returned (.bool (mayV s)) ∧ Ext w w':=by
 obtain ⟨vE,vX,rfl,hE,hX⟩:=hF
 obtain ⟨R,hR⟩ : ∃ R,R = mayV s:=⟨_,rfl⟩
 rw [← hR]
 have KA:=veil (fun W (h : Ext w W) => zdq vE s.ex W (hE.ext h) h1)
 have KB:=veil (fun W (h : Ext w W) => zdq vX s.ec W (hX.ext h) h2)
 have KI:=veil (fun d W (h : Ext w W) => zdg vX s.ec d W (hX.ext h) h2)
 obtain ⟨AE,cE,rfl,hcE,hxE⟩:=hE
 obtain ⟨AX,cX,rfl,hcX,_⟩:=hX
 obtain ⟨n,hn⟩ : ∃ n,n = s.ex.length:=⟨_,rfl⟩
 obtain ⟨m,hm⟩ : ∃ m,m = s.ec.length:=⟨_,rfl⟩
 rw [← hn] at hxE KA hcE ⊢
 rw [← hm] at KB KI hcX ⊢
 have HX:=veil hxE
 have HR:=veil (And.intro hR (And.intro hn (And.intro hm h1)))
 have hnL : n ≤ 1000000000:=by omega
 have hmL : m ≤ 1000000000:=by omega
 have hE0:=Ext.alloc w (.cells (svC s (.slice AE n cE) (.slice AX m cX)) 49)
 have hS0:=SvAt.new w s (.slice AE n cE) (.slice AX m cX)
 clear hR hn hm h1 h2 hxE
 obtain ⟨wk,fr,tu,ex,ec⟩:=s
 simp only at HX HR KA KB KI
 unfold svC at hE0 ⊢
 simp only at hE0 ⊢
 go_enter Tryz.func20,Tryz.ntmps20
 go_upto_region 1 with (fail)
 unfold SvAt svC at hS0
 simp only at hS0
 obtain ⟨g,hg⟩ : ∃ g,g = w.heap.size:=⟨_,rfl⟩
 rw [← hg] at hS0 ⊢
 generalize w.alloc (.cells #[.int .i64 wk,.int .i64 fr,.int .i64 tu,.slice AE n cE,.slice AX m cX] 49) = w0 at *
 have HS:=veil (show SvAt w0 g ⟨wk,fr,tu,ex,ec⟩ (.slice AE n cE) (.slice AX m cX) from hS0)
 have HE:=veil hE0
 clear hE0 hS0 hg
 have c3:=HS.out.at3
 have c4:=HS.out.at4
 by_cases a1 : (100 : Int) < (n : Int)
 ·
  have d1 : decide ((100 : Int) < (n : Int)) = true:=decide_eq_true a1
  have e : R = false:=HR.out.1.trans (mayV_ex (by show ¬ ex.length ≤ 100; have:=HR.out.2.1; omega))
  subst e
  go_wp2
  go_ret
  exact ⟨rfl,HE.out⟩
 have d1 : decide ((100 : Int) < (n : Int)) = false:=decide_eq_false a1
 by_cases a2 : (100 : Int) < (m : Int)
 ·
  have d2 : decide ((100 : Int) < (m : Int)) = true:=decide_eq_true a2
  have e : R = false:=HR.out.1.trans (mayV_ec (by show ¬ ec.length ≤ 100; have:=HR.out.2.2.1; omega))
  subst e
  go_wp2
  go_ret
  exact ⟨rfl,HE.out⟩
 have d2 : decide ((100 : Int) < (m : Int)) = false:=decide_eq_false a2
 go_upto_region 4 with (go_at_call 42; refine (KA.out _ HE.out).mono ?_; rintro e w1 ⟨rfl,hE1⟩)
 have HE1:=veil (HE.out.trans hE1)
 have HS1:=veil (HS.out.ext hE1)
 clear hE1 c3 c4 d1 d2 a1 a2 KA HS HE
 have c4:=HS1.out.at4
 go_upto_region 5 with (go_at_call 42; refine (KB.out _ HE1.out).mono ?_; rintro e w2 ⟨rfl,hE2⟩)
 have HE2:=veil (HE1.out.trans hE2)
 have HS2:=veil (HS1.out.ext hE2)
 clear hE2 c4 HS1 HE1 KB
 obtain ⟨A,hA⟩ : ∃ A,A = daysB ex:=⟨_,rfl⟩
 obtain ⟨B,hB⟩ : ∃ B,B = daysB ec:=⟨_,rfl⟩
 rw [← hA,← hB]
 have HAB:=veil (And.intro hA hB)
 clear hA hB
 go_wp2
 go_loopw [5,6] (fun v _ wr => ∃ i : Nat,i ≤ n ∧ v = .int .i64 (i : Int) ∧ (∀ j,j < i → ex.getD j 0 ∉ ec) ∧ Ext w2 wr)
  (fun v _ _ => n - (intOf v).toNat)
 case atStart => exact ⟨0,by omega,rfl,fun j hj => by omega,Ext.refl _⟩
 case round =>
  obtain ⟨i,hi,rfl,hall,hE⟩:=hrel
  have c3:=(HS2.out.ext hE).at3
  by_cases hlt : i < n
  ·
   have hd1 : decide ((i : Int) < (n : Int)) = true:=by simp; omega
   have hii : (i : Int) < (n : Int):=by omega
   obtain ⟨b,o,hAL,hb,hcl⟩:=HX.out.resolve_left (by omega)
   have hil : i < ex.length:=by have:=HR.out.2.1; omega
   have c0:=zcq (HE2.out.trans hE) hb hcl hil
   have c4:=(HS2.out.ext hE).at4
   have HK:=veil (And.intro hall (And.intro hil hE))
   obtain ⟨k,hk⟩ : ∃ z,z = ex.getD i 0:=⟨_,rfl⟩
   rw [← hk] at c0
   have HV:=veil hk
   clear hk hall hcl hb hE hil
   subst hAL
   obtain ⟨J,hJ⟩ : ∃ J,J = decide (k ∈ ec):=⟨_,rfl⟩
   have HJ:=veil hJ
   clear hJ
   go_upto_region 8 with (fail)
   refine wp_sched 9 [(true,List.range 9)] (by kernel_rfl) (by kernel_rfl) fun Q' hQ' => ?_
   refine' sched_row (A:=_) _ rfl (by kernel_rfl) ?_ ?_
   rotate_left
   ·
    intro D hD hN
    have e0:=hD.cell c0
    have e3:=hD.cell c3
    have e4:=hD.cell c4
    have KC:=veil (fun x : Gw D => up_calls12 hD (v:=.bool J) (fun W hW => by have:=KI.out k W (HE2.out.trans (HK.out.2.2.trans hW)); rwa [← HJ.out] at this) x)
    simp only [List.range,List.range.loop,pickI,consO,List.getElem?_cons_zero,List.getElem?_cons_succ]
    repeat (go_big_quiet_step (exact KC.out _))
    exact wpq_end
   refine sched_end hQ' fun W3 hE3 => ?_
   have HE3:=veil (HK.out.2.2.trans hE3)
   clear hE3 c0 c3 c4
   cases J with
   | true =>
    have e : R = false:=HR.out.1.trans (mayV_far (farB_false HK.out.2.1 (by rw [← HV.out]; exact of_decide_eq_true HJ.out.symm)))
    subst e
    go_wp2
    go_ret
    exact ⟨rfl,HE2.out.trans HE3.out⟩
   | false =>
    go_wp2
    go_roundw
    case rel =>
     refine ⟨i + 1,by omega,by go_num,fun j hj => ?_,HE3.out⟩
     by_cases e : j = i
     ·
      subst e
      rw [← HV.out]
      exact of_decide_eq_false HJ.out.symm
     ·
      exact HK.out.1 j (by omega)
    case measure => simp [intOf]; omega
  ·
   obtain rfl : i = n:=by omega
   have hd1 : decide ((i : Int) < (i : Int)) = false:=by simp
   have hR:=HR.out.1.trans (mayV_rest (farB_true (by show ∀ j,j < ex.length → ex.getD j 0 ∉ ec; rw [← HR.out.2.1]; exact hall)))
   simp only [← HAB.out.1,← HAB.out.2] at hR
   have c0:=(HS2.out.ext hE).at0
   have c1:=(HS2.out.ext hE).at1
   have c2:=(HS2.out.ext hE).at2
   simp only at c0 c1 c2
   have H9:=veil (HE2.out.trans hE)
   clear hall hE HR HX HE2 HS2 KI hcE hcX HAB
   cases A with
   | false =>
    obtain rfl : R = false:=hR
    go_wp2
    go_ret
    exact ⟨rfl,H9.out⟩
   | true =>
    cases B with
    | false =>
     obtain rfl : R = false:=hR
     go_wp2
     go_ret
     exact ⟨rfl,H9.out⟩
    | true =>
     replace hR : R = boundB ⟨wk,fr,tu,ex,ec⟩:=hR
     by_cases g0 : (0 : Int) ≤ wk
     rotate_left
     ·
      have f0 : decide ((0 : Int) ≤ wk) = false:=decide_eq_false g0
      obtain rfl : R = false:=hR.trans (zas fun h => by omega)
      clear hR
      go_wp2
      go_ret
      exact ⟨rfl,H9.out⟩
     have f0 : decide ((0 : Int) ≤ wk) = true:=decide_eq_true g0
     by_cases g1 : wk ≤ 127
     rotate_left
     ·
      have f1 : decide (wk ≤ 127) = false:=decide_eq_false g1
      obtain rfl : R = false:=hR.trans (zas fun h => by omega)
      clear hR
      go_wp2
      go_ret
      exact ⟨rfl,H9.out⟩
     have f1 : decide (wk ≤ 127) = true:=decide_eq_true g1
     by_cases g2 : (0 : Int) ≤ fr
     rotate_left
     ·
      have f2 : decide ((0 : Int) ≤ fr) = false:=decide_eq_false g2
      obtain rfl : R = false:=hR.trans (zas fun h => by omega)
      clear hR
      go_wp2
      go_ret
      exact ⟨rfl,H9.out⟩
     have f2 : decide ((0 : Int) ≤ fr) = true:=decide_eq_true g2
     by_cases g3 : fr ≤ tu
     rotate_left
     ·
      have f3 : decide (fr ≤ tu) = false:=decide_eq_false g3
      obtain rfl : R = false:=hR.trans (zas fun h => by omega)
      clear hR
      go_wp2
      go_ret
      exact ⟨rfl,H9.out⟩
     have f3 : decide (fr ≤ tu) = true:=decide_eq_true g3
     by_cases g4 : tu ≤ 1048576
     rotate_left
     ·
      have f4 : decide (tu ≤ 1048576) = false:=decide_eq_false g4
      obtain rfl : R = false:=hR.trans (zas fun h => by omega)
      clear hR
      go_wp2
      go_ret
      exact ⟨rfl,H9.out⟩
     have f4 : decide (tu ≤ 1048576) = true:=decide_eq_true g4
     obtain rfl : R = true:=hR.trans (boundB_yes ⟨g0,g1,g2,g3,g4⟩)
     clear hR
     go_wp2
     go_ret
     exact ⟨rfl,H9.out⟩
abbrev Sw:=Sv × Value × Value
def swC (x : Sw) : List Value:=[.int .i64 x.1.wk,.int .i64 x.1.fr,.int .i64 x.1.to,x.2.1,x.2.2]
section
variable {w w' : World} {g : Nat} {vS vC : Value} {c : Cn}
end
abbrev Pw:=Pd × Value × Value
def pwC (x : Pw) : List Value:=[.int .i64 x.1.id,.int .i64 x.1.mi,.int .i64 x.1.sv.wk,.int .i64 x.1.sv.fr,.int .i64 x.1.sv.to,x.2.1,x.2.2]
def Ps14 (w : World) (v : Value) (l : List Pw) : Prop:=Ls 7 pwC w v l ∧ ∀ x ∈ l,Ds w x.2.1 x.1.sv.ex ∧ Ds w x.2.2 x.1.sv.ec
theorem Ps14.ext {w w' : World} {v : Value} {l : List Pw} (h : Ps14 w v l) (k : Ext w w') : Ps14 w' v l:=⟨h.1.ext k,fun x hx => ⟨(h.2 x hx).1.ext k,(h.2 x hx).2.ext k⟩⟩
def noPw : Pw:=(noPd,.slice none 0 0,.slice none 0 0)
theorem zch {l : List Pw} {i : Nat} (h : i < l.length) : l[i]? = some (l.getD i noPw):=by rw [List.getD_eq_getElem?_getD,List.getElem?_eq_getElem h]; rfl
theorem pw_mem {l : List Pw} {i : Nat} (h : i < l.length) : l.getD i noPw ∈ l:=List.mem_of_getElem? (zch h)
theorem pw_fst {l : List Pw} (i : Nat) : (l.map (·.1)).getD i noPd = (l.getD i noPw).1:=by
 rw [List.getD_eq_getElem?_getD,List.getD_eq_getElem?_getD,List.getElem?_map]
 cases l[i]? <;> rfl
def pds (l : List Pw) : List Pd:=l.map (·.1)
theorem zbm (l : List Pw) : (pds l).length = l.length:=List.length_map ..
theorem pds_at (l : List Pw) (i : Nat) : (pds l).getD i noPd = (l.getD i noPw).1:=pw_fst i
def pwS (x : Pw) : List Value:=[.int .i64 x.1.sv.wk,.int .i64 x.1.sv.fr,.int .i64 x.1.sv.to,x.2.1,x.2.2]
theorem iPwS (x : Pw) : (Tryz.prog.info? 49).map (·.size) = some (pwS x).length:=iSv x.1.sv x.2.1 x.2.2
theorem iPw (x : Pw) : (Tryz.prog.info? 51).map (·.size) = some (pwC x).length:=by
 show _ = some 7
 kernel_rfl
theorem pwS_range {w : World} {b o : Nat} {x : Pw} (h : w.rangeAt b o (pwC x)) : w.rangeAt b (o + 2) (pwS x):=fun j v hj => by
 have:=h (j + 2) v (by simpa [pwC,pwS] using hj)
 rwa [show o + (j + 2) = o + 2 + j by omega] at this
def smallP (x : Pd) : Prop:=x.sv.ex.length ≤ 300 ∧ x.sv.ec.length ≤ 300
instance (x : Pd) : Decidable (smallP x):=by unfold smallP; infer_instance
def fewP (l : List Pd) : Bool:=decide (l.length ≤ 60 ∧ ∀ i,i < l.length → smallP (l.getD i noPd))
theorem fewP_no {l : List Pd} {i : Nat} (hi : i < l.length) (h : ¬ smallP (l.getD i noPd)) : fewP l = false:=decide_eq_false fun k => h (k.2 i hi)
theorem fewP_len {l : List Pd} (h : ∀ i,i < l.length → smallP (l.getD i noPd)) : fewP l = decide (l.length ≤ 60):=by
 unfold fewP
 by_cases c : l.length ≤ 60
 ·
  rw [decide_eq_true c,decide_eq_true ⟨c,h⟩]
 ·
  rw [decide_eq_false c,decide_eq_false fun k => c k.1]
theorem fewP_60 {l : List Pd} (h : fewP l = true) : l.length ≤ 60:=(of_decide_eq_true h).1
theorem fewP_at {l : List Pd} (h : fewP l = true) {i : Nat} (hi : i < l.length) : smallP (l.getD i noPd):=(of_decide_eq_true h).2 i hi
theorem few14_calls (v : Value) (l : List Pw) (w : World) (hF : Ps14 w v l) (hL : (l.length : Int) ≤ 9223372036854775807) : Calls Tryz.prog 7 #[v] w fun e w' => e = .returned (.bool (fewP (pds l))) ∧ w' = w:=by
 obtain ⟨⟨AL,c,rfl,hc,hx⟩,hD⟩:=hF
 obtain ⟨R,hR⟩ : ∃ R,R = fewP (pds l):=⟨_,rfl⟩
 rw [← hR]
 obtain ⟨n,hn⟩ : ∃ n,n = l.length:=⟨_,rfl⟩
 rw [← hn] at hx hc hL ⊢
 have HX:=veil (And.intro hx hD)
 have HR:=veil (And.intro hR (And.intro hn (hn.trans (zbm l).symm)))
 clear hR hx hn hD
 go_enter Tryz.func7,Tryz.ntmps7
 go_wp2
 go_loopw [3] (fun v wr => ∃ i : Nat,i ≤ n ∧ v = .int .i64 (i : Int) ∧ (∀ j,j < i → smallP ((pds l).getD j noPd)) ∧ wr = w)
  (fun v _ => n - (intOf v).toNat)
 case atStart => exact ⟨0,by omega,rfl,fun j hj => by omega,rfl⟩
 case round =>
  obtain ⟨i,hi,rfl,hall,rfl⟩:=hrel
  by_cases hlt : i < n
  ·
   have hd1 : decide ((i : Int) < (n : Int)) = true:=by simp; omega
   have hii : (i : Int) < (n : Int):=by omega
   obtain ⟨b,o,hAL,hb,hcl⟩:=HX.out.1.resolve_left (by omega)
   have hil : i < l.length:=by have:=HR.out.2.1; omega
   have hrg:=hcl i _ (zch hil)
   have hdd:=HX.out.2 _ (pw_mem hil)
   have hs:=pds_at l i
   obtain ⟨x,hxx⟩ : ∃ x,x = l.getD i noPw:=⟨_,rfl⟩
   rw [← hxx] at hrg hdd hs
   obtain ⟨s,vE,vX⟩:=x
   obtain ⟨⟨AE,cE,hvE,_,_⟩,⟨AX,cX,hvX,_,_⟩⟩:=hdd
   simp only at hvE hvX hs
   subst hvE hvX
   obtain ⟨p,hp⟩ : ∃ p,p = s.sv.ex.length:=⟨_,rfl⟩
   obtain ⟨q,hq⟩ : ∃ q,q = s.sv.ec.length:=⟨_,rfl⟩
   rw [← hp,← hq] at hrg
   have c5 : wr.cell? ⟨b,o + i * 7 + 5,none⟩ = some (.slice AE p cE):=hrg 5 _ rfl
   have c6 : wr.cell? ⟨b,o + i * 7 + 6,none⟩ = some (.slice AX q cX):=hrg 6 _ rfl
   have HI:=veil (And.intro hall (And.intro hs (And.intro hp hq)))
   have hno : ¬ (p ≤ 300 ∧ q ≤ 300) → R = false:=fun h => HR.out.1.trans (fewP_no (i:=i) (by have:=HR.out.2.2; omega) (by rw [hs]; unfold smallP; rw [← hp,← hq]; exact h))
   have HN:=veil hno
   subst hAL
   clear hrg hxx hs hp hq hall hb hcl hil hno
   by_cases a1 : (300 : Int) < (p : Int)
   ·
    have d1 : decide ((300 : Int) < (p : Int)) = true:=decide_eq_true a1
    obtain rfl : R = false:=HN.out (by omega)
    go_wp2
    go_ret
    exact ⟨rfl,rfl⟩
   have d1 : decide ((300 : Int) < (p : Int)) = false:=decide_eq_false a1
   by_cases a2 : (300 : Int) < (q : Int)
   ·
    have d2 : decide ((300 : Int) < (q : Int)) = true:=decide_eq_true a2
    obtain rfl : R = false:=HN.out (by omega)
    go_wp2
    go_ret
    exact ⟨rfl,rfl⟩
   have d2 : decide ((300 : Int) < (q : Int)) = false:=decide_eq_false a2
   go_wp2
   go_roundw
   case rel =>
    refine ⟨i + 1,by omega,by go_num,fun j hj => ?_,trivial⟩
    by_cases e : j = i
    ·
     subst e
     rw [HI.out.2.1]
     unfold smallP
     rw [← HI.out.2.2.1,← HI.out.2.2.2]
     omega
    ·
     exact HI.out.1 j (by omega)
   case measure => simp [intOf]; omega
  ·
   obtain rfl : i = n:=by omega
   have hd1 : decide ((i : Int) < (i : Int)) = false:=by simp
   have e : R = decide ((i : Int) ≤ 60):=by
    rw [HR.out.1,fewP_len (by rw [← HR.out.2.2]; exact hall),← HR.out.2.2]
    by_cases h : i ≤ 60
    ·
     rw [decide_eq_true h,decide_eq_true (by omega)]
    ·
     rw [decide_eq_false h,decide_eq_false (by omega)]
   have HE:=veil e
   clear hall e
   go_wp2
   go_ret
   exact ⟨by rw [HE.out]; rfl,rfl⟩
theorem place14_calls (z a : Int) (w : World) : Calls Tryz.prog 15 #[.int .i64 z,.int .i64 a] w fun e w' => e = .returned (.bool (placeB z a)) ∧ w' = w:=by
 obtain ⟨R,hR⟩ : ∃ R,R = placeB z a:=⟨_,rfl⟩
 rw [← hR]
 unfold placeB at hR
 by_cases g0 : (0 : Int) ≤ z
 rotate_left
 ·
  have f0 : decide ((0 : Int) ≤ z) = false:=decide_eq_false g0
  obtain rfl : R = false:=hR.trans (decide_eq_false fun h => by omega)
  clear hR
  go_enter Tryz.func15,Tryz.ntmps15
  go_wp2
  go_ret
  exact ⟨rfl,rfl⟩
 have f0 : decide ((0 : Int) ≤ z) = true:=decide_eq_true g0
 by_cases g1 : z ≤ 7
 rotate_left
 ·
  have f1 : decide (z ≤ 7) = false:=decide_eq_false g1
  obtain rfl : R = false:=hR.trans (decide_eq_false fun h => by omega)
  clear hR
  go_enter Tryz.func15,Tryz.ntmps15
  go_wp2
  go_ret
  exact ⟨rfl,rfl⟩
 have f1 : decide (z ≤ 7) = true:=decide_eq_true g1
 by_cases g2 : (0 : Int) ≤ a
 rotate_left
 ·
  have f2 : decide ((0 : Int) ≤ a) = false:=decide_eq_false g2
  obtain rfl : R = false:=hR.trans (decide_eq_false fun h => by omega)
  clear hR
  go_enter Tryz.func15,Tryz.ntmps15
  go_wp2
  go_ret
  exact ⟨rfl,rfl⟩
 have f2 : decide ((0 : Int) ≤ a) = true:=decide_eq_true g2
 by_cases g3 : a ≤ 1073741824
 rotate_left
 ·
  have f3 : decide (a ≤ 1073741824) = false:=decide_eq_false g3
  obtain rfl : R = false:=hR.trans (decide_eq_false fun h => by omega)
  clear hR
  go_enter Tryz.func15,Tryz.ntmps15
  go_wp2
  go_ret
  exact ⟨rfl,rfl⟩
 have f3 : decide (a ≤ 1073741824) = true:=decide_eq_true g3
 obtain rfl : R = true:=hR.trans (decide_eq_true ⟨g0,g1,g2,g3⟩)
 clear hR
 go_enter Tryz.func15,Tryz.ntmps15
 go_wp2
 go_ret
 exact ⟨rfl,rfl⟩
theorem rmay14_calls (v : Value) (l : List Pw) (w : World) (hF : Ps14 w v l) (hL : fewP (pds l) = true) : Calls Tryz.prog 8 #[v] w fun e w' => e = .returned (.bool (mayP (pds l))) ∧ Ext w w':=by
 obtain ⟨⟨AL,c,rfl,hc,hx⟩,hD⟩:=hF
 obtain ⟨R,hR⟩ : ∃ R,R = mayP (pds l):=⟨_,rfl⟩
 rw [← hR]
 have h60:=fewP_60 hL
 rw [zbm] at h60
 obtain ⟨n,hn⟩ : ∃ n,n = l.length:=⟨_,rfl⟩
 rw [← hn] at hx hc h60 ⊢
 have HX:=veil (And.intro hx hD)
 have HR:=veil (And.intro hR (And.intro hn (And.intro (hn.trans (zbm l).symm) hL)))
 clear hR hx hn hL hD
 go_enter Tryz.func8,Tryz.ntmps8
 go_wp2
 go_loopw [3,4] (fun v _ wr => ∃ i : Nat,i ≤ n ∧ v = .int .i64 (i : Int) ∧ (∀ j,j < i → okP (pds l) j) ∧ Ext w wr)
  (fun v _ _ => n - (intOf v).toNat)
 case atStart => exact ⟨0,by omega,rfl,fun j hj => by omega,Ext.refl _⟩
 case round =>
  obtain ⟨i,hi,rfl,hall,hE⟩:=hrel
  by_cases hlt : i < n
  ·
   have hd1 : decide ((i : Int) < (n : Int)) = true:=by simp; omega
   have hii : (i : Int) < (n : Int):=by omega
   obtain ⟨b,o,hAL,hb,hcl⟩:=HX.out.1.resolve_left (by omega)
   have hil : i < l.length:=by have:=HR.out.2.1; omega
   have hrg:=hcl i _ (zch hil)
   have hdd:=HX.out.2 _ (pw_mem hil)
   have hs:=pds_at l i
   have hfew:=fewP_at HR.out.2.2.2 (i:=i) (by have:=HR.out.2.2.1; omega)
   rw [hs] at hfew
   have hpr : 0 < i → ∀ W,Ext w W → W.cell? ⟨b,o + (i - 1) * 7,none⟩ = some (.int .i64 ((pds l).getD (i - 1) noPd).id):=fun h0 W hW => by
    rw [pds_at]
    exact zah hW hb (hcl (i - 1) _ (zch (by omega))) 0 _ rfl
   obtain ⟨x,hxx⟩ : ∃ x,x = l.getD i noPw:=⟨_,rfl⟩
   rw [← hxx] at hrg hdd hs hfew
   have hKM:=rmay12_calls (.agg (pwS x).toArray) x.1.sv wr ⟨_,_,rfl,hdd.1.ext hE,hdd.2.ext hE⟩ (by have:=hfew.1; omega) (by have:=hfew.2; omega)
   have hRG:=zah hE hb (pwS_range hrg)
   have hc0 : ∀ W,Ext w W → W.cell? ⟨b,o + i * 7,none⟩ = some (.int .i64 x.1.id):=fun W hW => zah hW hb hrg 0 _ rfl
   have hc1 : ∀ W,Ext w W → W.cell? ⟨b,o + i * 7 + 1,none⟩ = some (.int .i64 x.1.mi):=fun W hW => zah hW hb hrg 1 _ rfl
   have hfalse : ∀ h : ¬ okP (pds l) i,R = false:=fun h => HR.out.1.trans (mayP_no (by have:=HR.out.2.2.1; omega) h)
   obtain ⟨M,hM⟩ : ∃ M,M = mayV x.1.sv:=⟨_,rfl⟩
   rw [← hM] at hKM
   obtain ⟨id,hid⟩ : ∃ z,z = x.1.id:=⟨_,rfl⟩
   obtain ⟨mi,hmi⟩ : ∃ z,z = x.1.mi:=⟨_,rfl⟩
   rw [← hid] at hc0
   rw [← hmi] at hc1
   have KM:=veil hKM
   have HG:=veil hRG
   have HC:=veil (And.intro hc0 (And.intro hc1 hpr))
   have HV:=veil (And.intro hall (And.intro hfalse (And.intro hs (And.intro hM (And.intro hid hmi)))))
   have HE:=veil hE
   subst hAL
   clear hrg hxx hs hM hid hmi hall hfalse hb hcl hil hdd hfew hc0 hc1 hpr hKM hRG hE
   go_upto_region 5 with (first
    | ((with_reducible refine zaa 15 ?_); refine wpList_load_mid rfl 49 _ rfl b _ rfl (pwS x) _ HG.out Tryz.underlying49 rfl (iPwS x) ?_)
    | (go_at_call 20; refine KM.out.mono ?_; rintro e w1 ⟨rfl,hE1⟩))
   have HE1:=veil (HE.out.trans hE1)
   have c0:=HC.out.1 w1 HE1.out
   have c1:=HC.out.2.1 w1 HE1.out
   clear KM HG HE hE1
   by_cases a0 : id < (1 : Int)
   ·
    have da0 : decide (id < (1 : Int)) = true:=decide_eq_true a0
    obtain rfl : R = false:=HV.out.2.1 fun h => by unfold okP at h; rw [HV.out.2.2.1,← HV.out.2.2.2.2.1,← HV.out.2.2.2.2.2,← HV.out.2.2.2.1] at h; have h1:=h.1; omega
    go_quiet (fail)
    go_wp2
    go_ret
    exact ⟨rfl,HE1.out.trans (Ext.drewK _ _)⟩
   have da0 : decide (id < (1 : Int)) = false:=decide_eq_false a0
   by_cases a1 : (16 : Int) < id
   ·
    have da1 : decide ((16 : Int) < id) = true:=decide_eq_true a1
    obtain rfl : R = false:=HV.out.2.1 fun h => by unfold okP at h; rw [HV.out.2.2.1,← HV.out.2.2.2.2.1,← HV.out.2.2.2.2.2,← HV.out.2.2.2.1] at h; have h1:=h.2.1; omega
    go_quiet (fail)
    go_wp2
    go_ret
    exact ⟨rfl,HE1.out.trans (Ext.drewK _ _)⟩
   have da1 : decide ((16 : Int) < id) = false:=decide_eq_false a1
   by_cases g7 : i = 0
   ·
    have d9 : decide (0 < i) = false:=by simp; omega
    have d9' : decide ((0 : Int) < (i : Int)) = false:=by simp; omega
    have G:=veil g7
    clear g7
    by_cases a3 : mi < (1 : Int)
    ·
     have da3 : decide (mi < (1 : Int)) = true:=decide_eq_true a3
     obtain rfl : R = false:=HV.out.2.1 fun h => by unfold okP at h; rw [HV.out.2.2.1,← HV.out.2.2.2.2.1,← HV.out.2.2.2.2.2,← HV.out.2.2.2.1] at h; have h1:=h.2.2.2.1; omega
     go_quiet (fail)
     go_wp2
     go_ret
     exact ⟨rfl,HE1.out.trans (Ext.drewK _ _)⟩
    have da3 : decide (mi < (1 : Int)) = false:=decide_eq_false a3
    by_cases a4 : (1048576 : Int) < mi
    ·
     have da4 : decide ((1048576 : Int) < mi) = true:=decide_eq_true a4
     obtain rfl : R = false:=HV.out.2.1 fun h => by unfold okP at h; rw [HV.out.2.2.1,← HV.out.2.2.2.2.1,← HV.out.2.2.2.2.2,← HV.out.2.2.2.1] at h; have h1:=h.2.2.2.2.1; omega
     go_quiet (fail)
     go_wp2
     go_ret
     exact ⟨rfl,HE1.out.trans (Ext.drewK _ _)⟩
    have da4 : decide ((1048576 : Int) < mi) = false:=decide_eq_false a4
    cases M with
    | false =>
     obtain rfl : R = false:=HV.out.2.1 fun h => by unfold okP at h; rw [HV.out.2.2.1,← HV.out.2.2.2.2.1,← HV.out.2.2.2.2.2,← HV.out.2.2.2.1] at h; have h1:=h.2.2.2.2.2; cases h1
     go_quiet (fail)
     go_wp2
     go_ret
     exact ⟨rfl,HE1.out.trans (Ext.drewK _ _)⟩
    | true =>
     have HO:=veil (show okP (pds l) i from by unfold okP; rw [HV.out.2.2.1,← HV.out.2.2.2.2.1,← HV.out.2.2.2.2.2,← HV.out.2.2.2.1]; exact ⟨by omega,by omega,fun h => absurd h (by have:=G.out; omega),by omega,by omega,rfl⟩)
     clear a0 a1 a3 a4
     go_quiet (fail)
     go_wp2
     go_roundw
     case rel =>
      refine ⟨i + 1,by omega,by go_num,fun j hj => ?_,HE1.out.trans (Ext.drewK _ _)⟩
      by_cases e : j = i
      ·
       subst e; exact HO.out
      ·
       exact HV.out.1 j (by omega)
     case measure => simp [intOf]; omega
   ·
    have d9 : decide (0 < i) = true:=by simp; omega
    have d9' : decide ((0 : Int) < (i : Int)) = true:=by simp; omega
    have cp:=HC.out.2.2 (by omega) w1 HE1.out
    obtain ⟨z,hz⟩ : ∃ z,z = ((pds l).getD (i - 1) noPd).id:=⟨_,rfl⟩
    rw [← hz] at cp
    have hki2 : (i : Int) - 1 = ((i - 1 : Nat) : Int):=by omega
    obtain ⟨m,hm⟩ : ∃ m,m = i - 1:=⟨_,rfl⟩
    rw [← hm] at cp hki2
    have hmn : (m : Int) < (n : Int):=by omega
    have HZ:=veil (And.intro hz (And.intro hm (show 0 < i by omega)))
    clear hz hm g7
    by_cases a2 : id ≤ z
    ·
     have da2 : decide (id ≤ z) = true:=decide_eq_true a2
     obtain rfl : R = false:=HV.out.2.1 fun h => by unfold okP at h; rw [HV.out.2.2.1,← HV.out.2.2.2.2.1,← HZ.out.1] at h; have h1:=h.2.2.1 HZ.out.2.2; omega
     go_quiet (fail)
     go_wp2
     go_ret
     exact ⟨rfl,HE1.out.trans (Ext.drewK _ _)⟩
    have da2 : decide (id ≤ z) = false:=decide_eq_false a2
    by_cases a3 : mi < (1 : Int)
    ·
     have da3 : decide (mi < (1 : Int)) = true:=decide_eq_true a3
     obtain rfl : R = false:=HV.out.2.1 fun h => by unfold okP at h; rw [HV.out.2.2.1,← HV.out.2.2.2.2.1,← HV.out.2.2.2.2.2,← HV.out.2.2.2.1] at h; have h1:=h.2.2.2.1; omega
     go_quiet (fail)
     go_wp2
     go_ret
     exact ⟨rfl,HE1.out.trans (Ext.drewK _ _)⟩
    have da3 : decide (mi < (1 : Int)) = false:=decide_eq_false a3
    by_cases a4 : (1048576 : Int) < mi
    ·
     have da4 : decide ((1048576 : Int) < mi) = true:=decide_eq_true a4
     obtain rfl : R = false:=HV.out.2.1 fun h => by unfold okP at h; rw [HV.out.2.2.1,← HV.out.2.2.2.2.1,← HV.out.2.2.2.2.2,← HV.out.2.2.2.1] at h; have h1:=h.2.2.2.2.1; omega
     go_quiet (fail)
     go_wp2
     go_ret
     exact ⟨rfl,HE1.out.trans (Ext.drewK _ _)⟩
    have da4 : decide ((1048576 : Int) < mi) = false:=decide_eq_false a4
    cases M with
    | false =>
     obtain rfl : R = false:=HV.out.2.1 fun h => by unfold okP at h; rw [HV.out.2.2.1,← HV.out.2.2.2.2.1,← HV.out.2.2.2.2.2,← HV.out.2.2.2.1] at h; have h1:=h.2.2.2.2.2; cases h1
     go_quiet (fail)
     go_wp2
     go_ret
     exact ⟨rfl,HE1.out.trans (Ext.drewK _ _)⟩
    | true =>
     have HO:=veil (show okP (pds l) i from by unfold okP; rw [HV.out.2.2.1,← HV.out.2.2.2.2.1,← HV.out.2.2.2.2.2,← HV.out.2.2.2.1]; exact ⟨by omega,by omega,fun _ => by rw [← HZ.out.1]; omega,by omega,by omega,rfl⟩)
     clear a0 a1 a3 a4
     go_quiet (fail)
     go_wp2
     go_roundw
     case rel =>
      refine ⟨i + 1,by omega,by go_num,fun j hj => ?_,HE1.out.trans (Ext.drewK _ _)⟩
      by_cases e : j = i
      ·
       subst e; exact HO.out
      ·
       exact HV.out.1 j (by omega)
     case measure => simp [intOf]; omega
  ·
   obtain rfl : i = n:=by omega
   have hd1 : decide ((i : Int) < (i : Int)) = false:=by simp
   have e : R = decide ((i : Int) ≤ 16):=by
    rw [HR.out.1,mayP_len (by rw [← HR.out.2.2.1]; exact hall),← HR.out.2.2.1]
    by_cases h : i ≤ 16
    ·
     rw [decide_eq_true h,decide_eq_true (by omega)]
    ·
     rw [decide_eq_false h,decide_eq_false (by omega)]
   have HE:=veil (And.intro e hE)
   clear hall e hE
   go_wp2
   go_ret
   exact ⟨by rw [HE.out.1]; rfl,HE.out.2⟩
theorem zca (w : Int) (h : 0 ≤ w) : ∀ k : Nat,w / 2 ^ k ≤ w
 | 0 => by simp
 | k + 1 => by
  rw [← half_step w h k,Int.tdiv_eq_ediv_of_nonneg (zan w h k)]
  have:=zca w h k
  have:=zan w h k
  omega
theorem zcc {x : Int} (h0 : 0 ≤ x) (h1 : x ≤ 127) : IntKind.i64.wrap x = x:=by
 rw [IntKind.wrap_i64]
 omega
theorem rruns12_calls (v : Value) (s : Sv) (d : Int) (w : World) (hF : Vs12 w v s) (hM : mayV s = true) :
  Calls Tryz.prog 44 #[v,.int .i64 d] w fun e w' => e = .returned (.bool (runsV s d)) ∧ Ext w w':=by
 obtain ⟨h1,h2,_,m1,m2,m3,m4,m5⟩:=zby hM
 obtain ⟨vE,vX,rfl,hE,hX⟩:=hF
 obtain ⟨R,hR⟩ : ∃ R,R = runsV s d:=⟨_,rfl⟩
 rw [← hR]
 have KA:=veil (fun W (h : Ext w W) => zdg vE s.ex d W (hE.ext h) (by have:=zbt h1; omega))
 have KB:=veil (fun W (h : Ext w W) => zdg vX s.ec d W (hX.ext h) (by have:=zbt h2; omega))
 obtain ⟨wk,fr,tu,ex,ec⟩:=s
 obtain ⟨AE,cE,rfl,_,_⟩:=hE
 obtain ⟨AX,cX,rfl,_,_⟩:=hX
 simp only at KA KB m1 m2 m3 m4 m5
 obtain ⟨n,hn⟩ : ∃ n,n = ex.length:=⟨_,rfl⟩
 obtain ⟨m,hm⟩ : ∃ m,m = ec.length:=⟨_,rfl⟩
 simp only [← hn,← hm] at KA KB ⊢
 clear hn hm
 have hE0:=Ext.alloc w (.cells (svC ⟨wk,fr,tu,ex,ec⟩ (.slice AE n cE) (.slice AX m cX)) 49)
 have hS0:=SvAt.new w ⟨wk,fr,tu,ex,ec⟩ (.slice AE n cE) (.slice AX m cX)
 unfold runsV at hR
 simp only at hR
 obtain ⟨I,hI⟩ : ∃ I,I = decide (d ∈ ex):=⟨_,rfl⟩
 obtain ⟨J,hJ⟩ : ∃ J,J = decide (d ∈ ec):=⟨_,rfl⟩
 rw [← hI,← hJ] at hR
 rw [← hI] at KA
 rw [← hJ] at KB
 have HR:=veil hR
 have HM:=veil (And.intro m1 (And.intro m2 (And.intro m3 (And.intro m4 m5))))
 clear hM h1 h2 hR hI hJ m1 m2 m3 m4 m5
 unfold svC at hE0 ⊢
 simp only at hE0 ⊢
 go_enter Tryz.func44,Tryz.ntmps44
 go_upto_region 1 with (fail)
 unfold SvAt svC at hS0
 simp only at hS0
 obtain ⟨g,hg⟩ : ∃ g,g = w.heap.size:=⟨_,rfl⟩
 rw [← hg] at hS0 ⊢
 generalize w.alloc (.cells #[.int .i64 wk,.int .i64 fr,.int .i64 tu,.slice AE n cE,.slice AX m cX] 49) = w0 at *
 have HS:=veil (show SvAt w0 g ⟨wk,fr,tu,ex,ec⟩ (.slice AE n cE) (.slice AX m cX) from hS0)
 have HE:=veil hE0
 clear hE0 hS0 hg
 have c3:=HS.out.at3
 go_upto_region 2 with (go_at_call 43; refine (KA.out _ HE.out).mono ?_; rintro e w1 ⟨rfl,hE1⟩)
 have HE1:=veil (HE.out.trans hE1)
 have HS1:=veil (HS.out.ext hE1)
 clear hE1 c3 KA HS HE
 have c4:=HS1.out.at4
 go_upto_region 3 with (go_at_call 43; refine (KB.out _ HE1.out).mono ?_; rintro e w2 ⟨rfl,hE2⟩)
 have HE2:=veil (HE1.out.trans hE2)
 have HS2:=veil (HS1.out.ext hE2)
 clear hE2 c4 HS1 HE1 KB
 have c0:=HS2.out.at0
 have c1:=HS2.out.at1
 have c2:=HS2.out.at2
 simp only at c0 c1 c2
 clear HS2
 cases I with
 | true =>
  have e : R = true:=HR.out
  subst e
  go_wp2
  go_ret
  exact ⟨rfl,HE2.out⟩
 | false =>
  cases J with
  | true =>
   have e : R = false:=HR.out
   subst e
   go_wp2
   go_ret
   exact ⟨rfl,HE2.out⟩
  | false =>
   by_cases g1 : d < fr
   ·
    have d1 : decide (d < fr) = true:=decide_eq_true g1
    have e : R = false:=HR.out.trans (by rw [decide_eq_false (p:=_ ∧ _) fun h => by omega]; rfl)
    subst e
    go_wp2
    go_ret
    exact ⟨rfl,HE2.out⟩
   have d1 : decide (d < fr) = false:=decide_eq_false g1
   by_cases g2 : tu ≤ d
   ·
    have d2 : decide (tu ≤ d) = true:=decide_eq_true g2
    have e : R = false:=HR.out.trans (by rw [decide_eq_false (p:=_ ∧ _) fun h => by omega]; rfl)
    subst e
    go_wp2
    go_ret
    exact ⟨rfl,HE2.out⟩
   have d2 : decide (tu ≤ d) = false:=decide_eq_false g2
   obtain ⟨K,hK⟩ : ∃ K : Nat,K = (d % 7).toNat:=⟨_,rfl⟩
   have hd0 : 0 ≤ d:=by have:=HM.out.2.2.1; omega
   have hr : d.tmod 7 = (K : Int):=by rw [Int.tmod_eq_emod_of_nonneg hd0,hK]; omega
   have hK7 : K < 7:=by omega
   have e : R = decide (wk / 2 ^ K % 2 = 1):=by
    rw [HR.out,← hK]
    have e1 : (fr ≤ d) = True:=eq_true (by omega)
    have e2 : (d < tu) = True:=eq_true (by omega)
    simp [e1,e2]
   have HQ:=veil (And.intro e hd0)
   clear e HR hK hd0
   go_wp2
   go_loopw [7,8] (fun u v wr => ∃ i : Nat,i ≤ K ∧ v = .int .i64 (i : Int) ∧ u = .int .i64 (wk / 2 ^ i) ∧ Ext w2 wr)
    (fun _ v _ => K - (intOf v).toNat)
   case atStart => exact ⟨0,by omega,rfl,by simp,Ext.refl _⟩
   case round =>
    obtain ⟨i,hi,rfl,rfl,hE⟩:=hrel
    have q0:=zan wk HM.out.1 i
    have q1:=zca wk HM.out.1 i
    have q2:=HM.out.2.1
    obtain ⟨x,hx⟩ : ∃ x,x = wk / 2 ^ i:=⟨_,rfl⟩
    rw [← hx] at q0 q1 ⊢
    have hxw : IntKind.i64.wrap x = x:=zcc q0 (by omega)
    by_cases hlt : i < K
    ·
     have hd1 : decide ((i : Int) < (K : Int)) = true:=by simp; omega
     have hii : (i : Int) < (K : Int):=by omega
     have hs:=half_step wk HM.out.1 i
     have q3:=zan wk HM.out.1 (i + 1)
     have q4:=zca wk HM.out.1 (i + 1)
     rw [← hx] at hs
     obtain ⟨y,hy⟩ : ∃ y,y = wk / 2 ^ (i + 1):=⟨_,rfl⟩
     rw [← hy] at hs q3 q4
     have hyw : IntKind.i64.wrap y = y:=zcc q3 (by omega)
     have HY:=veil (And.intro hy hE)
     clear hy hE q0 q1 q2 q3 q4 hx
     go_wp2
     go_roundw
     case rel => exact ⟨i + 1,by omega,by go_num,by rw [← HY.out.1]; (try simp only [hs,hyw]),HY.out.2⟩
     case measure => simp [intOf]; omega
    ·
     obtain rfl : i = K:=by omega
     have hd1 : decide ((i : Int) < (i : Int)) = false:=by simp
     have hb:=rem_one x
     have e : R = decide (x % 2 = 1):=by rw [HQ.out.1,hx]
     rw [← e] at hb
     have HE9:=veil (HE2.out.trans hE)
     clear e HQ hx hE HE2
     go_wp2
     go_ret
     exact ⟨rfl,HE9.out⟩
section
variable {w w' : World} {g : Nat} {t : Tk}
def TkAt (w : World) (g : Nat) (t : Tk) : Prop:=w.heap[g]? = some (.cells (tkC t) 24 (0,0))
theorem TkAt.ext (h : TkAt w g t) (k : Ext w w') : TkAt w' g t:=k.block h
theorem TkAt.at0 (h : TkAt w g t) : w.cell? ⟨g,0,none⟩ = some (.int .i64 t.s):=cell_of_row w g 0 _ _ _ h
theorem TkAt.at1 (h : TkAt w g t) : w.cell? ⟨g,1,none⟩ = some (.int .i64 t.p):=cell_of_row w g 1 _ _ _ h
theorem TkAt.at2 (h : TkAt w g t) : w.cell? ⟨g,2,none⟩ = some (.int .i64 t.z):=cell_of_row w g 2 _ _ _ h
theorem TkAt.at3 (h : TkAt w g t) : w.cell? ⟨g,3,none⟩ = some (.int .i64 t.f):=cell_of_row w g 3 _ _ _ h
theorem TkAt.new (w : World) (t : Tk) : TkAt (w.alloc (.cells (tkC t) 24)) w.heap.size t:=zag w _
end
theorem mayT_is {t : Tk} (h : mayT t = true) : 1 ≤ t.s ∧ t.s ≤ 2147483647 ∧ 1 ≤ t.p ∧ t.p ≤ 16 ∧ 1 ≤ t.z ∧ t.z ≤ 255 ∧ 0 ≤ t.f ∧ t.f ≤ 1073741824 ∧ 1 ≤ t.k ∧ t.k ≤ 2147483647:=of_decide_eq_true h
theorem placeB_is {z a : Int} (h : placeB z a = true) : 0 ≤ z ∧ z ≤ 7 ∧ 0 ≤ a ∧ a ≤ 1073741824:=of_decide_eq_true h
theorem whyX_zone {x : Pd} {t : Tk} {z a : Int} (h : t.z / 2 ^ z.toNat % 2 = 0) : whyX x t z a = 5:=if_pos h
theorem zcs {x : Pd} {t : Tk} {z a : Int} (h : ¬ t.z / 2 ^ z.toNat % 2 = 0) (k : a < t.f ∨ t.f + x.mi ≤ a ∨ runsV x.sv (a / 1440) = false) : whyX x t z a = 6:=by unfold whyX; rw [if_neg h,if_pos k]
theorem whyX_ok {x : Pd} {t : Tk} {z a : Int} (h : ¬ t.z / 2 ^ z.toNat % 2 = 0) (k1 : ¬ a < t.f) (k2 : ¬ t.f + x.mi ≤ a) (k3 : runsV x.sv (a / 1440) = true) : whyX x t z a = 1:=by
 unfold whyX
 rw [if_neg h,if_neg fun k => by
  rcases k with k | k | k
  ·
   exact k1 k
  ·
   exact k2 k
  ·
   rw [k3] at k; cases k]
theorem whyV_none {l : List Pd} {t : Tk} {z a : Int} (h : prodP l t.p = none) : whyV l t z a = 7:=by unfold whyV; rw [h]
theorem whyV_some {l : List Pd} {t : Tk} {z a : Int} {x : Pd} (h : prodP l t.p = some x) : whyV l t z a = whyX x t z a:=by unfold whyV; rw [h]
theorem rwhy14_calls (v : Value) (l : List Pw) (t : Tk) (z a : Int) (w : World) (hF : Ps14 w v l) (hM : mayP (pds l) = true) (hT : mayT t = true) (hP : placeB z a = true) :
  Calls Tryz.prog 22 #[v,tkV t,.int .i64 z,.int .i64 a] w fun e w' => e = .returned (.int .i64 (whyV (pds l) t z a)) ∧ Ext w w':=by
 obtain ⟨⟨AL,c,rfl,hc,hx⟩,hD⟩:=hF
 obtain ⟨R,hR⟩ : ∃ R,R = whyV (pds l) t z a:=⟨_,rfl⟩
 rw [← hR]
 have h16:=mayP_16 hM
 rw [zbm] at h16
 obtain ⟨n,hn⟩ : ∃ n,n = l.length:=⟨_,rfl⟩
 rw [← hn] at hx hc h16 ⊢
 have HX:=veil (And.intro hx hD)
 have HR:=veil (And.intro hR (And.intro hn (And.intro (hn.trans (zbm l).symm) hM)))
 have HT:=veil (And.intro (mayT_is hT) (placeB_is hP))
 have hE0:=Ext.alloc w (.cells (tkC t) 24)
 have hS0:=TkAt.new w t
 clear hR hx hn hD hM hT hP
 unfold tkV
 go_enter Tryz.func22,Tryz.ntmps22
 go_upto_region 1 with (fail)
 obtain ⟨g,hg⟩ : ∃ g,g = w.heap.size:=⟨_,rfl⟩
 rw [← hg] at hS0 ⊢
 generalize w.alloc (.cells (tkC t) 24) = w0 at *
 have HS:=veil hS0
 have HE:=veil hE0
 clear hE0 hS0 hg
 obtain ⟨p,hp⟩ : ∃ p,p = t.p:=⟨_,rfl⟩
 have HPp:=veil hp
 go_wp2
 go_loopw [9,10] (fun u v wr => ∃ i : Nat,i ≤ n ∧ v = .int .i64 (i : Int) ∧ ((u = .int .i64 (-1) ∧ ∀ j,j < i → ((pds l).getD j noPd).id ≠ t.p) ∨ (∃ m : Nat,m < i ∧ u = .int .i64 (m : Int) ∧ ((pds l).getD m noPd).id = t.p)) ∧ Ext w0 wr)
  (fun _ v _ => n - (intOf v).toNat)
 case atStart => exact ⟨0,by omega,rfl,.inl ⟨rfl,fun j hj => by omega⟩,Ext.refl _⟩
 case round =>
  obtain ⟨i,hi,rfl,hst,hE⟩:=hrel
  by_cases hlt : i < n
  ·
   have hd1 : decide ((i : Int) < (n : Int)) = true:=by simp; omega
   have hii : (i : Int) < (n : Int):=by omega
   obtain ⟨b,o,hAL,hb,hcl⟩:=HX.out.1.resolve_left (by omega)
   have hil : i < l.length:=by have:=HR.out.2.1; omega
   have c0 : wr.cell? ⟨b,o + i * 7,none⟩ = some (.int .i64 (l.getD i noPw).1.id):=zah (HE.out.trans hE) hb (hcl i _ (zch hil)) 0 _ rfl
   have c1:=(HS.out.ext hE).at1
   rw [← pds_at] at c0
   rw [← hp] at c1
   obtain ⟨id,hid⟩ : ∃ z,z = ((pds l).getD i noPd).id:=⟨_,rfl⟩
   rw [← hid] at c0
   have HV:=veil (And.intro hid (And.intro hst hE))
   subst hAL
   clear hid hb hcl hil hst hE
   go_upto_region 5 with (fail)
   by_cases g0 : id = p
   ·
    have f0 : (id == p) = true:=by simp [g0]
    have G:=veil g0
    clear g0
    go_quiet (fail)
    go_wp2
    go_roundw
    case rel => exact ⟨i + 1,by omega,by go_num,.inr ⟨i,by omega,rfl,by rw [← HV.out.1,G.out,HPp.out]⟩,HV.out.2.2.trans (Ext.drewK _ _)⟩
    case measure => simp [intOf]; omega
   ·
    have f0 : (id == p) = false:=by simp [g0]
    have G:=veil g0
    clear g0
    go_quiet (fail)
    go_wp2
    go_roundw
    case rel =>
     refine ⟨i + 1,by omega,by go_num,?_,HV.out.2.2.trans (Ext.drewK _ _)⟩
     rcases HV.out.2.1 with ⟨h1,h2⟩ | ⟨m,h1,h2,h3⟩
     ·
      refine .inl ⟨h1,fun j hj => ?_⟩
      by_cases e : j = i
      ·
       subst e; rw [← HV.out.1,← HPp.out]; exact G.out
      ·
       exact h2 j (by omega)
     ·
      exact .inr ⟨m,by omega,h2,h3⟩
    case measure => simp [intOf]; omega
  ·
   obtain rfl : i = n:=by omega
   have hd1 : decide ((i : Int) < (i : Int)) = false:=by simp
   have HE1:=veil hE
   clear hE
   rcases hst with ⟨rfl,hno⟩ | ⟨m,hmi,rfl,hid⟩
   ·
    obtain rfl : R = 7:=HR.out.1.trans (whyV_none (prodP_no fun j hj => hno j (by have:=HR.out.2.2.1; omega)))
    clear hno
    go_wp2
    go_ret
    exact ⟨rfl,HE.out.trans HE1.out⟩
   ·
    have hmp : m < (pds l).length:=by have:=HR.out.2.2.1; omega
    have hwx:=whyV_some (t:=t) (z:=z) (a:=a) (prodP_at HR.out.2.2.2 hmp hid)
    have hok:=mayP_ok HR.out.2.2.2 hmp
    obtain ⟨b,o,hAL,hb,hcl⟩:=HX.out.1.resolve_left (by omega)
    have hil : m < l.length:=by have:=HR.out.2.1; omega
    have hrg:=hcl m _ (zch hil)
    have hdd:=HX.out.2 _ (pw_mem hil)
    have hs:=pds_at l m
    rw [hs] at hwx
    unfold okP at hok
    rw [hs] at hok
    obtain ⟨x,hxx⟩ : ∃ x,x = l.getD m noPw:=⟨_,rfl⟩
    rw [← hxx] at hrg hdd hwx hok
    have HW:=veil (And.intro (HR.out.1.trans hwx) (And.intro hok.2.2.2.1 hok.2.2.2.2.1))
    obtain ⟨y,hy⟩ : ∃ y,y = runsV x.1.sv (a / 1440):=⟨_,rfl⟩
    have KR:=veil (fun W (h : Ext w W) => rruns12_calls (.agg (pwS x).toArray) x.1.sv (a / 1440) W ⟨_,_,rfl,hdd.1.ext h,hdd.2.ext h⟩ hok.2.2.2.2.2)
    rw [← hy] at KR
    have HRG:=veil (fun W (h : Ext w W) => zah h hb (pwS_range hrg))
    have HC1:=veil (fun W (h : Ext w W) => show W.cell? ⟨b,o + m * 7 + 1,none⟩ = some (.int .i64 x.1.mi) from zah h hb hrg 1 _ rfl)
    obtain ⟨mi,hmi2⟩ : ∃ z,z = x.1.mi:=⟨_,rfl⟩
    rw [← hmi2] at HC1
    have HY:=veil (And.intro hy hmi2)
    subst hAL
    have hmn : (m : Int) < (i : Int):=by omega
    have hm0 : ¬ ((m : Int) < 0):=by omega
    have c2:=(HS.out.ext HE1.out).at2
    obtain ⟨Z,hZ⟩ : ∃ Z : Nat,(Z : Int) = z:=⟨z.toNat,by have:=HT.out.2; omega⟩
    have HZ:=veil hZ
    subst hZ
    have hZ7 : Z ≤ 7:=by have:=HT.out.2; omega
    clear hid hwx hok hb hcl hil hs hxx hrg hdd hmp hy hmi2 hi hlt hd1
    go_wp2
    go_loopw [11,12] (fun u v wr => ∃ i : Nat,i ≤ Z ∧ v = .int .i64 (i : Int) ∧ u = .int .i64 (t.z / 2 ^ i) ∧ Ext w0 wr)
     (fun _ v _ => Z - (intOf v).toNat)
    case atStart => exact ⟨0,by omega,rfl,by simp,HE1.out⟩
    case round =>
     obtain ⟨j,hj,rfl,rfl,hE⟩:=hrel
     clear c2
     have tz0 : 0 ≤ t.z:=by have:=HT.out.1.2.2.2.2.1; omega
     have tz1 : t.z ≤ 255:=HT.out.1.2.2.2.2.2.1
     have q0:=zan t.z tz0 j
     have q1:=zca t.z tz0 j
     obtain ⟨x',hx'⟩ : ∃ x',x' = t.z / 2 ^ j:=⟨_,rfl⟩
     rw [← hx'] at q0 q1 ⊢
     by_cases hlt : j < Z
     ·
      have hd1 : decide ((j : Int) < (Z : Int)) = true:=by simp; omega
      have hs:=half_step t.z tz0 j
      have q3:=zan t.z tz0 (j + 1)
      have q4:=zca t.z tz0 (j + 1)
      rw [← hx'] at hs
      obtain ⟨y',hy'⟩ : ∃ y',y' = t.z / 2 ^ (j + 1):=⟨_,rfl⟩
      rw [← hy'] at hs q3 q4
      have hxq : x' ≤ 255:=by omega
      have hyq : y' ≤ 255:=by omega
      have HQ:=veil (And.intro hy' hE)
      clear hE hx' q1 q4 tz0 tz1 hy'
      go_wp2
      go_roundw
      case rel => exact ⟨j + 1,by omega,by go_num,by rw [← HQ.out.1]; (try simp only [hs]),HQ.out.2⟩
      case measure => simp [intOf]; omega
     ·
      obtain rfl : j = Z:=by omega
      have hd1 : decide ((j : Int) < (j : Int)) = false:=by simp
      have HE2:=veil (And.intro hE (HE.out.trans hE))
      have hxz : t.z / 2 ^ ((j : Int)).toNat = x':=by rw [hx']; simp
      have HXz:=veil hxz
      clear hE hx' q1 tz0 tz1 hxz
      by_cases g5 : x' % 2 = 0
      ·
       have f5 : (x' % 2 == 0) = true:=by rw [g5]; rfl
       obtain rfl : R = 5:=HW.out.1.trans (whyX_zone (by rw [HXz.out]; exact g5))
       clear g5
       go_wp2
       go_ret
       exact ⟨rfl,HE2.out.2⟩
      have f5 : (x' % 2 == 0) = false:=by simpa using g5
      have G5:=veil g5
      clear g5
      obtain ⟨D,hD⟩ : ∃ D,D = a / 1440:=⟨_,rfl⟩
      have hDt : a.tdiv 1440 = D:=by rw [hD,Int.tdiv_eq_ediv_of_nonneg (by have:=HT.out.2; omega)]
      have hD0 : 0 ≤ D:=by have:=HT.out.2; omega
      have hD1 : D ≤ 1073741824:=by have:=HT.out.2; omega
      rw [← hD] at KR
      have HDd:=veil hD
      clear hD
      go_upto_region 17 with (first
       | ((with_reducible refine zaa 47 ?_); refine wpList_load_mid rfl 49 _ rfl b _ rfl (pwS x) _ (HRG.out _ HE2.out.2) Tryz.underlying49 rfl (iPwS x) ?_)
       | (go_at_call 44; refine (KR.out _ HE2.out.2).mono ?_; rintro e w1 ⟨rfl,hE1⟩))
      have HE3:=veil (HE2.out.2.trans hE1)
      have c3:=(HS.out.ext (HE2.out.1.trans hE1)).at3
      have c1:=HC1.out _ HE3.out
      obtain ⟨f,hf⟩ : ∃ f,f = t.f:=⟨_,rfl⟩
      rw [← hf] at c3
      have HF:=veil hf
      have hfb : 0 ≤ f ∧ f ≤ 1073741824:=by have:=HT.out.1.2.2.2.2.2.2; omega
      have hmb : 1 ≤ mi ∧ mi ≤ 1048576:=by have:=HW.out.2; have:=HY.out.2; omega
      have hf0:=hfb.1
      have hf1:=hfb.2
      have hmm0:=hmb.1
      have hmm1:=hmb.2
      clear hf hE1 hfb hmb KR HRG HC1 hDt hD0 hD1
      by_cases g1 : a < f
      ·
       have d1 : decide (a < f) = true:=decide_eq_true g1
       obtain rfl : R = 6:=HW.out.1.trans (zcs (by rw [HXz.out]; exact G5.out) (.inl (by rw [← HF.out]; exact g1)))
       go_quiet (fail)
       go_wp2
       go_ret
       exact ⟨rfl,HE3.out.trans (Ext.drewK _ _)⟩
      have d1 : decide (a < f) = false:=decide_eq_false g1
      by_cases g2 : f + mi ≤ a
      ·
       have d2 : decide (f + mi ≤ a) = true:=decide_eq_true g2
       obtain rfl : R = 6:=HW.out.1.trans (zcs (by rw [HXz.out]; exact G5.out) (.inr (.inl (by rw [← HF.out,← HY.out.2]; exact g2))))
       go_quiet (fail)
       go_wp2
       go_ret
       exact ⟨rfl,HE3.out.trans (Ext.drewK _ _)⟩
      have d2 : decide (f + mi ≤ a) = false:=decide_eq_false g2
      cases y with
      | false =>
       obtain rfl : R = 6:=HW.out.1.trans (zcs (by rw [HXz.out]; exact G5.out) (.inr (.inr HY.out.1.symm)))
       go_quiet (fail)
       go_wp2
       go_ret
       exact ⟨rfl,HE3.out.trans (Ext.drewK _ _)⟩
      | true =>
       obtain rfl : R = 1:=HW.out.1.trans (whyX_ok (by rw [HXz.out]; exact G5.out) (by rw [← HF.out]; exact g1) (by rw [← HF.out,← HY.out.2]; exact g2) HY.out.1.symm)
       go_quiet (fail)
       go_wp2
       go_ret
       exact ⟨rfl,HE3.out.trans (Ext.drewK _ _)⟩
theorem rng_fd {w : World} {b o : Nat} {x y : Value} (h0 : w.cell? ⟨b,o,none⟩ = some x) (h1 : w.cell? ⟨b,o + 1,none⟩ = some y) : w.rangeAt b o [x,y]:=fun j v hv => by
 match j,hv with
 | 0,hv => rw [Nat.add_zero,h0]; simpa using hv
 | 1,hv => rw [h1]; simpa using hv
theorem infoF2 : (Tryz.prog.info? 135).map (·.size) = some 2:=by kernel_rfl
theorem hzF (W : World) : (Instr.alloc 135 true (.tuple #[])).run Tryz.prog W = .ok (ptrTo W.heap.size) (W.alloc (.cells #[.int .i64 0,.slice none 0 0] 135)):=by simp [Instr.alloc,go_sem]
theorem cells_fd {w : World} {g : Nat} {x y : Value} (h : w.heap[g]? = some (.cells #[x,y] 135 (0,0))) : w.cell? ⟨g,0,none⟩ = some x ∧ w.cell? ⟨g,1,none⟩ = some y:=⟨by rw [cell_of_row w g 0 _ _ _ h]; rfl,by rw [cell_of_row w g 1 _ _ _ h]; rfl⟩
theorem one_fd {T : Int} {A : Option Addr} {L c : Nat} : (#[.int .i64 T,.slice A L c] : Array Value).all (·.oneCell') = true:=by simp [Value.oneCell']
theorem may8_calls (v : Value) (fs : List Fd) (w : World) (hF : Fl w v fs) (hL : fs.length ≤ 1000000000) :
  Calls Tryz.prog 140 #[v] w fun e w' => e = .returned (.bool (mayFs fs)) ∧ Ext w w':=by
 obtain ⟨hB,AL,c,rfl,hc,hx⟩:=hF
 obtain ⟨R,hR⟩ : ∃ R,R = mayFs fs:=⟨_,rfl⟩
 rw [← hR]
 obtain ⟨n,hn⟩ : ∃ n,n = fs.length:=⟨_,rfl⟩
 rw [← hn] at hx hc ⊢
 have HR:=veil (And.intro hR (And.intro hn hL))
 have HX:=veil hx
 have hnL : n ≤ 1000000000:=by omega
 clear hR hx hB hn hL
 by_cases h64 : (64 : Int) < (n : Int)
 ·
  have hd : decide ((64 : Int) < (n : Int)) = true:=decide_eq_true h64
  have e : R = false:=by
   rw [HR.out.1]
   exact decide_eq_false fun hh => by have:=hh.1; have:=HR.out.2.1; omega
  subst e
  go_enter Tryz.func140,Tryz.ntmps140
  go_wp2
  go_ret
  exact ⟨rfl,Ext.refl _⟩
 ·
  have hd : decide ((64 : Int) < (n : Int)) = false:=decide_eq_false h64
  have hn64 : n ≤ 64:=by omega
  clear hnL h64
  go_enter Tryz.func140,Tryz.ntmps140
  go_wp2
  go_loopw [3,11] (fun s v wr => ∃ (i : Nat) (P : Int),i ≤ n ∧ s = .int .i64 P ∧ v = .int .i64 (i : Int) ∧ (∀ j,j < i → okF fs j) ∧ 0 ≤ P ∧ P ≤ 255 ∧ (i = 0 ∧ P = 0 ∨ 0 < i ∧ P = tgF fs (i - 1)) ∧ Ext w wr)
   (fun _ v _ => n - (intOf v).toNat)
  case atStart => exact ⟨0,0,by omega,rfl,rfl,fun j hj => by omega,by omega,by omega,.inl ⟨rfl,rfl⟩,Ext.refl _⟩
  case round =>
   obtain ⟨i,P,hi,rfl,rfl,hall,hP0,hP1,hP,hE⟩:=hrel
   by_cases hlt : i < n
   ·
    have hd1 : decide ((i : Int) < (n : Int)) = true:=by simp; omega
    have hii : (i : Int) < (n : Int):=by omega
    obtain ⟨b,o,hAL,hb,hcl⟩:=HX.out.resolve_left (by omega)
    obtain ⟨h1,A,c',h2,_,_⟩:=hcl i hlt
    have c0:=(hE.cell hb).trans h1
    have c1:=(hE.cell hb).trans h2
    obtain ⟨T,hT⟩ : ∃ T,T = tgF fs i:=⟨_,rfl⟩
    obtain ⟨L,hL⟩ : ∃ L,L = (bsF fs i).length:=⟨_,rfl⟩
    rw [← hT] at c0
    rw [← hL] at c1
    have HT:=veil (And.intro hT (And.intro hL hP))
    have HALL:=veil hall
    have hfalse : ∀ h : ¬ okF fs i,R = false:=fun h => HR.out.1.trans (mayFs_false (by have:=HR.out.2.1; omega) h)
    have HF:=veil hfalse
    have HRG:=veil (rng_fd c0 c1)
    clear h1 h2 hT hL hall hfalse hP c0 c1 hcl
    subst hAL
    go_upto_region 7 with (first
     | ((with_reducible refine zaa 14 ?_); refine wpList_load_mid rfl 135 _ rfl b _ rfl _ _ HRG.out Tryz.underlying135 rfl infoF2 ?_)
     | ((with_reducible refine zaa 5 ?_); refine zcr _ _ rfl rfl rfl rfl rfl rfl hzF (fun _ => rfl) (fun _ => rfl) infoF2 rfl one_fd ?_; intro g W hg hW hEW))
    have hEE:=hE.trans hEW
    obtain ⟨d0,d1⟩:=cells_fd hW
    clear hW hEW hE
    by_cases g1 : T ≤ P
    ·
     have e : R = false:=HF.out fun h => by
      have h4:=h.2.2.2
      have h1:=h.1
      rw [← HT.out.1] at h1 h4
      rcases HT.out.2.2 with ⟨_,h0⟩ | ⟨h0,h5⟩
      ·
       omega
      ·
       have:=h4 h0; omega
     subst e
     have hd2 : decide (T ≤ P) = true:=decide_eq_true g1
     go_wp2
     go_ret
     exact ⟨rfl,hEE⟩
    ·
     have hd2 : decide (T ≤ P) = false:=decide_eq_false g1
     by_cases g2 : 255 < T
     ·
      have e : R = false:=HF.out fun h => by have:=h.2.1; rw [← HT.out.1] at this; omega
      subst e
      have hd3 : decide (255 < T) = true:=decide_eq_true g2
      go_wp2
      go_ret
      exact ⟨rfl,hEE⟩
     ·
      have hd3 : decide (255 < T) = false:=decide_eq_false g2
      by_cases g3 : (65535 : Int) < (L : Int)
      ·
       have e : R = false:=HF.out fun h => by have:=h.2.2.1; rw [← HT.out.2.1] at this; omega
       subst e
       have hd4 : decide ((65535 : Int) < (L : Int)) = true:=decide_eq_true g3
       go_wp2
       go_ret
       exact ⟨rfl,hEE⟩
      ·
       have hd4 : decide ((65535 : Int) < (L : Int)) = false:=decide_eq_false g3
       go_wp2
       go_roundw
       case rel =>
        refine ⟨i + 1,T,by omega,rfl,by go_num,fun j hj => ?_,by omega,by omega,.inr ⟨by omega,HT.out.1⟩,hEE⟩
        by_cases e : j = i
        ·
         subst e
         refine ⟨by rw [← HT.out.1]; omega,by rw [← HT.out.1]; omega,by rw [← HT.out.2.1]; omega,fun h0 => ?_⟩
         rw [← HT.out.1]
         rcases HT.out.2.2 with ⟨h5,_⟩ | ⟨_,h5⟩ <;> omega
        ·
         exact HALL.out j (by omega)
       case measure => simp [intOf]; omega
   ·
    obtain rfl : i = n:=by omega
    have e : R = true:=by
     rw [HR.out.1,mayFs_len (by rw [← HR.out.2.1]; exact hall),← HR.out.2.1]
     exact decide_eq_true hn64
    subst e
    clear hall
    go_wp2
    go_ret
    exact ⟨rfl,hE⟩
def kyC (k : Ky) : List Value:=.int .i64 k.i :: ((qc k.x k.y k.f).toList ++ [.int .i64 k.a,.int .i64 k.b])
theorem zdf (k : Ky) : (kyC k).length = 12:=by simp [kyC,qc]
abbrev Ks (w : World) (v : Value) (l : List Ky) : Prop:=Ls 12 kyC w v l
def TopK (l : List Ky) : Prop:=∀ k ∈ l,k.x < top ∧ k.y < top
theorem infoKy : (Tryz.prog.info? 62).map (·.size) = some 12:=by kernel_rfl
theorem iKy (k : Ky) : (Tryz.prog.info? 62).map (·.size) = some (kyC k).length:=by rw [zdf]; exact infoKy
theorem iKyA (k : Ky) : (Tryz.prog.info? 62).map (·.size) = some (kyC k).toArray.size:=by rw [List.size_toArray,zdf]; exact infoKy
theorem hzKy (W : World) : (Instr.alloc 62 true (.tuple #[])).run Tryz.prog W = .ok (ptrTo W.heap.size) (W.alloc (.cells #[.int .i64 0,vI vU 0,vI vU 0,vI vU 0,vI vU 0,vI vU 0,vI vU 0,vI vU 0,vI vU 0,.bool false,.int .i64 0,.int .i64 0] 62)):=by simp [Instr.alloc,go_sem]
theorem kyA_one (k : Ky) : (kyC k).toArray.all (·.oneCell') = true:=by simp [kyC,qc,Value.oneCell']
theorem kyA_size (k : Ky) : (#[.int .i64 0,vI vU 0,vI vU 0,vI vU 0,vI vU 0,vI vU 0,vI vU 0,vI vU 0,vI vU 0,.bool false,.int .i64 0,.int .i64 0] : Array Value).size = (kyC k).toArray.size:=by
 have h : (kyC k).toArray.size = 12:=by rw [List.size_toArray,zdf]
 rw [h]
 rfl
section
variable {w : World} {b o : Nat} {k : Ky}
theorem ky_i (h : w.rangeAt b o (kyC k)) : w.cell? ⟨b,o,none⟩ = some (.int .i64 k.i):=h 0 _ rfl
theorem ky_f (h : w.rangeAt b o (kyC k)) : w.cell? ⟨b,o + 9,none⟩ = some (.bool k.f):=h 9 _ rfl
theorem ky_a (h : w.rangeAt b o (kyC k)) : w.cell? ⟨b,o + 10,none⟩ = some (.int .i64 k.a):=h 10 _ rfl
theorem ky_b (h : w.rangeAt b o (kyC k)) : w.cell? ⟨b,o + 11,none⟩ = some (.int .i64 k.b):=h 11 _ rfl
theorem ky_q (h : w.rangeAt b o (kyC k)) : w.rangeAt b (o + 1) (qc k.x k.y k.f).toList:=fun j v hv => by
 have hj : j < 9:=(List.getElem?_eq_some_iff.1 hv).1
 have:=h (j + 1) v (by
  show ((qc k.x k.y k.f).toList ++ _)[j]? = _
  rw [List.getElem?_append_left hj]
  exact hv)
 rw [Nat.add_assoc,Nat.add_comm 1 j]
 exact this
theorem ky_blk {g : Nat} {fr : Nat × Nat} (h : w.heap[g]? = some (.cells (kyC k).toArray 62 fr)) : w.rangeAt g 0 (kyC k):=fun j v hv => by
 rw [Nat.zero_add,cell_of_row w g j _ _ _ h]
 simpa using hv
end
theorem ky_get {l : List Ky} {i : Nat} (h : i < l.length) : l[i]? = some (l.getD i ky0):=by rw [List.getD_eq_getElem?_getD,List.getElem?_eq_getElem h]; rfl
def rvC (x : Rv) : List Value:=[.int .i64 x.1,.int .i64 x.2]
abbrev Rs (w : World) (v : Value) (l : List Rv) : Prop:=Ls 2 rvC w v l
theorem infoRv : (Tryz.prog.info? 65).map (·.size) = some 2:=by kernel_rfl
theorem iRv (x : Rv) : (Tryz.prog.info? 65).map (·.size) = some (rvC x).length:=infoRv
theorem iRvA (x : Rv) : (Tryz.prog.info? 65).map (·.size) = some (rvC x).toArray.size:=infoRv
theorem hzRv (W : World) : (Instr.alloc 65 true (.tuple #[])).run Tryz.prog W = .ok (ptrTo W.heap.size) (W.alloc (.cells #[.int .i64 0,.int .i64 0] 65)):=by simp [Instr.alloc,go_sem]
theorem rvA_one (x : Rv) : (rvC x).toArray.all (·.oneCell') = true:=by simp [rvC,Value.oneCell']
theorem rvA_size (x : Rv) : (#[.int .i64 0,.int .i64 0] : Array Value).size = (rvC x).toArray.size:=rfl
section
variable {w : World} {b o : Nat} {x : Rv}
theorem rv_s (h : w.rangeAt b o (rvC x)) : w.cell? ⟨b,o,none⟩ = some (.int .i64 x.1):=h 0 _ rfl
theorem rv_f (h : w.rangeAt b o (rvC x)) : w.cell? ⟨b,o + 1,none⟩ = some (.int .i64 x.2):=h 1 _ rfl
theorem rv_blk {g : Nat} {fr : Nat × Nat} (h : w.heap[g]? = some (.cells (rvC x).toArray 65 fr)) : w.rangeAt g 0 (rvC x):=fun j v hv => by
 rw [Nat.zero_add,cell_of_row w g j _ _ _ h]
 simpa using hv
end
theorem zaf {P : Program} {ops : Array Oper} {rest : List Oper} {o : Oper} {a : Act} {w : World} {Q : Exit → Act → World → Prop} (hgd : Region.wanted o (yielded ops a.tmps) = true) (ty : TypeId) (x : Operand) (ho : o.op = .load ty x)
  (g : Nat) (hx : a.eval x = .pointer (some ⟨g,0,none⟩)) (t : TypeId) (cs : Array Value) (fr : Nat × Nat) (d : TypeDesc) (hg : w.heap[g]? = some (.cells cs t fr))
  (hu : P.underlying ty = some d) (hd : (match d with | .struct _ | .array _ _ => true | _ => false) = true) (hi : (P.info? ty).map (·.size) = some cs.size)
  (h : wpList P ops Q rest (a.put o.dst (.agg cs)) w) : wpList P ops Q (o :: rest) a w :=
 wpList_step fun K hK => by
  rw [if_pos hgd]
  exact wp_load_row ty x ho g hx t cs fr d hg hu hd hi (hK _ _ h)
def OnP (m x y : Int) (ev : Value) : Prop :=
 ((m < 0 ∨ 1073741824 < m) ∧ x = 0 ∧ y = 0 ∧ ev = .iface 38 (.int .i64 1)) ∨ (0 ≤ m ∧ m ≤ 1073741824 ∧ x = m / 1440 ∧ y = m % 1440 ∧ ev = .nilIface)
theorem rcovers14_calls (v : Value) (l : List Pw) (t : Tk) (z a : Int) (w : World) (hF : Ps14 w v l) (hM : mayP (pds l) = true) :
  Calls Tryz.prog 9 #[v,tkV t,.int .i64 z,.int .i64 a] w fun e w' => e = .returned (.bool (coversV (pds l) t z a)) ∧ Ext w w':=by
 obtain ⟨R,hR⟩ : ∃ R,R = coversV (pds l) t z a:=⟨_,rfl⟩
 rw [← hR]
 unfold coversV at hR
 rw [hM,Bool.true_and] at hR
 have KW:=veil (fun W (h : Ext w W) (hT : mayT t = true) (hP : placeB z a = true) => rwhy14_calls v l t z a W (hF.ext h) hM hT hP)
 have KM:=veil (fun W => rmay9_calls t W)
 have KP:=veil (fun W => place14_calls z a W)
 obtain ⟨⟨AL,c,rfl,-,-⟩,-⟩:=hF
 obtain ⟨n,hn⟩ : ∃ n,n = l.length:=⟨_,rfl⟩
 rw [← hn] at KW ⊢
 clear hn hM
 obtain ⟨M,hM⟩ : ∃ M,M = mayT t:=⟨_,rfl⟩
 obtain ⟨P,hP⟩ : ∃ P,P = placeB z a:=⟨_,rfl⟩
 obtain ⟨y,hy⟩ : ∃ y,y = whyV (pds l) t z a:=⟨_,rfl⟩
 rw [← hM,← hP,← hy] at hR
 rw [← hM,← hP,← hy] at KW
 rw [← hM] at KM
 rw [← hP] at KP
 have HR:=veil hR
 have hE0:=Ext.alloc w (.cells (tkC t) 24)
 have hS0:=TkAt.new w t
 clear hM hP hy hR
 unfold tkV at *
 go_enter Tryz.func9,Tryz.ntmps9
 go_upto_region 1 with (fail)
 obtain ⟨g,hg⟩ : ∃ g,g = w.heap.size:=⟨_,rfl⟩
 rw [← hg] at hS0 ⊢
 generalize w.alloc (.cells (tkC t) 24) = w0 at *
 have HS:=veil hS0
 have HE:=veil hE0
 clear hE0 hS0 hg
 go_upto_region 3 with (first
  | ((with_reducible refine zaa 11 ?_); refine wpList_load_row rfl 24 _ rfl g rfl 24 (tkC t) (0,0) _ HS.out Tryz.underlying24 rfl (iTk t) ?_)
  | (go_at_call 21; with_reducible refine (KM.out _).mono ?_; rintro e w1 ⟨rfl,hE1⟩; have HE1:=veil (HE.out.trans hE1); have HS1 : Hid (TkAt w1 g t):=veil (HS.out.ext hE1); clear hE1)
  | (go_at_call 15; with_reducible refine (KP.out _).mono ?_; rintro e w2 ⟨rfl,rfl⟩))
 clear HE HS KM KP
 cases M with
 | false =>
  obtain rfl : R = false:=HR.out
  go_wp2
  go_ret
  exact ⟨rfl,HE1.out⟩
 | true =>
  cases P with
  | false =>
   obtain rfl : R = false:=HR.out
   go_wp2
   go_ret
   exact ⟨rfl,HE1.out⟩
  | true =>
   by_cases g0 : y = 1
   ·
    have f0 : (y == 1) = true:=by simp [g0]
    obtain rfl : R = true:=HR.out.trans (decide_eq_true g0)
    clear g0
    go_wp2_with (first
     | ((with_reducible refine zaa 22 ?_); refine zaf rfl 24 _ rfl g rfl 24 (tkC t) (0,0) _ HS1.out Tryz.underlying24 rfl (iTk t) ?_)
     | (go_at_call 22; with_reducible refine (KW.out _ HE1.out (by trivial) (by trivial)).mono ?_; rintro e w3 ⟨rfl,hE3⟩))
    go_ret
    exact ⟨rfl,HE1.out.trans hE3⟩
   ·
    have f0 : (y == 1) = false:=by simp [g0]
    obtain rfl : R = false:=HR.out.trans (decide_eq_false g0)
    clear g0
    go_wp2_with (first
     | ((with_reducible refine zaa 22 ?_); refine zaf rfl 24 _ rfl g rfl 24 (tkC t) (0,0) _ HS1.out Tryz.underlying24 rfl (iTk t) ?_)
     | (go_at_call 22; with_reducible refine (KW.out _ HE1.out (by trivial) (by trivial)).mono ?_; rintro e w3 ⟨rfl,hE3⟩))
    go_ret
    exact ⟨rfl,HE1.out.trans hE3⟩
structure Code14a : Prop where
 may : ∀ v l w,Ps14 w v l → fewP (pds l) = true → Calls Tryz.prog 10 #[v] w fun e w' => e = .returned (.bool (mayP (pds l))) ∧ Ext w w'
 covers : ∀ v l t z a w,Ps14 w v l → fewP (pds l) = true → -9223372036854775808 ≤ z → z ≤ 9223372036854775807 → -9223372036854775808 ≤ a → a ≤ 9223372036854775807 → Calls Tryz.prog 11 #[v,tkV t,.int .i64 z,.int .i64 a] w fun e w' => e = .returned (.bool (coversV (pds l) t z a)) ∧ Ext w w'
 verdict_nil : ∀ w,Calls Tryz.prog 12 #[.slice none 0 0,.slice none 0 0,.slice none 0 0,.slice none 0 0,.int .i64 0,.int .i64 0] w fun e w' => e = .returned (.tuple #[.int .i64 2,.nilIface]) ∧ Ext w w'
def upP : Pw:=(⟨1,60,⟨127,0,9,[],[]⟩⟩,.slice none 0 0,.slice none 0 0)
def upT14 : Tk:=⟨1,1,2,10,1⟩
def upB14 : Obj:=.cells #[.int .i64 1,.int .i64 60,.int .i64 127,.int .i64 0,.int .i64 9,.slice none 0 0,.slice none 0 0] 51
theorem up_ps (w : World) : Ps14 (w.alloc upB14) (.slice (some ⟨w.heap.size,0,none⟩) 1 1) [upP]:=by
 refine ⟨ls_one (zag w _),fun x hx => ?_⟩
 rw [List.mem_singleton.1 hx]
 exact ⟨Ls.nil _ _ _,Ls.nil _ _ _⟩
theorem eqNil14 (w : World) : (binOp .eql 32 .nilIface .nilIface).run Tryz.prog w = .ok (.bool true) w:=by kernel_rfl
theorem up14_calls (C : Code14a) (w : World) : Calls Tryz.prog 6 #[] w fun e w' => e = .returned (.bool true) ∧ Ext w w':=by
 have hN:=up_ps w
 have hE:=Ext.alloc w upB14
 obtain ⟨vS,hvS⟩ : ∃ v : Value,v = .slice (some ⟨w.heap.size,0,none⟩) 1 1:=⟨_,rfl⟩
 rw [← hvS] at hN
 have KC:=veil (fun z a W (h : Ext (w.alloc upB14) W) h0 h1 h2 h3 => C.covers _ [upP] upT14 z a W (hN.ext h) (by decide +kernel) h0 h1 h2 h3)
 have K1:=veil (fun W h => KC.out 1 69 W h (by decide) (by decide) (by decide) (by decide))
 have K2:=veil (fun W h => KC.out 1 70 W h (by decide) (by decide) (by decide) (by decide))
 have K3:=veil (fun W h => KC.out 0 10 W h (by decide) (by decide) (by decide) (by decide))
 rw [show coversV (pds [upP]) upT14 1 69 = true by decide +kernel] at K1
 rw [show coversV (pds [upP]) upT14 1 70 = false by decide +kernel] at K2
 rw [show coversV (pds [upP]) upT14 0 10 = false by decide +kernel] at K3
 have KV:=veil (fun W => C.verdict_nil W)
 have hT0:=TkAt.new (w.alloc upB14) upT14
 have hET:=Ext.alloc (w.alloc upB14) (.cells (tkC upT14) 24)
 have e1:=eqNil14
 unfold upB14 at *
 clear KC hN C
 go_enter Tryz.func6,Tryz.ntmps6
 go_upto_region 2 with (fail)
 rw [← hvS]
 obtain ⟨w0,hw0⟩ : ∃ W,W = w.alloc (.cells #[.int .i64 1,.int .i64 60,.int .i64 127,.int .i64 0,.int .i64 9,.slice none 0 0,.slice none 0 0] 51):=⟨_,rfl⟩
 rw [← hw0] at hE K1 K2 K3 hT0 hET ⊢
 clear hw0 hvS
 go_upto_region 3 with ((with_reducible refine zbf ?_); refine wpList_store_row rfl 24 _ _ rfl w0.heap.size (tkC upT14) rfl rfl 24 _ (zag w0 _) (iTk _) rfl (tkC_one _) ?_; rw [World.setRow_alloc_new])
 obtain ⟨g,hg⟩ : ∃ g,g = w0.heap.size:=⟨_,rfl⟩
 rw [← hg] at hT0 ⊢
 generalize w0.alloc (.cells (tkC upT14) 24) = w1 at *
 have HT:=veil hT0
 have HX:=veil hET
 have HE:=veil (hE.trans hET)
 clear hT0 hET hE hg
 go_upto_region 4 with (go_at_call 12; refine (KV.out _).mono ?_; rintro e w2 ⟨rfl,hE2⟩)
 have HX2:=veil (HX.out.trans hE2)
 have HE2:=veil (HE.out.trans hE2)
 have HT2 : Hid (TkAt w2 g upT14):=veil (HT.out.ext hE2)
 clear hE2 HX HE HT KV
 unfold tkV at *
 go_wp2_with (first
  | ((with_reducible refine zaa 21 ?_); refine zaf rfl 24 _ rfl g rfl 24 (tkC upT14) (0,0) _ HT2.out Tryz.underlying24 rfl (iTk _) ?_)
  | (go_at_call 11; with_reducible refine (K1.out _ HX2.out).mono ?_; rintro e w3 ⟨rfl,hE3⟩; have HX3:=veil (HX2.out.trans hE3); have HE3:=veil (HE2.out.trans hE3); have HT3 : Hid (TkAt w3 g upT14):=veil (HT2.out.ext hE3); clear hE3 K1)
  | ((with_reducible refine zaa 26 ?_); refine zaf rfl 24 _ rfl g rfl 24 (tkC upT14) (0,0) _ HT3.out Tryz.underlying24 rfl (iTk _) ?_)
  | (go_at_call 11; with_reducible refine (K2.out _ HX3.out).mono ?_; rintro e w4 ⟨rfl,hE4⟩; have HX4:=veil (HX3.out.trans hE4); have HE4:=veil (HE3.out.trans hE4); have HT4 : Hid (TkAt w4 g upT14):=veil (HT3.out.ext hE4); clear hE4 K2)
  | ((with_reducible refine zaa 32 ?_); refine zaf rfl 24 _ rfl g rfl 24 (tkC upT14) (0,0) _ HT4.out Tryz.underlying24 rfl (iTk _) ?_)
  | (go_at_call 11; with_reducible refine (K3.out _ HX4.out).mono ?_; rintro e w5 ⟨rfl,hE5⟩))
 go_ret
 exact ⟨rfl,HE4.out.trans hE5⟩
end Go.Proofs.YtbfkecfcolcclaaGreatDoor
