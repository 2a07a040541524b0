/-
  Of J0 Ra Pa Ls Svb Svc Nwc Pb Svd Pd TF Lk L2 L6 TG.
-/
import Derived.Deep.MidRow
import Derived.Deep.Slices
import Derived.Laws.OwnMore
import Derived.Maps.AppendAt
import Derived.Test.YtbfkecfcolcclaaGreatDoorZC1
import Derived.Test.YtbfkecfcolcclaaGreatDoorZC4
import Derived.Test.YtbfkecfcolcclaaGreatDoorZC3
set_option maxRecDepth 1000000
set_option maxHeartbeats 20000000
namespace Go.Proofs.YtbfkecfcolcclaaGreatDoor
abbrev Rv:=Int × Int
def rvS (l : List Rv) (i : Nat) : Int:=(l.getD i (0,0)).1
def rvF (l : List Rv) (i : Nat) : Int:=(l.getD i (0,0)).2
def okR (l : List Rv) (i : Nat) : Prop:=1 ≤ rvS l i ∧ rvS l i ≤ 2147483647 ∧ 0 ≤ rvF l i ∧ rvF l i ≤ 1073741824 ∧ (0 < i → rvS l (i - 1) < rvS l i)
instance (l : List Rv) (i : Nat) : Decidable (okR l i):=by unfold okR; exact inferInstance
def mayRs (l : List Rv) : Bool:=decide (l.length ≤ 200 ∧ ∀ i,i < l.length → okR l i)
def Ris : List Rv → Prop
 | [] => True
 | [_] => True
 | x :: y :: r => x.1 < y.1 ∧ Ris (y :: r)
theorem Ris.tail {x : Rv} {l : List Rv} (h : Ris (x :: l)) : Ris l:=by
 cases l with
 | nil => trivial
 | cons y r => exact h.2
theorem Ris.head {x : Rv} {l : List Rv} (h : Ris (x :: l)) : ∀ y ∈ l,x.1 < y.1:=by
 induction l generalizing x with
 | nil => intro y hy; cases hy
 | cons z r ih =>
  intro y hy
  rcases List.mem_cons.1 hy with rfl | hy
  ·
   exact h.1
  ·
   exact Int.lt_trans h.1 (ih h.2 y hy)
theorem Ris.cons {x : Rv} {l : List Rv} (h : ∀ y ∈ l,x.1 < y.1) (hl : Ris l) : Ris (x :: l):=by
 cases l with
 | nil => trivial
 | cons y r => exact ⟨h y List.mem_cons_self,hl⟩
theorem ris_of : ∀ {l : List Rv},(∀ i,i < l.length → 0 < i → rvS l (i - 1) < rvS l i) → Ris l
 | [],_ => trivial
 | [_],_ => trivial
 | x :: y :: r,h => ⟨h 1 (by simp) (by decide),ris_of fun i hi h0 => by
   have:=h (i + 1) (by simpa using hi) (by omega)
   obtain ⟨k,rfl⟩ : ∃ k,i = k + 1:=⟨i - 1,by omega⟩
   exact this⟩
theorem of_ris : ∀ {l : List Rv},Ris l → ∀ i,i < l.length → 0 < i → rvS l (i - 1) < rvS l i
 | [],_,_,h,_ => by simp at h
 | [_],_,i,h,h0 => by simp at h; omega
 | x :: y :: r,h,i,hi,h0 => by
  obtain ⟨k,rfl⟩ : ∃ k,i = k + 1:=⟨i - 1,by omega⟩
  by_cases hk : k = 0
  ·
   subst hk; exact h.1
  ·
   have:=of_ris h.2 k (by simpa using hi) (by omega)
   obtain ⟨j,rfl⟩ : ∃ j,k = j + 1:=⟨k - 1,by omega⟩
   exact this
theorem zcz {l : List Rv} (h : mayRs l = true) : Ris l:=ris_of fun i hi h0 => ((of_decide_eq_true h).2 i hi).2.2.2.2 h0
/-! ### from when a serial is revoked -/
def look : List Rv → Int → Option Int
 | [],_ => none
 | x :: r,s => if x.1 = s then some x.2 else look r s
theorem zce {l : List Rv} {s : Int} (h : ∀ y ∈ l,y.1 ≠ s) : look l s = none:=by
 induction l with
 | nil => rfl
 | cons x r ih =>
  show (if x.1 = s then _ else _) = _
  rw [if_neg (h x List.mem_cons_self)]
  exact ih fun y hy => h y (List.mem_cons_of_mem _ hy)
theorem zec {l : List Rv} {s f : Int} (h : look l s = some f) : (s,f) ∈ l:=by
 induction l with
 | nil => cases h
 | cons x r ih =>
  unfold look at h
  split at h
  ·
   rename_i e
   injection h with h
   subst e h
   exact List.mem_cons_self
  ·
   exact List.mem_cons_of_mem _ (ih h)
def isR (l : List Rv) (s t : Int) : Bool:=match look l s with
 | some f => decide (0 ≤ f) && decide (f ≤ t)
 | none => false
theorem look_ext : ∀ {a b : List Rv},Ris a → Ris b → (∀ s,look a s = look b s) → a = b
 | [],[],_,_,_ => rfl
 | [],y :: r,_,_,h => by
  have:=h y.1
  unfold look at this
  simp at this
 | x :: r,[],_,_,h => by
  have:=h x.1
  unfold look at this
  simp at this
 | x :: r,y :: q,ha,hb,h => by
  have hx:=h x.1
  have hy:=h y.1
  have e : x.1 = y.1:=by
   by_cases hlt : x.1 < y.1
   ·
    have hn : look (y :: q) x.1 = none:=zce fun z hz => by
     rcases List.mem_cons.1 hz with rfl | hz
     ·
      omega
     ·
      have:=hb.head z hz; omega
    rw [hn] at hx
    unfold look at hx
    simp at hx
   ·
    by_cases hgt : y.1 < x.1
    ·
     have hn : look (x :: r) y.1 = none:=zce fun z hz => by
      rcases List.mem_cons.1 hz with rfl | hz
      ·
       omega
      ·
       have:=ha.head z hz; omega
     rw [hn] at hy
     unfold look at hy
     simp at hy
    ·
     omega
  have e2 : x.2 = y.2:=by
   unfold look at hx
   rw [if_pos rfl,if_pos e.symm] at hx
   exact Option.some.inj hx
  have e3 : r = q:=look_ext ha.tail hb.tail fun s => by
   by_cases hs : x.1 = s
   ·
    rw [zce fun z hz => by have:=ha.head z hz; omega,zce fun z hz => by have:=hb.head z hz; omega]
   ·
    have:=h s
    unfold look at this
    rwa [if_neg hs,if_neg (by omega)] at this
  rw [Prod.ext e e2,e3]
/-! ### one put in among others -/
def insR (x : Rv) : List Rv → List Rv
 | [] => [x]
 | y :: r => if y.1 < x.1 then y :: insR x r else if y.1 = x.1 then (y.1,if x.2 < y.2 then x.2 else y.2) :: r else x :: y :: r
theorem insR_mem {x : Rv} {l : List Rv} : ∀ z ∈ insR x l,z.1 = x.1 ∨ z ∈ l:=by
 induction l with
 | nil => intro z hz; rw [List.mem_singleton.1 hz]; exact .inl rfl
 | cons y r ih =>
  intro z hz
  unfold insR at hz
  split at hz
  ·
   rcases List.mem_cons.1 hz with rfl | hz
   ·
    exact .inr List.mem_cons_self
   ·
    exact (ih z hz).imp id (List.mem_cons_of_mem _)
  ·
   split at hz
   ·
    rename_i e
    rcases List.mem_cons.1 hz with rfl | hz
    ·
     exact .inl e
    ·
     exact .inr (List.mem_cons_of_mem _ hz)
   ·
    rcases List.mem_cons.1 hz with rfl | hz
    ·
     exact .inl rfl
    ·
     exact .inr hz
theorem insR_ris {x : Rv} : ∀ {l : List Rv},Ris l → Ris (insR x l)
 | [],_ => trivial
 | y :: r,h => by
  unfold insR
  split
  ·
   rename_i hlt
   exact Ris.cons (fun z hz => (insR_mem z hz).elim (fun e => by omega) (h.head z)) (insR_ris h.tail)
  ·
   split
   ·
    exact Ris.cons (fun z hz => h.head z hz) h.tail
   ·
    rename_i h1 h2
    exact Ris.cons (fun z hz => by
     rcases List.mem_cons.1 hz with rfl | hz
     ·
      omega
     ·
      have:=h.head z hz; omega) h
def both : Option Int → Option Int → Option Int
 | some a,some b => some (if b < a then b else a)
 | some a,none => some a
 | none,some b => some b
 | none,none => none
theorem look_ins {x : Rv} {s : Int} : ∀ {l : List Rv},Ris l → look (insR x l) s = if x.1 = s then both (look l s) (some x.2) else look l s
 | [],_ => by
  unfold insR look
  split <;> rfl
 | y :: r,h => by
  unfold insR
  split
  ·
   rename_i hlt
   have ih:=look_ins (x:=x) (s:=s) h.tail
   unfold look
   rw [ih]
   by_cases hs : y.1 = s
   ·
    rw [if_pos hs,if_pos hs,if_neg (by omega)]
   ·
    rw [if_neg hs,if_neg hs]
  ·
   split
   ·
    rename_i h1 e
    unfold look
    by_cases hs : x.1 = s
    ·
     have hys : y.1 = s:=by omega
     rw [if_pos hys,if_pos hs,if_pos hys]
     rfl
    ·
     have hys : ¬ y.1 = s:=by omega
     rw [if_neg hys,if_neg hs,if_neg hys]
   ·
    rename_i h1 h2
    have hn : x.1 = s → look (y :: r) s = none:=fun e => zce fun z hz => by
     rcases List.mem_cons.1 hz with rfl | hz
     ·
      omega
     ·
      have:=h.head z hz; omega
    show (if x.1 = s then some x.2 else look (y :: r) s) = _
    by_cases hs : x.1 = s
    ·
     rw [if_pos hs,if_pos hs,hn hs]
     rfl
    ·
     rw [if_neg hs,if_neg hs]
def mergeR (a : List Rv) : List Rv → List Rv
 | [] => a
 | x :: r => mergeR (insR x a) r
theorem zgg : ∀ {b a : List Rv},Ris a → Ris (mergeR a b)
 | [],_,h => h
 | x :: r,a,h => by
  show Ris (mergeR (insR x a) r)
  exact zgg (insR_ris h)
theorem zgj {s : Int} : ∀ {b a : List Rv},Ris a → Ris b → look (mergeR a b) s = both (look a s) (look b s)
 | [],a,_,_ => by
  show look a s = both (look a s) none
  cases look a s <;> rfl
 | x :: r,a,ha,hb => by
  show look (mergeR (insR x a) r) s = _
  rw [zgj (insR_ris ha) hb.tail,look_ins ha]
  show _ = both (look a s) (if x.1 = s then some x.2 else look r s)
  by_cases hs : x.1 = s
  ·
   rw [if_pos hs,if_pos hs,zce (l:=r) fun z hz => by have:=hb.head z hz; omega]
   cases look a s <;> rfl
  ·
   rw [if_neg hs,if_neg hs]
theorem look_from {l : List Rv} (h : mayRs l = true) {s f : Int} (hl : look l s = some f) : 0 ≤ f:=by
 have hm:=zec hl
 obtain ⟨i,hi,e⟩:=List.mem_iff_getElem.1 hm
 have:=((of_decide_eq_true h).2 i hi).2.2.1
 unfold rvF at this
 rw [List.getD_eq_getElem?_getD,List.getElem?_eq_getElem hi,e] at this
 exact this
theorem is_merge {a b : List Rv} (ha : mayRs a = true) (hb : mayRs b = true) (s t : Int) : isR (mergeR a b) s t = (isR a s t || isR b s t):=by
 have hA:=fun f => look_from (s:=s) (f:=f) ha
 have hB:=fun f => look_from (s:=s) (f:=f) hb
 unfold isR
 rw [zgj (zcz ha) (zcz hb)]
 revert hA hB
 cases look a s with
 | none => cases look b s <;> intro _ _ <;> simp [both]
 | some f =>
  cases look b s with
  | none => intro _ _; simp [both]
  | some g =>
   intro hA hB
   have h1:=hA f rfl
   have h2:=hB g rfl
   simp only [both]
   by_cases hgf : g < f
   ·
    rw [if_pos hgf,Bool.eq_iff_iff]
    simp only [Bool.and_eq_true,Bool.or_eq_true,decide_eq_true_eq]
    omega
   ·
    rw [if_neg hgf,Bool.eq_iff_iff]
    simp only [Bool.and_eq_true,Bool.or_eq_true,decide_eq_true_eq]
    omega
end Go.Proofs.YtbfkecfcolcclaaGreatDoor
namespace Go.Proofs.YtbfkecfcolcclaaGreatDoor
theorem zeh {l : List Rv} {i : Nat} (h : i < l.length) : l[i]? = some (l.getD i (0,0)):=by rw [List.getD_eq_getElem?_getD,List.getElem?_eq_getElem h]; rfl
theorem mayRs_false {l : List Rv} {j : Nat} (hj : j < l.length) (h : ¬ okR l j) : mayRs l = false:=decide_eq_false fun hh => h (hh.2 j hj)
theorem mayRs_len {l : List Rv} (h : ∀ j,j < l.length → okR l j) : mayRs l = decide (l.length ≤ 200):=by
 unfold mayRs
 by_cases hc : l.length ≤ 200
 ·
  rw [decide_eq_true hc,decide_eq_true ⟨hc,h⟩]
 ·
  rw [decide_eq_false hc,decide_eq_false fun hh => hc hh.1]
theorem mayRs_ok {l : List Rv} (h : mayRs l = true) {j : Nat} (hj : j < l.length) : okR l j:=(of_decide_eq_true h).2 j hj
theorem mayRs_each {l : List Rv} (h : mayRs l = true) : ∀ x ∈ l,1 ≤ x.1 ∧ x.1 ≤ 2147483647 ∧ 0 ≤ x.2 ∧ x.2 ≤ 1073741824:=by
 intro x hx
 obtain ⟨j,hj,rfl⟩:=List.mem_iff_getElem.1 hx
 obtain ⟨h1,h2,h3,h4,_⟩:=mayRs_ok h hj
 unfold rvS rvF at *
 rw [List.getD_eq_getElem?_getD,List.getElem?_eq_getElem hj] at h1 h2 h3 h4
 exact ⟨h1,h2,h3,h4⟩
/-! ### what it tells -/
theorem zbx {s : Int} : ∀ {l : List Rv},look l s = none → ∀ y ∈ l,y.1 ≠ s
 | [],_,_,hy => by cases hy
 | x :: r,h,y,hy => by
  unfold look at h
  split at h
  ·
   cases h
  ·
   rename_i hne
   rcases List.mem_cons.1 hy with rfl | hy
   ·
    exact hne
   ·
    exact zbx h y hy
theorem zcq {s f : Int} : ∀ {l : List Rv},Ris l → (s,f) ∈ l → look l s = some f
 | [],_,h => by cases h
 | x :: r,hr,h => by
  unfold look
  rcases List.mem_cons.1 h with e | h
  ·
   rw [← e,if_pos rfl]
  ·
   have:=hr.head _ h
   rw [if_neg (show ¬ x.1 = s from fun e => by have h2 : x.1 < s:=this; omega)]
   exact zcq hr.tail h
theorem any_isR {l : List Rv} (h : mayRs l = true) (s t : Int) : (l.any fun r => decide (r.1 = s) && decide (r.2 ≤ t)) = isR l s t:=by
 unfold isR
 cases hl : look l s with
 | none =>
  rw [List.any_eq_false]
  intro y hy
  have:=zbx hl y hy
  simp [this]
 | some f =>
  have hm:=zec hl
  have h0:=look_from h hl
  show _ = (decide (0 ≤ f) && decide (f ≤ t))
  by_cases hf : f ≤ t
  ·
   rw [decide_eq_true hf,decide_eq_true h0,List.any_eq_true.2 ⟨(s,f),hm,by simp [hf]⟩]
   rfl
  ·
   rw [decide_eq_false hf,Bool.and_false,List.any_eq_false]
   intro y hy
   by_cases hs : y.1 = s
   ·
    have : look l s = some y.2:=zcq (zcz h) (by rw [← hs]; exact hy)
    rw [hl] at this
    obtain rfl:=Option.some.inj this
    simp [hf]
   ·
    simp [hs]
/-! ### bytes -/
/-! ### made compact -/
def cptF (p : Int) : List Rv → List Rv
 | [] => []
 | y :: r => if y.1 = p then cptF p r else y :: cptF y.1 r
def cpt : List Rv → List Rv
 | [] => []
 | x :: r => x :: cptF x.1 r
theorem cptF_snoc : ∀ (l : List Rv) (q : Int) (p x : Rv),cptF q (l ++ [p] ++ [x]) = if x.1 = p.1 then cptF q (l ++ [p]) else cptF q (l ++ [p]) ++ [x]
 | [],q,p,x => by
  show (if p.1 = q then (if x.1 = q then [] else x :: []) else p :: (if x.1 = p.1 then [] else x :: [])) = if x.1 = p.1 then (if p.1 = q then [] else p :: []) else (if p.1 = q then [] else p :: []) ++ [x]
  by_cases h1 : p.1 = q
  ·
   rw [if_pos h1,if_pos h1,← h1]
   by_cases h2 : x.1 = p.1
   ·
    rw [if_pos h2,if_pos h2]
   ·
    rw [if_neg h2,if_neg h2]; rfl
  ·
   rw [if_neg h1,if_neg h1]
   by_cases h2 : x.1 = p.1
   ·
    rw [if_pos h2,if_pos h2]
   ·
    rw [if_neg h2,if_neg h2]; rfl
 | y :: r,q,p,x => by
  show (if y.1 = q then cptF q (r ++ [p] ++ [x]) else y :: cptF y.1 (r ++ [p] ++ [x])) = if x.1 = p.1 then (if y.1 = q then cptF q (r ++ [p]) else y :: cptF y.1 (r ++ [p])) else (if y.1 = q then cptF q (r ++ [p]) else y :: cptF y.1 (r ++ [p])) ++ [x]
  rw [cptF_snoc r,cptF_snoc r]
  by_cases h1 : y.1 = q
  ·
   rw [if_pos h1,if_pos h1]
  ·
   rw [if_neg h1,if_neg h1]
   by_cases h2 : x.1 = p.1
   ·
    rw [if_pos h2,if_pos h2]
   ·
    rw [if_neg h2,if_neg h2]; rfl
theorem cpt_snoc (l : List Rv) (p x : Rv) : cpt (l ++ [p] ++ [x]) = if x.1 = p.1 then cpt (l ++ [p]) else cpt (l ++ [p]) ++ [x]:=by
 cases l with
 | nil =>
  show p :: (if x.1 = p.1 then [] else x :: []) = if x.1 = p.1 then [p] else [p] ++ [x]
  by_cases h2 : x.1 = p.1
  ·
   rw [if_pos h2,if_pos h2]
  ·
   rw [if_neg h2,if_neg h2]; rfl
 | cons y r =>
  show y :: cptF y.1 (r ++ [p] ++ [x]) = if x.1 = p.1 then y :: cptF y.1 (r ++ [p]) else (y :: cptF y.1 (r ++ [p])) ++ [x]
  rw [cptF_snoc]
  by_cases h2 : x.1 = p.1
  ·
   rw [if_pos h2,if_pos h2]
  ·
   rw [if_neg h2,if_neg h2]; rfl
theorem cpt_take {l : List Rv} {i : Nat} (h0 : 0 < i) (hi : i < l.length) : cpt (l.take (i + 1)) = if rvS l i = rvS l (i - 1) then cpt (l.take i) else cpt (l.take i) ++ [l.getD i (0,0)]:=by
 obtain ⟨k,rfl⟩ : ∃ k,i = k + 1:=⟨i - 1,by omega⟩
 rw [List.take_succ_eq_append_getElem hi,List.take_succ_eq_append_getElem (show k < l.length by omega),cpt_snoc]
 unfold rvS
 simp only [Nat.add_sub_cancel,List.getD_eq_getElem?_getD,List.getElem?_eq_getElem hi,List.getElem?_eq_getElem (show k < l.length by omega),Option.getD_some]
theorem cpt_1 {l : List Rv} (h : 0 < l.length) : 0 < (cpt l).length:=by
 cases l with
 | nil => simp at h
 | cons x r => simp [cpt]
theorem look_cptF {s : Int} : ∀ (l : List Rv) (p : Int),s ≠ p → look (cptF p l) s = look l s
 | [],_,_ => rfl
 | y :: r,p,h => by
  unfold cptF
  by_cases h1 : y.1 = p
  ·
   rw [if_pos h1,look_cptF r p h]
   show _ = if y.1 = s then _ else _
   rw [if_neg (by omega)]
  ·
   rw [if_neg h1]
   show (if y.1 = s then _ else _) = if y.1 = s then _ else _
   by_cases h2 : y.1 = s
   ·
    rw [if_pos h2,if_pos h2]
   ·
    rw [if_neg h2,if_neg h2,look_cptF r y.1 (fun e => h2 e.symm)]
theorem look_cpt (l : List Rv) (s : Int) : look (cpt l) s = look l s:=by
 cases l with
 | nil => rfl
 | cons x r =>
  show (if x.1 = s then _ else look (cptF x.1 r) s) = if x.1 = s then _ else look r s
  by_cases h2 : x.1 = s
  ·
   rw [if_pos h2,if_pos h2]
  ·
   rw [if_neg h2,if_neg h2,look_cptF r x.1 (fun e => h2 e.symm)]
def UpR (l : List Rv) : Prop:=l.Pairwise fun x y => x.1 ≤ y.1
theorem cptF_ris : ∀ {l : List Rv} {p : Int},UpR l → (∀ y ∈ l,p ≤ y.1) → (∀ y ∈ cptF p l,p < y.1) ∧ Ris (cptF p l)
 | [],_,_,_ => ⟨fun _ h => (nomatch h),trivial⟩
 | y :: r,p,hl,hp => by
  have hl':=List.pairwise_cons.1 hl
  unfold cptF
  by_cases h1 : y.1 = p
  ·
   rw [if_pos h1]
   exact cptF_ris hl'.2 fun z hz => hp z (List.mem_cons_of_mem _ hz)
  ·
   rw [if_neg h1]
   obtain ⟨h2,h3⟩:=cptF_ris hl'.2 hl'.1
   have h4:=hp y List.mem_cons_self
   refine ⟨fun z hz => ?_,Ris.cons h2 h3⟩
   rcases List.mem_cons.1 hz with rfl | hz
   ·
    omega
   ·
    have:=h2 z hz; omega
theorem cpt_ris {l : List Rv} (h : UpR l) : Ris (cpt l):=by
 cases l with
 | nil => trivial
 | cons x r =>
  have hl':=List.pairwise_cons.1 h
  obtain ⟨h2,h3⟩:=cptF_ris hl'.2 hl'.1
  exact Ris.cons h2 h3
/-! ### sorted -/
def ci (a b : Int) : Int:=if a < b then -1 else if b < a then 1 else 0
def cfR (x y : Rv) : Int:=if ci x.1 y.1 = 0 then ci x.2 y.2 else ci x.1 y.1
def ltR (x y : Rv) : Prop:=x.1 < y.1 ∨ (x.1 = y.1 ∧ x.2 < y.2)
theorem ci_lt (a b : Int) : ci a b < 0 ↔ a < b:=by
 unfold ci
 by_cases h1 : a < b
 ·
  rw [if_pos h1]; omega
 ·
  rw [if_neg h1]
  by_cases h2 : b < a
  ·
   rw [if_pos h2]; omega
  ·
   rw [if_neg h2]; omega
theorem ci_eq (a b : Int) : ci a b = 0 ↔ a = b:=by
 unfold ci
 by_cases h1 : a < b
 ·
  rw [if_pos h1]; omega
 ·
  rw [if_neg h1]
  by_cases h2 : b < a
  ·
   rw [if_pos h2]; omega
  ·
   rw [if_neg h2]; omega
theorem cfR_lt (x y : Rv) : cfR x y < 0 ↔ ltR x y:=by
 unfold cfR ltR
 by_cases h : ci x.1 y.1 = 0
 ·
  rw [if_pos h,ci_lt]
  have:=(ci_eq _ _).1 h
  omega
 ·
  rw [if_neg h,ci_lt]
  have h1 : ¬ x.1 = y.1:=fun e => h ((ci_eq _ _).2 e)
  omega
def Srt (l : List Rv) : Prop:=l.Pairwise fun x y => ¬ ltR y x
theorem Srt.up {l : List Rv} (h : Srt l) : UpR l:=h.imp fun {x y} hxy => by unfold ltR at hxy; omega
theorem zez {s f : Int} : ∀ {l : List Rv},Srt l → (s,f) ∈ l → (∀ g,(s,g) ∈ l → f ≤ g) → look l s = some f
 | [],_,h,_ => by cases h
 | x :: r,hs,hm,hg => by
  have hs':=List.pairwise_cons.1 hs
  unfold look
  by_cases h1 : x.1 = s
  ·
   rw [if_pos h1]
   have h2:=hg x.2 (by rw [← h1]; exact List.mem_cons_self)
   rcases List.mem_cons.1 hm with e | hm
   ·
    rw [← e]
   ·
    have h3:=hs'.1 _ hm
    unfold ltR at h3
    have : x.2 = f:=by
     have h4 : ¬ (s = x.1 ∧ f < x.2):=fun h => h3 (.inr h)
     omega
    rw [this]
  ·
   rw [if_neg h1]
   rcases List.mem_cons.1 hm with e | hm
   ·
    rw [← e] at h1; exact absurd rfl h1
   ·
    exact zez hs'.2 hm fun g hg' => hg g (List.mem_cons_of_mem _ hg')
theorem cpt_merge {a b d : List Rv} (ha : Ris a) (hb : Ris b) (hd : Srt d) (hp : d.Perm (a ++ b)) : cpt d = mergeR a b:=by
 refine look_ext (cpt_ris hd.up) (zgg ha) fun s => ?_
 rw [look_cpt,zgj ha hb]
 have hm : ∀ y,y ∈ d ↔ y ∈ a ∨ y ∈ b:=fun y => by rw [hp.mem_iff,List.mem_append]
 cases h1 : look a s with
 | none =>
  have n1:=zbx h1
  cases h2 : look b s with
  | none =>
   have n2:=zbx h2
   exact zce fun y hy => ((hm y).1 hy).elim (n1 y) (n2 y)
  | some g =>
   refine zez hd ((hm _).2 (.inr (zec h2))) fun g' hg' => ?_
   rcases (hm _).1 hg' with h | h
   ·
    exact absurd rfl (n1 _ h)
   ·
    have:=zcq hb h
    rw [h2] at this
    have:=Option.some.inj this
    omega
 | some f =>
  have u1 : ∀ g',(s,g') ∈ a → g' = f:=fun g' h => by
   have:=zcq ha h
   rw [h1] at this
   exact (Option.some.inj this).symm
  cases h2 : look b s with
  | none =>
   have n2:=zbx h2
   refine zez hd ((hm _).2 (.inl (zec h1))) fun g' hg' => ?_
   rcases (hm _).1 hg' with h | h
   ·
    have:=u1 _ h; omega
   ·
    exact absurd rfl (n2 _ h)
  | some g =>
   have u2 : ∀ g',(s,g') ∈ b → g' = g:=fun g' h => by
    have:=zcq hb h
    rw [h2] at this
    exact (Option.some.inj this).symm
   show look d s = some (if g < f then g else f)
   by_cases hgf : g < f
   ·
    rw [if_pos hgf]
    refine zez hd ((hm _).2 (.inr (zec h2))) fun g' hg' => ?_
    rcases (hm _).1 hg' with h | h
    ·
     have:=u1 _ h; omega
    ·
     have:=u2 _ h; omega
   ·
    rw [if_neg hgf]
    refine zez hd ((hm _).2 (.inl (zec h1))) fun g' hg' => ?_
    rcases (hm _).1 hg' with h | h
    ·
     have:=u1 _ h; omega
    ·
     have:=u2 _ h; omega
theorem insR_in {x : Rv} {l : List Rv} : ∀ z ∈ insR x l,z = x ∨ z ∈ l:=by
 induction l with
 | nil => intro z hz; exact .inl (List.mem_singleton.1 hz)
 | cons y r ih =>
  intro z hz
  unfold insR at hz
  split at hz
  ·
   rcases List.mem_cons.1 hz with rfl | hz
   ·
    exact .inr List.mem_cons_self
   ·
    exact (ih z hz).imp id (List.mem_cons_of_mem _)
  ·
   split at hz
   ·
    rename_i e
    rcases List.mem_cons.1 hz with rfl | hz
    ·
     by_cases h : x.2 < y.2
     ·
      rw [if_pos h,e]; exact .inl rfl
     ·
      rw [if_neg h]; exact .inr List.mem_cons_self
    ·
     exact .inr (List.mem_cons_of_mem _ hz)
   ·
    rcases List.mem_cons.1 hz with rfl | hz
    ·
     exact .inl rfl
    ·
     exact .inr hz
theorem mergeR_in : ∀ {b a : List Rv},∀ z ∈ mergeR a b,z ∈ a ∨ z ∈ b
 | [],_,z,hz => .inl hz
 | x :: r,a,z,hz => by
  rcases mergeR_in (b:=r) (a:=insR x a) z hz with h | h
  ·
   rcases insR_in z h with rfl | h
   ·
    exact .inr List.mem_cons_self
   ·
    exact .inl h
  ·
   exact .inr (List.mem_cons_of_mem _ h)
theorem mergeR_may {a b : List Rv} (ha : mayRs a = true) (hb : mayRs b = true) (hl : (mergeR a b).length ≤ 200) : mayRs (mergeR a b) = true:=by
 refine decide_eq_true ⟨hl,fun i hi => ?_⟩
 have hr:=of_ris (zgg (b:=b) (zcz ha)) i hi
 have hm : (mergeR a b).getD i (0,0) ∈ mergeR a b:=List.mem_of_getElem? (zeh hi)
 have h4 : 1 ≤ ((mergeR a b).getD i (0,0)).1 ∧ ((mergeR a b).getD i (0,0)).1 ≤ 2147483647 ∧ 0 ≤ ((mergeR a b).getD i (0,0)).2 ∧ ((mergeR a b).getD i (0,0)).2 ≤ 1073741824:=(mergeR_in _ hm).elim (mayRs_each ha _) (mayRs_each hb _)
 exact ⟨h4.1,h4.2.1,h4.2.2.1,h4.2.2.2,hr⟩
end Go.Proofs.YtbfkecfcolcclaaGreatDoor
namespace Go.Proofs.YtbfkecfcolcclaaGreatDoor
structure Pd where
 id : Int
 mi : Int
 sv : Sv
def noPd : Pd:=⟨0,0,noSv⟩
def okP (l : List Pd) (i : Nat) : Prop:=1 ≤ (l.getD i noPd).id ∧ (l.getD i noPd).id ≤ 16 ∧ (0 < i → (l.getD (i - 1) noPd).id < (l.getD i noPd).id) ∧ 1 ≤ (l.getD i noPd).mi ∧ (l.getD i noPd).mi ≤ 1048576 ∧ mayV (l.getD i noPd).sv = true
instance (l : List Pd) (i : Nat) : Decidable (okP l i):=by unfold okP; infer_instance
def mayP (l : List Pd) : Bool:=decide (l.length ≤ 16 ∧ ∀ i,i < l.length → okP l i)
theorem mayP_no {l : List Pd} {i : Nat} (hi : i < l.length) (h : ¬ okP l i) : mayP l = false:=decide_eq_false fun k => h (k.2 i hi)
theorem mayP_len {l : List Pd} (h : ∀ i,i < l.length → okP l i) : mayP l = decide (l.length ≤ 16):=by
 unfold mayP
 by_cases c : l.length ≤ 16
 ·
  rw [decide_eq_true c,decide_eq_true ⟨c,h⟩]
 ·
  rw [decide_eq_false c,decide_eq_false fun k => c k.1]
theorem mayP_ok {l : List Pd} (h : mayP l = true) {i : Nat} (hi : i < l.length) : okP l i:=(of_decide_eq_true h).2 i hi
theorem mayP_16 {l : List Pd} (h : mayP l = true) : l.length ≤ 16:=(of_decide_eq_true h).1
def prodP (l : List Pd) (p : Int) : Option Pd:=l.find? fun x => decide (x.id = p)
theorem prodP_in {l : List Pd} {p : Int} {x : Pd} (h : prodP l p = some x) : ∃ i,i < l.length ∧ l.getD i noPd = x:=by
 obtain ⟨i,hi,e⟩:=List.mem_iff_getElem.1 (List.mem_of_find?_eq_some h)
 exact ⟨i,hi,by rw [List.getD_eq_getElem?_getD,List.getElem?_eq_getElem hi]; exact e⟩
def whyX (x : Pd) (t : Tk) (z a : Int) : Int:=if t.z / 2 ^ z.toNat % 2 = 0 then 5 else if a < t.f ∨ t.f + x.mi ≤ a ∨ runsV x.sv (a / 1440) = false then 6 else 1
def whyV (l : List Pd) (t : Tk) (z a : Int) : Int:=match prodP l t.p with
 | none => 7
 | some x => whyX x t z a
def placeB (z a : Int) : Bool:=decide (0 ≤ z ∧ z ≤ 7 ∧ 0 ≤ a ∧ a ≤ 1073741824)
def coversV (l : List Pd) (t : Tk) (z a : Int) : Bool:=mayP l && (mayT t && (placeB z a && decide (whyV l t z a = 1)))
def verdV (L : Low) (K : List Ky) (R : List Rv) (l : List Pd) (bs : List Nat) (z a : Int) : Int :=
 if (kcheckB L K bs a).2 = 2 then 2 else if (kcheckB L K bs a).2 ≠ 0 then 3 else if isR R (kcheckB L K bs a).1.s a = true then 4 else whyV l (kcheckB L K bs a).1 z a
def argV (K : List Ky) (R : List Rv) (l : List Pd) (z a : Int) : Bool:=mayK K && (mayRs R && (mayP l && placeB z a))
theorem kcheckB_may {L : Low} {K : List Ky} {bs : List Nat} {a : Int} (hb : Byt bs) (h : (kcheckB L K bs a).2 = 0) : mayT (kcheckB L K bs a).1 = true:=by
 cases ho : openB bs with
 | none => rw [zen ho] at h; cases h
 | some v =>
  obtain ⟨t,r,s⟩:=v
  have hm:=(signed_open hb ho).2.1
  rw [zem ho] at h ⊢
  split at h
  ·
   cases h
  ·
   rename_i k hk
   rw [zfg ho] at h ⊢
   split at h
   ·
    rename_i c
    rw [if_pos c]
    exact hm
   ·
    cases h
theorem verd_valid {L : Low} {K : List Ky} {R : List Rv} {l : List Pd} {bs : List Nat} {z a : Int} (hb : Byt bs) (hA : argV K R l z a = true) :
  decide (verdV L K R l bs z a = 1) = (decide ((kcheckB L K bs a).2 = 0) && (!isR R (kcheckB L K bs a).1.s a && coversV l (kcheckB L K bs a).1 z a)):=by
 unfold argV at hA
 simp only [Bool.and_eq_true] at hA
 unfold verdV coversV
 by_cases h2 : (kcheckB L K bs a).2 = 2
 ·
  rw [if_pos h2,decide_eq_false (p:=(kcheckB L K bs a).2 = 0) (by omega)]
  rfl
 ·
  rw [if_neg h2]
  by_cases h0 : (kcheckB L K bs a).2 = 0
  ·
   rw [if_neg (by simpa using h0),decide_eq_true h0,Bool.true_and,hA.2.2.1,kcheckB_may hb h0,hA.2.2.2]
   cases isR R (kcheckB L K bs a).1.s a <;> simp
  ·
   rw [if_pos h0,decide_eq_false h0]
   rfl
theorem verd_more {L : Low} {K : List Ky} {R M : List Rv} {l : List Pd} {bs : List Nat} {z a : Int} (hR : ∀ s t,isR R s t = true → isR M s t = true) (h : verdV L K M l bs z a = 1) : verdV L K R l bs z a = 1:=by
 unfold verdV at h ⊢
 split
 ·
  rename_i c; rw [if_pos c] at h; exact h
 ·
  rename_i c
  rw [if_neg c] at h
  split
  ·
   rename_i c2; rw [if_pos c2] at h; exact h
  ·
   rename_i c2
   rw [if_neg c2] at h
   split
   ·
    rename_i c3; rw [if_pos (hR _ _ c3)] at h; exact absurd h (by decide)
   ·
    split at h
    ·
     exact absurd h (by decide)
    ·
     exact h
end Go.Proofs.YtbfkecfcolcclaaGreatDoor
namespace Go.Proofs.YtbfkecfcolcclaaGreatDoor
open Go.RowKit
open Go.Value renaming int → vI
open Go.IntKind renaming u64 → vU
open Go.Act renaming put → aP
open List renaming setIfInBounds_toArray → lA, set_cons_zero → lZ, set_cons_succ → lS
section
variable {α : Type} {sz : Nat} {cs : α → List Value} {w w' : World} {v : Value} {l : List α} {P : Program}
def Ls (sz : Nat) (cs : α → List Value) (w : World) (v : Value) (l : List α) : Prop :=
 ∃ A c,v = .slice A l.length c ∧ l.length ≤ c ∧ (l.length = 0 ∨ ∃ b o,A = some ⟨b,o,none⟩ ∧ b < w.heap.size ∧ ∀ i x,l[i]? = some x → w.rangeAt b (o + i * sz) (cs x))
theorem zas (h : Ext w w') {b o : Nat} {L : List Value} (hb : b < w.heap.size) (hr : w.rangeAt b o L) : w'.rangeAt b o L:=fun j u hu => (h.cell hb).trans (hr j u hu)
theorem Ls.ext (h : Ls sz cs w v l) (k : Ext w w') : Ls sz cs w' v l:=by
 obtain ⟨A,c,e,hc,hx⟩:=h
 exact ⟨A,c,e,hc,hx.imp id fun ⟨b,o,ha,hb,hr⟩ => ⟨b,o,ha,Nat.lt_of_lt_of_le hb (Below.size k),fun i x hi => zas k hb (hr i x hi)⟩⟩
theorem Ls.nil (w : World) (A : Option Addr) (c : Nat) : Ls sz cs w (.slice A 0 c) ([] : List α):=⟨A,c,rfl,Nat.zero_le _,.inl rfl⟩
theorem Ls.at (h : Ls sz cs w v l) {i : Nat} (hi : i < l.length) : ∃ b o c,v = .slice (some ⟨b,o,none⟩) l.length c ∧ l.length ≤ c ∧ b < w.heap.size ∧ ∀ i x,l[i]? = some x → w.rangeAt b (o + i * sz) (cs x):=by
 obtain ⟨A,c,e,hc,hx⟩:=h
 rcases hx with h0 | ⟨b,o,rfl,hb,hr⟩
 ·
  omega
 ·
  exact ⟨b,o,c,e,hc,hb,hr⟩
def OwnL (sz : Nat) (cs : α → List Value) (w : World) (base ty : Nat) (v : Value) (l : List α) : Prop:=w.ownsRow base ty sz v l.length (l.flatMap cs)
variable {base ty : Nat}
theorem OwnL.nil (w : World) (base ty : Nat) : OwnL sz cs w base ty (.slice none 0 0) ([] : List α):=World.ownsRow_nil _ _ _ _
theorem OwnL.keep (o : OwnL sz cs w base ty v l) (h : Ext w w') : OwnL sz cs w' base ty v l :=
 ⟨o.1,o.2.imp id fun ⟨g,cap,cur,e,hg,hh,r⟩ => ⟨g,cap,cur,e,hg,h.block hh,r⟩⟩
theorem OwnL.lt (o : OwnL sz cs w base ty v l) {k : Nat} (hk : v.ownBlock = some k) : base ≤ k ∧ k < w.heap.size:=World.ownsRow.lt o k hk
theorem flat_at (hcs : ∀ x,(cs x).length = sz) : ∀ {l : List α} {i j : Nat} {x : α} {u : Value},l[i]? = some x → (cs x)[j]? = some u → (l.flatMap cs)[i * sz + j]? = some u
 | [],_,_,_,_,h,_ => by simp at h
 | a :: l,0,j,x,u,h,hu => by
  obtain rfl : a = x:=by simpa using h
  have hj : j < (cs a).length:=(List.getElem?_eq_some_iff.1 hu).1
  rw [List.flatMap_cons,Nat.zero_mul,Nat.zero_add,List.getElem?_append_left hj]
  exact hu
 | a :: l,i + 1,j,x,u,h,hu => by
  rw [List.flatMap_cons,List.getElem?_append_right (by rw [hcs,Nat.add_mul]; omega),hcs,show (i + 1) * sz + j - sz = i * sz + j by rw [Nat.add_mul]; omega]
  exact flat_at hcs (by simpa using h) hu
theorem zfd (hcs : ∀ x,(cs x).length = sz) : ∀ (l : List α),(l.flatMap cs).length = l.length * sz
 | [] => by simp
 | a :: l => by rw [List.flatMap_cons,List.length_append,hcs,zfd hcs l,List.length_cons,Nat.add_mul]; omega
theorem OwnL.ls (hcs : ∀ x,(cs x).length = sz) (o : OwnL sz cs w base ty v l) : Ls sz cs w v l:=by
 rcases o.2 with ⟨rfl,h0⟩ | ⟨g,cap,cur,rfl,hbg,hh,hn,hm,hs,ht⟩
 ·
  exact ⟨none,0,by rw [h0],by omega,.inl h0⟩
 ·
  refine ⟨_,cap,rfl,hn,.inr ⟨g,0,rfl,(Array.getElem?_eq_some_iff.1 hh).1,fun i x hi j u hu => ?_⟩⟩
  have h1:=flat_at hcs hi hu
  rw [← ht] at h1
  have hlt : i * sz + j < l.length * sz:=by
   have:=(List.getElem?_eq_some_iff.1 h1).1
   rw [List.length_take] at this
   omega
  rw [List.getElem?_take_of_lt hlt] at h1
  rw [Nat.zero_add,cell_of_row w g _ cur _ _ hh]
  simpa using h1
theorem run_append_ls {i : TypeInfo} {z : Value} {bytes t : Nat} (ht : P.underlying t = some (.slice ty)) (hi : P.info? ty = some i) (hz : i.zero = some z) (hsize : i.size = sz) (hby : i.bytes = bytes) (hzs : z.cells.size = sz) (hsz : 0 < sz)
  (hcs : ∀ x,(cs x).length = sz) (h1 : ∀ x,∀ u ∈ cs x,u.oneCell' = true) (rt : TypeId) (o : OwnL sz cs w base ty v l) {ys : List α} {A : Option Addr} {m c : Nat} (hm : m = ys.length) (hy : Ls sz cs w (.slice A m c) ys)
  (h63 : l.length + m ≤ maxLen) (hbytes : (l.length + m) * bytes ≤ 140737488355328) (hbase : base ≤ w.heap.size) :
  ∃ v' w',(Builtin.append_ #[t,t] rt #[v,.slice A m c]).run P w = .ok v' w' ∧ OwnL sz cs w' base ty v' (l ++ ys) ∧ w.grownBy w' v.ownBlock ∧ (v'.ownBlock = v.ownBlock ∨ v'.ownBlock = some w.heap.size):=by
 subst hm
 obtain ⟨A',c',e,hc,hx⟩:=hy
 injection e with e1 _ e3
 subst e1 e3
 rcases A with _ | a
 ·
  have h0 : ys = []:=by
   rcases hx with h | ⟨_,_,h,_⟩
   ·
    exact List.length_eq_zero_iff.1 h
   ·
    cases h
  subst h0
  refine ⟨v,w,?_,by rw [List.append_nil]; exact o,World.grownBy.refl w _,.inl rfl⟩
  rcases o.2 with ⟨rfl,h0⟩ | ⟨g,cap,cur,rfl,_,_,hnc,_⟩
  ·
   simp [Builtin.append_,run_underlying ht,sizeOf,typeInfo,hi,Builtin.lenOf,Builtin.firstCells]
  ·
   simp [Builtin.append_,run_underlying ht,sizeOf,typeInfo,hi,Builtin.lenOf,Builtin.firstCells,hnc,storeCells]
 ·
  have hcell : ∀ j u,(ys.flatMap cs)[j]? = some u → w.cell? (a.add j) = some u:=by
   intro j u hu
   have hj:=(List.getElem?_eq_some_iff.1 hu).1
   rw [zfd hcs] at hj
   rcases hx with h | ⟨b,off,ha,_,hr⟩
   ·
    rw [h] at hj; omega
   ·
    obtain rfl:=Option.some.inj ha
    have hq : j / sz < ys.length:=(Nat.div_lt_iff_lt_mul hsz).2 hj
    have hr2:=hr (j / sz) _ (List.getElem?_eq_getElem hq)
    have hd : j / sz * sz + j % sz = j:=by rw [Nat.mul_comm]; exact Nat.div_add_mod j sz
    have hlt : j % sz < (cs ys[j / sz]).length:=by rw [hcs]; exact Nat.mod_lt _ hsz
    have h3:=flat_at hcs (List.getElem?_eq_getElem hq) (List.getElem?_eq_getElem hlt)
    rw [hd,hu] at h3
    obtain rfl:=Option.some.inj h3
    have h4:=hr2 _ _ (List.getElem?_eq_getElem hlt)
    rw [Nat.add_assoc,hd] at h4
    rw [Addr.add_mid]
    exact h4
  obtain ⟨v',w',hr,h2,h3,_,h5⟩:=run_append_own_at (P:=P) w base t rt ty i z sz bytes ht hi hz hsize hby hzs hsz v l.length _ o a ys.length c (ys.flatMap cs) (zfd hcs ys) hcell
   (fun u hu => by obtain ⟨x,_,hx⟩:=List.mem_flatMap.1 hu; exact h1 x u hx) h63 hbytes hbase
  refine ⟨v',w',hr,?_,h3,h5⟩
  unfold OwnL
  rw [List.flatMap_append,List.length_append]
  exact h2
theorem ls_one {g c : Nat} {x : α} {fr : Nat × Nat} (hg : w.heap[g]? = some (.cells (cs x).toArray ty fr)) (hc : 1 ≤ c:=by decide) : Ls sz cs w (.slice (some ⟨g,0,none⟩) 1 c) [x] :=
 ⟨_,c,rfl,hc,.inr ⟨g,0,rfl,(Array.getElem?_eq_some_iff.1 hg).1,fun i y hi j u hu => by
  match i,hi with
  | 0,hi =>
   obtain rfl : x = y:=by simpa using hi
   simp only [Nat.zero_mul,Nat.zero_add]
   rw [cell_of_row w g j _ _ _ hg]
   simpa using hu⟩⟩
theorem zfx {i : TypeInfo} {z : Value} {bytes t : Nat} (ht : P.underlying t = some (.slice ty)) (hi : P.info? ty = some i) (hz : i.zero = some z) (hsize : i.size = sz) (hby : i.bytes = bytes) (hzs : z.cells.size = sz) (hsz : 0 < sz)
  (hcs : ∀ x,(cs x).length = sz) (h1 : ∀ x,∀ u ∈ cs x,u.oneCell' = true) {ops : Array Oper} {Q : Exit → Act → World → Prop} {rest : List Oper} {op : Oper} {a : Act} {s x : Operand} (hgd : op.guard = none) (hop : op.op = .call { callee:=.builtin .append,args:=#[s,x],argTypes:=#[t,t] })
  (hs : a.eval s = v) {ys : List α} {A : Option Addr} {m c : Nat} (hx : a.eval x = .slice A m c) (o : OwnL sz cs w base ty v l) (hm : m = ys.length) (hy : Ls sz cs w (.slice A m c) ys)
  (h63 : l.length + m ≤ maxLen) (hbytes : (l.length + m) * bytes ≤ 140737488355328) (hbase : base ≤ w.heap.size)
  (h : ∀ v' w',OwnL sz cs w' base ty v' (l ++ ys) → w.grownBy w' v.ownBlock → wpList P ops Q rest (a.put op.dst v') w') : wpList P ops Q (op :: rest) a w:=by
 refine wpList_plain hgd fun K hK => ?_
 obtain ⟨v',w',hr,h2,h3,_⟩:=run_append_ls (P:=P) ht hi hz hsize hby hzs hsz hcs h1 op.type o hm hy h63 hbytes hbase
 unfold Oper.wp execOp
 simp only [hop,resolve,invoke,builtin,Sem.run_bind,Sem.run_pure,Result.andThen_ok,List.map_toArray,List.map_cons,List.map_nil,hs,hx,hr]
 exact hK _ _ (h v' w' h2 h3)
theorem ls_of {H : Type} {enc : TypeId × Value → H} {t e fuel base : Nat} {sp : Nat → Bool} {hd : Bool} {d : DataW H} {p : List MemPlace} (ht : P.underlying t = some (.slice e)) (hsz : P.cellsOf e = sz) (h0 : 0 < sz)
  (he : ∀ n cs' y,DataW.trod enc P w base sp hd n e cs' = some y → ∃ x,cs' = cs x) (hf : DataW.trod enc P w base sp hd fuel t [v] = some (d,p)) : ∃ l : List α,Ls sz cs w v l:=by
 rcases Go.Deep.open_slice ht hf with ⟨h,_⟩ | ⟨a,len,cap,m,n,D,Pl,h,_,hlc,_,hm,_,hx⟩
 ·
  simp only [List.cons.injEq,and_true] at h
  rw [h]
  exact ⟨[],Ls.nil _ _ _⟩
 ·
  simp only [List.cons.injEq,and_true] at h
  have hlm : len ≤ m:=by rw [hm]; split <;> omega
  have each : ∀ i,i < len → ∃ x : α,(cs x).length = sz ∧ ∀ j u,(cs x)[j]? = some u → w.cell? ((a.add (i * sz)).add j) = some u:=by
   intro i hi
   obtain ⟨cs',h1,h2⟩:=hx i (by omega)
   rw [hsz] at h1
   obtain ⟨_,hlen,hcell⟩:=World.cells?_some h1
   obtain ⟨x,rfl⟩:=he _ _ _ h2
   refine ⟨x,hlen,fun j u hu => ?_⟩
   have hj:=(List.getElem?_eq_some_iff.1 hu).1
   rw [hcell j (by omega),hu]
  by_cases hl0 : len = 0
  ·
   rw [h,hl0]
   exact ⟨[],Ls.nil _ _ _⟩
  ·
   obtain ⟨x0,_⟩:=each 0 (by omega)
   haveI : Inhabited α:=⟨x0⟩
   obtain ⟨q,hq⟩:=Go.Deep.choose_lt each
   refine ⟨(List.range len).map q,some a,cap,by rw [h]; simp,by simpa using hlc,.inr ?_⟩
   obtain ⟨b,off,spot⟩:=a
   have h00 : ∃ u,(cs (q 0))[0]? = some u:=⟨_,List.getElem?_eq_getElem (by rw [(hq 0 (by omega)).1]; exact h0)⟩
   obtain ⟨u0,hu0⟩:=h00
   have hc0:=(hq 0 (by omega)).2 0 u0 hu0
   have hspot : spot = none:=by simpa [Addr.add] using World.cell?_spot hc0
   subst hspot
   have hblk : b < w.heap.size:=by
    have:=World.block_lt_of_cell? w _ hc0
    simpa [Addr.add] using this
   refine ⟨b,off,rfl,hblk,fun i x hi j u hu => ?_⟩
   have hil : i < len:=by
    have:=(List.getElem?_eq_some_iff.1 hi).1
    simpa using this
   obtain rfl : q i = x:=by simpa [hil] using hi
   have:=(hq i hil).2 j u hu
   rw [Addr.add_mid,Addr.add_mid] at this
   exact this
end
def dC (x : Int) : List Value:=[.int .i64 x]
abbrev Ds (w : World) (v : Value) (l : List Int) : Prop:=Ls 1 dC w v l
theorem d_cell {w w' : World} {b o i : Nat} {l : List Int} (hE : Ext w w') (hb : b < w.heap.size) (h : ∀ i x,l[i]? = some x → w.rangeAt b (o + i * 1) (dC x)) (hi : i < l.length) : w'.cell? ⟨b,o + i,none⟩ = some (.int .i64 (l.getD i 0)):=by
 have:=zas hE hb (h i _ (d_get hi)) 0 _ rfl
 simpa using this
def svC (s : Sv) (vE vX : Value) : Array Value:=#[.int .i64 s.wk,.int .i64 s.fr,.int .i64 s.to,vE,vX]
def Vs12 (w : World) (v : Value) (s : Sv) : Prop:=∃ vE vX,v = .agg (svC s vE vX) ∧ Ds w vE s.ex ∧ Ds w vX s.ec
theorem Vs12.ext {w w' : World} {v : Value} {s : Sv} (h : Vs12 w v s) (k : Ext w w') : Vs12 w' v s:=by
 obtain ⟨vE,vX,e,h1,h2⟩:=h
 exact ⟨vE,vX,e,h1.ext k,h2.ext k⟩
theorem iSv (s : Sv) (vE vX : Value) : (Tryz.prog.info? 49).map (·.size) = some (svC s vE vX).size:=by
 show _ = some 5
 kernel_rfl
section
variable {w w' : World} {g : Nat} {s : Sv} {vE vX : Value}
def SvAt (w : World) (g : Nat) (s : Sv) (vE vX : Value) : Prop:=w.heap[g]? = some (.cells (svC s vE vX) 49 (0,0))
theorem SvAt.ext (h : SvAt w g s vE vX) (k : Ext w w') : SvAt w' g s vE vX:=k.block h
theorem SvAt.at0 (h : SvAt w g s vE vX) : w.cell? ⟨g,0,none⟩ = some (.int .i64 s.wk):=cell_of_row w g 0 _ _ _ h
theorem SvAt.at1 (h : SvAt w g s vE vX) : w.cell? ⟨g,1,none⟩ = some (.int .i64 s.fr):=cell_of_row w g 1 _ _ _ h
theorem SvAt.at2 (h : SvAt w g s vE vX) : w.cell? ⟨g,2,none⟩ = some (.int .i64 s.to):=cell_of_row w g 2 _ _ _ h
theorem SvAt.at3 (h : SvAt w g s vE vX) : w.cell? ⟨g,3,none⟩ = some vE:=cell_of_row w g 3 _ _ _ h
theorem SvAt.at4 (h : SvAt w g s vE vX) : w.cell? ⟨g,4,none⟩ = some vX:=cell_of_row w g 4 _ _ _ h
theorem SvAt.new (w : World) (s : Sv) (vE vX : Value) : SvAt (w.alloc (.cells (svC s vE vX) 49)) w.heap.size s vE vX:=zab w _
end
theorem zed {wk fr tu : Int} {ex ec : List Int} (h : ¬ (0 ≤ wk ∧ wk ≤ 127 ∧ 0 ≤ fr ∧ fr ≤ tu ∧ tu ≤ 1048576)) : boundB ⟨wk,fr,tu,ex,ec⟩ = false:=decide_eq_false h
theorem boundB_yes {wk fr tu : Int} {ex ec : List Int} (h : 0 ≤ wk ∧ wk ≤ 127 ∧ 0 ≤ fr ∧ fr ≤ tu ∧ tu ≤ 1048576) : boundB ⟨wk,fr,tu,ex,ec⟩ = true:=decide_eq_true h
abbrev Sw:=Sv × Value × Value
def swC (x : Sw) : List Value:=[.int .i64 x.1.wk,.int .i64 x.1.fr,.int .i64 x.1.to,x.2.1,x.2.2]
section
variable {w w' : World} {g : Nat} {vS vC : Value} {c : Cn}
end
abbrev Pw:=Pd × Value × Value
def pwC (x : Pw) : List Value:=[.int .i64 x.1.id,.int .i64 x.1.mi,.int .i64 x.1.sv.wk,.int .i64 x.1.sv.fr,.int .i64 x.1.sv.to,x.2.1,x.2.2]
def Ps14 (w : World) (v : Value) (l : List Pw) : Prop:=Ls 7 pwC w v l ∧ ∀ x ∈ l,Ds w x.2.1 x.1.sv.ex ∧ Ds w x.2.2 x.1.sv.ec
theorem Ps14.ext {w w' : World} {v : Value} {l : List Pw} (h : Ps14 w v l) (k : Ext w w') : Ps14 w' v l:=⟨h.1.ext k,fun x hx => ⟨(h.2 x hx).1.ext k,(h.2 x hx).2.ext k⟩⟩
def noPw : Pw:=(noPd,.slice none 0 0,.slice none 0 0)
theorem pw_get {l : List Pw} {i : Nat} (h : i < l.length) : l[i]? = some (l.getD i noPw):=by rw [List.getD_eq_getElem?_getD,List.getElem?_eq_getElem h]; rfl
theorem pw_mem {l : List Pw} {i : Nat} (h : i < l.length) : l.getD i noPw ∈ l:=List.mem_of_getElem? (pw_get h)
theorem pw_fst {l : List Pw} (i : Nat) : (l.map (·.1)).getD i noPd = (l.getD i noPw).1:=by
 rw [List.getD_eq_getElem?_getD,List.getD_eq_getElem?_getD,List.getElem?_map]
 cases l[i]? <;> rfl
def pds (l : List Pw) : List Pd:=l.map (·.1)
theorem pds_len (l : List Pw) : (pds l).length = l.length:=List.length_map ..
theorem pds_at (l : List Pw) (i : Nat) : (pds l).getD i noPd = (l.getD i noPw).1:=pw_fst i
def pwS (x : Pw) : List Value:=[.int .i64 x.1.sv.wk,.int .i64 x.1.sv.fr,.int .i64 x.1.sv.to,x.2.1,x.2.2]
theorem iPwS (x : Pw) : (Tryz.prog.info? 49).map (·.size) = some (pwS x).length:=iSv x.1.sv x.2.1 x.2.2
theorem iPw (x : Pw) : (Tryz.prog.info? 51).map (·.size) = some (pwC x).length:=by
 show _ = some 7
 kernel_rfl
theorem pwS_range {w : World} {b o : Nat} {x : Pw} (h : w.rangeAt b o (pwC x)) : w.rangeAt b (o + 2) (pwS x):=fun j v hj => by
 have:=h (j + 2) v (by simpa [pwC,pwS] using hj)
 rwa [show o + (j + 2) = o + 2 + j by omega] at this
def smallP (x : Pd) : Prop:=x.sv.ex.length ≤ 300 ∧ x.sv.ec.length ≤ 300
instance (x : Pd) : Decidable (smallP x):=by unfold smallP; infer_instance
def fewP (l : List Pd) : Bool:=decide (l.length ≤ 60 ∧ ∀ i,i < l.length → smallP (l.getD i noPd))
theorem fewP_no {l : List Pd} {i : Nat} (hi : i < l.length) (h : ¬ smallP (l.getD i noPd)) : fewP l = false:=decide_eq_false fun k => h (k.2 i hi)
theorem fewP_len {l : List Pd} (h : ∀ i,i < l.length → smallP (l.getD i noPd)) : fewP l = decide (l.length ≤ 60):=by
 unfold fewP
 by_cases c : l.length ≤ 60
 ·
  rw [decide_eq_true c,decide_eq_true ⟨c,h⟩]
 ·
  rw [decide_eq_false c,decide_eq_false fun k => c k.1]
theorem fewP_60 {l : List Pd} (h : fewP l = true) : l.length ≤ 60:=(of_decide_eq_true h).1
theorem fewP_at {l : List Pd} (h : fewP l = true) {i : Nat} (hi : i < l.length) : smallP (l.getD i noPd):=(of_decide_eq_true h).2 i hi
theorem few14_calls (v : Value) (l : List Pw) (w : World) (hF : Ps14 w v l) (hL : (l.length : Int) ≤ 9223372036854775807) : Calls Tryz.prog 7 #[v] w fun e w' => e = .returned (.bool (fewP (pds l))) ∧ w' = w:=by
 obtain ⟨⟨AL,c,rfl,hc,hx⟩,hD⟩:=hF
 obtain ⟨R,hR⟩ : ∃ R,R = fewP (pds l):=⟨_,rfl⟩
 rw [← hR]
 obtain ⟨n,hn⟩ : ∃ n,n = l.length:=⟨_,rfl⟩
 rw [← hn] at hx hc hL ⊢
 have HX:=veil (And.intro hx hD)
 have HR:=veil (And.intro hR (And.intro hn (hn.trans (pds_len l).symm)))
 clear hR hx hn hD
 go_enter Tryz.func7,Tryz.ntmps7
 go_wp2
 go_loopw [3] (fun v wr => ∃ i : Nat,i ≤ n ∧ v = .int .i64 (i : Int) ∧ (∀ j,j < i → smallP ((pds l).getD j noPd)) ∧ wr = w)
  (fun v _ => n - (intOf v).toNat)
 case atStart => exact ⟨0,by omega,rfl,fun j hj => by omega,rfl⟩
 case round =>
  obtain ⟨i,hi,rfl,hall,rfl⟩:=hrel
  by_cases hlt : i < n
  ·
   have hd1 : decide ((i : Int) < (n : Int)) = true:=by simp; omega
   have hii : (i : Int) < (n : Int):=by omega
   obtain ⟨b,o,hAL,hb,hcl⟩:=HX.out.1.resolve_left (by omega)
   have hil : i < l.length:=by have:=HR.out.2.1; omega
   have hrg:=hcl i _ (pw_get hil)
   have hdd:=HX.out.2 _ (pw_mem hil)
   have hs:=pds_at l i
   obtain ⟨x,hxx⟩ : ∃ x,x = l.getD i noPw:=⟨_,rfl⟩
   rw [← hxx] at hrg hdd hs
   obtain ⟨s,vE,vX⟩:=x
   obtain ⟨⟨AE,cE,hvE,_,_⟩,⟨AX,cX,hvX,_,_⟩⟩:=hdd
   simp only at hvE hvX hs
   subst hvE hvX
   obtain ⟨p,hp⟩ : ∃ p,p = s.sv.ex.length:=⟨_,rfl⟩
   obtain ⟨q,hq⟩ : ∃ q,q = s.sv.ec.length:=⟨_,rfl⟩
   rw [← hp,← hq] at hrg
   have c5 : wr.cell? ⟨b,o + i * 7 + 5,none⟩ = some (.slice AE p cE):=hrg 5 _ rfl
   have c6 : wr.cell? ⟨b,o + i * 7 + 6,none⟩ = some (.slice AX q cX):=hrg 6 _ rfl
   have HI:=veil (And.intro hall (And.intro hs (And.intro hp hq)))
   have hno : ¬ (p ≤ 300 ∧ q ≤ 300) → R = false:=fun h => HR.out.1.trans (fewP_no (i:=i) (by have:=HR.out.2.2; omega) (by rw [hs]; unfold smallP; rw [← hp,← hq]; exact h))
   have HN:=veil hno
   subst hAL
   clear hrg hxx hs hp hq hall hb hcl hil hno
   by_cases a1 : (300 : Int) < (p : Int)
   ·
    have d1 : decide ((300 : Int) < (p : Int)) = true:=decide_eq_true a1
    obtain rfl : R = false:=HN.out (by omega)
    go_wp2
    go_ret
    exact ⟨rfl,rfl⟩
   have d1 : decide ((300 : Int) < (p : Int)) = false:=decide_eq_false a1
   by_cases a2 : (300 : Int) < (q : Int)
   ·
    have d2 : decide ((300 : Int) < (q : Int)) = true:=decide_eq_true a2
    obtain rfl : R = false:=HN.out (by omega)
    go_wp2
    go_ret
    exact ⟨rfl,rfl⟩
   have d2 : decide ((300 : Int) < (q : Int)) = false:=decide_eq_false a2
   go_wp2
   go_roundw
   case rel =>
    refine ⟨i + 1,by omega,by go_num,fun j hj => ?_,trivial⟩
    by_cases e : j = i
    ·
     subst e
     rw [HI.out.2.1]
     unfold smallP
     rw [← HI.out.2.2.1,← HI.out.2.2.2]
     omega
    ·
     exact HI.out.1 j (by omega)
   case measure => simp [intOf]; omega
  ·
   obtain rfl : i = n:=by omega
   have hd1 : decide ((i : Int) < (i : Int)) = false:=by simp
   have e : R = decide ((i : Int) ≤ 60):=by
    rw [HR.out.1,fewP_len (by rw [← HR.out.2.2]; exact hall),← HR.out.2.2]
    by_cases h : i ≤ 60
    ·
     rw [decide_eq_true h,decide_eq_true (by omega)]
    ·
     rw [decide_eq_false h,decide_eq_false (by omega)]
   have HE:=veil e
   clear hall e
   go_wp2
   go_ret
   exact ⟨by rw [HE.out]; rfl,rfl⟩
theorem half_le (w : Int) (h : 0 ≤ w) : ∀ k : Nat,w / 2 ^ k ≤ w
 | 0 => by simp
 | k + 1 => by
  rw [← half_step w h k,Int.tdiv_eq_ediv_of_nonneg (zdt w h k)]
  have:=half_le w h k
  have:=zdt w h k
  omega
section
variable {w w' : World} {g : Nat} {t : Tk}
def TkAt (w : World) (g : Nat) (t : Tk) : Prop:=w.heap[g]? = some (.cells (tkC t) 24 (0,0))
theorem TkAt.ext (h : TkAt w g t) (k : Ext w w') : TkAt w' g t:=k.block h
theorem TkAt.at0 (h : TkAt w g t) : w.cell? ⟨g,0,none⟩ = some (.int .i64 t.s):=cell_of_row w g 0 _ _ _ h
theorem TkAt.at1 (h : TkAt w g t) : w.cell? ⟨g,1,none⟩ = some (.int .i64 t.p):=cell_of_row w g 1 _ _ _ h
theorem TkAt.at2 (h : TkAt w g t) : w.cell? ⟨g,2,none⟩ = some (.int .i64 t.z):=cell_of_row w g 2 _ _ _ h
theorem TkAt.at3 (h : TkAt w g t) : w.cell? ⟨g,3,none⟩ = some (.int .i64 t.f):=cell_of_row w g 3 _ _ _ h
theorem TkAt.new (w : World) (t : Tk) : TkAt (w.alloc (.cells (tkC t) 24)) w.heap.size t:=zab w _
end
theorem mayT_is {t : Tk} (h : mayT t = true) : 1 ≤ t.s ∧ t.s ≤ 2147483647 ∧ 1 ≤ t.p ∧ t.p ≤ 16 ∧ 1 ≤ t.z ∧ t.z ≤ 255 ∧ 0 ≤ t.f ∧ t.f ≤ 1073741824 ∧ 1 ≤ t.k ∧ t.k ≤ 2147483647:=of_decide_eq_true h
theorem placeB_is {z a : Int} (h : placeB z a = true) : 0 ≤ z ∧ z ≤ 7 ∧ 0 ≤ a ∧ a ≤ 1073741824:=of_decide_eq_true h
theorem whyX_zone {x : Pd} {t : Tk} {z a : Int} (h : t.z / 2 ^ z.toNat % 2 = 0) : whyX x t z a = 5:=if_pos h
theorem whyX_time {x : Pd} {t : Tk} {z a : Int} (h : ¬ t.z / 2 ^ z.toNat % 2 = 0) (k : a < t.f ∨ t.f + x.mi ≤ a ∨ runsV x.sv (a / 1440) = false) : whyX x t z a = 6:=by unfold whyX; rw [if_neg h,if_pos k]
theorem whyX_ok {x : Pd} {t : Tk} {z a : Int} (h : ¬ t.z / 2 ^ z.toNat % 2 = 0) (k1 : ¬ a < t.f) (k2 : ¬ t.f + x.mi ≤ a) (k3 : runsV x.sv (a / 1440) = true) : whyX x t z a = 1:=by
 unfold whyX
 rw [if_neg h,if_neg fun k => by
  rcases k with k | k | k
  ·
   exact k1 k
  ·
   exact k2 k
  ·
   rw [k3] at k; cases k]
theorem whyV_none {l : List Pd} {t : Tk} {z a : Int} (h : prodP l t.p = none) : whyV l t z a = 7:=by unfold whyV; rw [h]
theorem whyV_some {l : List Pd} {t : Tk} {z a : Int} {x : Pd} (h : prodP l t.p = some x) : whyV l t z a = whyX x t z a:=by unfold whyV; rw [h]
theorem rng_fd {w : World} {b o : Nat} {x y : Value} (h0 : w.cell? ⟨b,o,none⟩ = some x) (h1 : w.cell? ⟨b,o + 1,none⟩ = some y) : w.rangeAt b o [x,y]:=fun j v hv => by
 match j,hv with
 | 0,hv => rw [Nat.add_zero,h0]; simpa using hv
 | 1,hv => rw [h1]; simpa using hv
theorem infoF2 : (Tryz.prog.info? 135).map (·.size) = some 2:=by kernel_rfl
theorem hzF (W : World) : (Instr.alloc 135 true (.tuple #[])).run Tryz.prog W = .ok (ptrTo W.heap.size) (W.alloc (.cells #[.int .i64 0,.slice none 0 0] 135)):=by simp [Instr.alloc,go_sem]
theorem zfh {w : World} {g : Nat} {x y : Value} (h : w.heap[g]? = some (.cells #[x,y] 135 (0,0))) : w.cell? ⟨g,0,none⟩ = some x ∧ w.cell? ⟨g,1,none⟩ = some y:=⟨by rw [cell_of_row w g 0 _ _ _ h]; rfl,by rw [cell_of_row w g 1 _ _ _ h]; rfl⟩
theorem one_fd {T : Int} {A : Option Addr} {L c : Nat} : (#[.int .i64 T,.slice A L c] : Array Value).all (·.oneCell') = true:=by simp [Value.oneCell']
theorem encF_take_len (fs : List Fd) {i : Nat} (hi : i < fs.length) : (encF (fs.take (i + 1))).length = (encF (fs.take i)).length + (3 + (bsF fs i).length):=by
 rw [encF_take fs hi,List.length_append,zff]
theorem sizeOf_calls (v : Value) (fs : List Fd) (w : World) (hF : Fl w v fs) (hM : mayFs fs = true) :
  Calls Tryz.prog 179 #[v] w fun e w' => e = .returned (.int .i64 ((encF fs).length : Nat)) ∧ Ext w w':=by
 obtain ⟨hB,AL,c,rfl,hc,hx⟩:=hF
 obtain ⟨n,hn⟩ : ∃ n,n = fs.length:=⟨_,rfl⟩
 rw [← hn] at hx hc ⊢
 have HR:=veil (And.intro hn (And.intro hM hB))
 have HX:=veil hx
 have hnL : n ≤ 64:=by rw [hn]; exact mayFs_64 hM
 clear hx hB hn hM
 go_enter Tryz.func179,Tryz.ntmps179
 go_wp2
 go_loopw [3,8] (fun s v wr => ∃ i : Nat,i ≤ n ∧ s = .int .i64 ((encF (fs.take i)).length : Nat) ∧ v = .int .i64 (i : Int) ∧ Ext w wr)
  (fun _ v _ => n - (intOf v).toNat)
 case atStart => exact ⟨0,by omega,rfl,rfl,Ext.refl _⟩
 case round =>
  obtain ⟨i,hi,rfl,rfl,hE⟩:=hrel
  by_cases hlt : i < n
  ·
   have hd1 : decide ((i : Int) < (n : Int)) = true:=by simp; omega
   have hii : (i : Int) < (n : Int):=by omega
   have hok:=mayFs_ok HR.out.2.1 (by have:=HR.out.1; omega : i < fs.length)
   have hst:=encF_take_len fs (by have:=HR.out.1; omega : i < fs.length)
   have hle:=zep HR.out.2.1 i
   obtain ⟨b,o,hAL,hb,hcl⟩:=HX.out.resolve_left (by omega)
   obtain ⟨h1,A,c',h2,h3,h4⟩:=hcl i hlt
   have c0:=(hE.cell hb).trans h1
   have c1:=(hE.cell hb).trans h2
   obtain ⟨S,hS⟩ : ∃ S,S = (encF (fs.take i)).length:=⟨_,rfl⟩
   rw [← hS] at hst hle ⊢
   have hs : (S : Int) ≤ 4194432:=by omega
   have hL1:=hok.2.2.1
   have HS:=veil hst
   clear hcl h1 h2 hok hst hle h3 h4 hS
   generalize tgF fs i = T at *
   obtain ⟨L,hL⟩ : ∃ L,L = (bsF fs i).length:=⟨_,rfl⟩
   rw [← hL] at c1 hL1
   have HL:=veil hL
   clear hL
   have HRG:=veil (rng_fd c0 c1)
   clear c0 c1
   have hL2 : (L : Int) ≤ 65535:=by omega
   subst hAL
   go_upto_region 5 with (first
    | ((with_reducible refine zaa 11 ?_); refine wpList_load_mid rfl 135 _ rfl b _ rfl _ _ HRG.out Tryz.underlying135 rfl infoF2 ?_)
    | ((with_reducible refine zaa 5 ?_); refine zbs _ _ rfl rfl rfl rfl rfl rfl hzF (fun _ => rfl) (fun _ => rfl) infoF2 rfl one_fd ?_; intro g W hg hW hEW))
   have hEE:=hE.trans hEW
   obtain ⟨d0,d1⟩:=zfh hW
   clear hW hEW hE
   go_wp2
   go_roundw
   case rel => exact ⟨i + 1,by omega,by rw [HS.out,← HL.out]; simp,by go_num,hEE⟩
   case measure => simp [intOf]; omega
  ·
   obtain rfl : i = n:=by omega
   have e : encF (fs.take i) = encF fs:=by rw [HR.out.1,List.take_length]
   rw [e]
   go_wp2
   go_ret
   exact ⟨rfl,hE⟩
def szB (bs : List Nat) : Nat:=if bs.length < 3 then 3 else 3 + (256 * bs.getD 1 0 + bs.getD 2 0)
theorem sizeFirst_calls (A : Option Addr) (m c : Nat) (bs : List Nat) (hm : m = bs.length) (w : World) (hS : Bs w A bs) :
  Calls Tryz.prog 138 #[.slice A m c] w fun e w' => e = .returned (.int .i64 (szB bs : Nat)) ∧ Ext w w':=by
 have HS:=veil (And.intro hm hS)
 by_cases h3 : m < 3
 ·
  have hd : decide ((m : Int) < 3) = true:=by simp; omega
  have hs : szB bs = 3:=if_pos (by omega)
  have HZ:=veil hs
  rw [HZ.out]
  clear hm hS hs
  go_enter Tryz.func138,Tryz.ntmps138
  go_wp2
  go_ret
  exact ⟨rfl,Ext.refl _⟩
 ·
  have hd : decide ((m : Int) < 3) = false:=by simp; omega
  obtain ⟨b,o,hA,hbl,c1⟩:=hS.cell (j:=1) (by omega)
  obtain ⟨b',o',hA',_,c2⟩:=hS.cell (j:=2) (by omega)
  obtain ⟨e1,e2⟩ : b' = b ∧ o' = o:=by rw [hA] at hA'; injection hA' with h; injection h with h1 h2; exact ⟨h1.symm,h2.symm⟩
  subst e1 e2
  have l1:=hS.1.getD 1
  have l2:=hS.1.getD 2
  obtain ⟨X,hX⟩ : ∃ X,X = bs.getD 1 0:=⟨_,rfl⟩
  obtain ⟨Y,hY⟩ : ∃ Y,Y = bs.getD 2 0:=⟨_,rfl⟩
  rw [← hX] at c1 l1
  rw [← hY] at c2 l2
  have hs : szB bs = 3 + (256 * X + Y):=by unfold szB; rw [if_neg (by omega),hX,hY]
  have HZ:=veil hs
  rw [HZ.out]
  have k1 : (X : Int) ≤ 255:=by omega
  have k2 : (Y : Int) ≤ 255:=by omega
  have i1 : (1 : Int) < (m : Int):=by omega
  have i2 : (2 : Int) < (m : Int):=by omega
  clear hm hS hs hX hY l1 l2 hA' h3
  subst hA
  go_enter Tryz.func138,Tryz.ntmps138
  go_wp2
  go_quiet (fail)
  go_wp2
  go_ret
  refine ⟨?_,Ext.drewK _ _⟩
  show Ending.returned (.int .i64 (3 + (X : Int) * 256 + (Y : Int))) = _
  rw [show 3 + (X : Int) * 256 + (Y : Int) = ((3 + (256 * X + Y) : Nat) : Int) by omega]
theorem zdm (v : Value) (fs : List Fd) (w : World) (hF : Fl w v fs) (hL : fs.length ≤ 1000000000) :
  Calls Tryz.prog 140 #[v] w fun e w' => e = .returned (.bool (mayFs fs)) ∧ Ext w w':=by
 obtain ⟨hB,AL,c,rfl,hc,hx⟩:=hF
 obtain ⟨R,hR⟩ : ∃ R,R = mayFs fs:=⟨_,rfl⟩
 rw [← hR]
 obtain ⟨n,hn⟩ : ∃ n,n = fs.length:=⟨_,rfl⟩
 rw [← hn] at hx hc ⊢
 have HR:=veil (And.intro hR (And.intro hn hL))
 have HX:=veil hx
 have hnL : n ≤ 1000000000:=by omega
 clear hR hx hB hn hL
 by_cases h64 : (64 : Int) < (n : Int)
 ·
  have hd : decide ((64 : Int) < (n : Int)) = true:=decide_eq_true h64
  have e : R = false:=by
   rw [HR.out.1]
   exact decide_eq_false fun hh => by have:=hh.1; have:=HR.out.2.1; omega
  subst e
  go_enter Tryz.func140,Tryz.ntmps140
  go_wp2
  go_ret
  exact ⟨rfl,Ext.refl _⟩
 ·
  have hd : decide ((64 : Int) < (n : Int)) = false:=decide_eq_false h64
  have hn64 : n ≤ 64:=by omega
  clear hnL h64
  go_enter Tryz.func140,Tryz.ntmps140
  go_wp2
  go_loopw [3,11] (fun s v wr => ∃ (i : Nat) (P : Int),i ≤ n ∧ s = .int .i64 P ∧ v = .int .i64 (i : Int) ∧ (∀ j,j < i → okF fs j) ∧ 0 ≤ P ∧ P ≤ 255 ∧ (i = 0 ∧ P = 0 ∨ 0 < i ∧ P = tgF fs (i - 1)) ∧ Ext w wr)
   (fun _ v _ => n - (intOf v).toNat)
  case atStart => exact ⟨0,0,by omega,rfl,rfl,fun j hj => by omega,by omega,by omega,.inl ⟨rfl,rfl⟩,Ext.refl _⟩
  case round =>
   obtain ⟨i,P,hi,rfl,rfl,hall,hP0,hP1,hP,hE⟩:=hrel
   by_cases hlt : i < n
   ·
    have hd1 : decide ((i : Int) < (n : Int)) = true:=by simp; omega
    have hii : (i : Int) < (n : Int):=by omega
    obtain ⟨b,o,hAL,hb,hcl⟩:=HX.out.resolve_left (by omega)
    obtain ⟨h1,A,c',h2,_,_⟩:=hcl i hlt
    have c0:=(hE.cell hb).trans h1
    have c1:=(hE.cell hb).trans h2
    obtain ⟨T,hT⟩ : ∃ T,T = tgF fs i:=⟨_,rfl⟩
    obtain ⟨L,hL⟩ : ∃ L,L = (bsF fs i).length:=⟨_,rfl⟩
    rw [← hT] at c0
    rw [← hL] at c1
    have HT:=veil (And.intro hT (And.intro hL hP))
    have HALL:=veil hall
    have hfalse : ∀ h : ¬ okF fs i,R = false:=fun h => HR.out.1.trans (mayFs_false (by have:=HR.out.2.1; omega) h)
    have HF:=veil hfalse
    have HRG:=veil (rng_fd c0 c1)
    clear h1 h2 hT hL hall hfalse hP c0 c1 hcl
    subst hAL
    go_upto_region 7 with (first
     | ((with_reducible refine zaa 14 ?_); refine wpList_load_mid rfl 135 _ rfl b _ rfl _ _ HRG.out Tryz.underlying135 rfl infoF2 ?_)
     | ((with_reducible refine zaa 5 ?_); refine zbs _ _ rfl rfl rfl rfl rfl rfl hzF (fun _ => rfl) (fun _ => rfl) infoF2 rfl one_fd ?_; intro g W hg hW hEW))
    have hEE:=hE.trans hEW
    obtain ⟨d0,d1⟩:=zfh hW
    clear hW hEW hE
    by_cases g1 : T ≤ P
    ·
     have e : R = false:=HF.out fun h => by
      have h4:=h.2.2.2
      have h1:=h.1
      rw [← HT.out.1] at h1 h4
      rcases HT.out.2.2 with ⟨_,h0⟩ | ⟨h0,h5⟩
      ·
       omega
      ·
       have:=h4 h0; omega
     subst e
     have hd2 : decide (T ≤ P) = true:=decide_eq_true g1
     go_wp2
     go_ret
     exact ⟨rfl,hEE⟩
    ·
     have hd2 : decide (T ≤ P) = false:=decide_eq_false g1
     by_cases g2 : 255 < T
     ·
      have e : R = false:=HF.out fun h => by have:=h.2.1; rw [← HT.out.1] at this; omega
      subst e
      have hd3 : decide (255 < T) = true:=decide_eq_true g2
      go_wp2
      go_ret
      exact ⟨rfl,hEE⟩
     ·
      have hd3 : decide (255 < T) = false:=decide_eq_false g2
      by_cases g3 : (65535 : Int) < (L : Int)
      ·
       have e : R = false:=HF.out fun h => by have:=h.2.2.1; rw [← HT.out.2.1] at this; omega
       subst e
       have hd4 : decide ((65535 : Int) < (L : Int)) = true:=decide_eq_true g3
       go_wp2
       go_ret
       exact ⟨rfl,hEE⟩
      ·
       have hd4 : decide ((65535 : Int) < (L : Int)) = false:=decide_eq_false g3
       go_wp2
       go_roundw
       case rel =>
        refine ⟨i + 1,T,by omega,rfl,by go_num,fun j hj => ?_,by omega,by omega,.inr ⟨by omega,HT.out.1⟩,hEE⟩
        by_cases e : j = i
        ·
         subst e
         refine ⟨by rw [← HT.out.1]; omega,by rw [← HT.out.1]; omega,by rw [← HT.out.2.1]; omega,fun h0 => ?_⟩
         rw [← HT.out.1]
         rcases HT.out.2.2 with ⟨h5,_⟩ | ⟨_,h5⟩ <;> omega
        ·
         exact HALL.out j (by omega)
       case measure => simp [intOf]; omega
   ·
    obtain rfl : i = n:=by omega
    have e : R = true:=by
     rw [HR.out.1,mayFs_len (by rw [← HR.out.2.1]; exact hall),← HR.out.2.1]
     exact decide_eq_true hn64
    subst e
    clear hall
    go_wp2
    go_ret
    exact ⟨rfl,hE⟩
theorem clone8_calls (A : Option Addr) (m c : Nat) (bs : List Nat) (hm : m = bs.length) (hle : m ≤ 1000000000) (w : World) (hS : Bs w A bs) :
  Calls Tryz.prog 139 #[.slice A m c] w fun e w' => ∃ A' c',e = .returned (.slice A' m c') ∧ Ext w w' ∧ m ≤ c' ∧ Bs w' A' bs ∧ Fresh w A' bs:=by
 have HS:=veil (And.intro hm hS)
 rcases A with _ | ad
 ·
  have h0 : m = 0:=by
   rcases hS.2 with h | ⟨_,_,h,_⟩
   ·
    omega
   ·
    cases h
  subst h0
  clear hm hS
  have ke : (binOp .eql 30 (.slice none 0 c) (.slice none 0 0)).run Tryz.prog w = .ok (.bool true) w:=by kernel_rfl
  go_enter Tryz.func139,Tryz.ntmps139
  go_wp2
  go_ret
  exact ⟨none,0,rfl,Ext.refl _,Nat.le_refl _,⟨HS.out.2.1,.inl HS.out.1.symm⟩,.inl HS.out.1.symm⟩
 ·
  have ke : (binOp .eql 30 (.slice (some ad) m c) (.slice none 0 0)).run Tryz.prog w = .ok (.bool false) w:=by kernel_rfl
  clear hm hS
  go_enter Tryz.func139,Tryz.ntmps139
  go_wp2_with ((with_reducible refine zaa 7 ?_); refine wpl_append0 rfl rfl rfl rfl (zab w _) (HS.out.2.ext (Ext.alloc w _)) HS.out.1 hle ?_; intro A' c' w2 hE2 hc' hB' hF')
  go_ret
  exact ⟨A',c',rfl,(Ext.alloc w _).trans hE2,hc',hB',hF'.imp id fun h b o e => Nat.le_trans (Below.size (Ext.alloc w _)) (h b o e)⟩
def kyC (k : Ky) : List Value:=.int .i64 k.i :: ((qc k.x k.y k.f).toList ++ [.int .i64 k.a,.int .i64 k.b])
theorem zgk (k : Ky) : (kyC k).length = 12:=by simp [kyC,qc]
abbrev Ks (w : World) (v : Value) (l : List Ky) : Prop:=Ls 12 kyC w v l
def TopK (l : List Ky) : Prop:=∀ k ∈ l,k.x < top ∧ k.y < top
theorem infoKy : (Tryz.prog.info? 62).map (·.size) = some 12:=by kernel_rfl
theorem iKy (k : Ky) : (Tryz.prog.info? 62).map (·.size) = some (kyC k).length:=by rw [zgk]; exact infoKy
theorem iKyA (k : Ky) : (Tryz.prog.info? 62).map (·.size) = some (kyC k).toArray.size:=by rw [List.size_toArray,zgk]; exact infoKy
theorem hzKy (W : World) : (Instr.alloc 62 true (.tuple #[])).run Tryz.prog W = .ok (ptrTo W.heap.size) (W.alloc (.cells #[.int .i64 0,vI vU 0,vI vU 0,vI vU 0,vI vU 0,vI vU 0,vI vU 0,vI vU 0,vI vU 0,.bool false,.int .i64 0,.int .i64 0] 62)):=by simp [Instr.alloc,go_sem]
theorem kyA_one (k : Ky) : (kyC k).toArray.all (·.oneCell') = true:=by simp [kyC,qc,Value.oneCell']
theorem kyA_size (k : Ky) : (#[.int .i64 0,vI vU 0,vI vU 0,vI vU 0,vI vU 0,vI vU 0,vI vU 0,vI vU 0,vI vU 0,.bool false,.int .i64 0,.int .i64 0] : Array Value).size = (kyC k).toArray.size:=by
 have h : (kyC k).toArray.size = 12:=by rw [List.size_toArray,zgk]
 rw [h]
 rfl
section
variable {w : World} {b o : Nat} {k : Ky}
theorem ky_i (h : w.rangeAt b o (kyC k)) : w.cell? ⟨b,o,none⟩ = some (.int .i64 k.i):=h 0 _ rfl
theorem ky_f (h : w.rangeAt b o (kyC k)) : w.cell? ⟨b,o + 9,none⟩ = some (.bool k.f):=h 9 _ rfl
theorem ky_a (h : w.rangeAt b o (kyC k)) : w.cell? ⟨b,o + 10,none⟩ = some (.int .i64 k.a):=h 10 _ rfl
theorem ky_b (h : w.rangeAt b o (kyC k)) : w.cell? ⟨b,o + 11,none⟩ = some (.int .i64 k.b):=h 11 _ rfl
theorem ky_q (h : w.rangeAt b o (kyC k)) : w.rangeAt b (o + 1) (qc k.x k.y k.f).toList:=fun j v hv => by
 have hj : j < 9:=(List.getElem?_eq_some_iff.1 hv).1
 have:=h (j + 1) v (by
  show ((qc k.x k.y k.f).toList ++ _)[j]? = _
  rw [List.getElem?_append_left hj]
  exact hv)
 rw [Nat.add_assoc,Nat.add_comm 1 j]
 exact this
theorem zek {g : Nat} {fr : Nat × Nat} (h : w.heap[g]? = some (.cells (kyC k).toArray 62 fr)) : w.rangeAt g 0 (kyC k):=fun j v hv => by
 rw [Nat.zero_add,cell_of_row w g j _ _ _ h]
 simpa using hv
end
def qO : Option Ky → Array Value
 | none => qc 0 0 false
 | some k => qc k.x k.y k.f
def PZ : Array Value:=#[vI vU 0,vI vU 0,vI vU 0,vI vU 0,vI vU 0,vI vU 0,vI vU 0,vI vU 0,.bool false]
theorem pz_qc : PZ = qc 0 0 false:=by
 obtain ⟨h0,h1,h2,h3⟩:=wd_z
 unfold qc PZ
 rw [h0,h1,h2,h3]
theorem iPZ : (Tryz.prog.info? 60).map (·.size) = some PZ.size:=by kernel_rfl
theorem pz_one : PZ.all (·.oneCell') = true:=by simp [PZ,Value.oneCell']
theorem ky_get {l : List Ky} {i : Nat} (h : i < l.length) : l[i]? = some (l.getD i ky0):=by rw [List.getD_eq_getElem?_getD,List.getElem?_eq_getElem h]; rfl
theorem cntK_no {k : Ky} {id at_ : Int} (h : ¬ (k.i = id ∧ k.a ≤ at_ ∧ at_ < k.b)) : cntK k id at_ = false:=by
 unfold cntK
 simp only [Bool.and_eq_false_iff,decide_eq_false_iff_not]
 omega
theorem cntK_yes {k : Ky} {id at_ : Int} (h : k.i = id ∧ k.a ≤ at_ ∧ at_ < k.b) : cntK k id at_ = true:=by
 unfold cntK
 simp only [Bool.and_eq_true,decide_eq_true_eq]
 omega
theorem qO_size (o : Option Ky) : PZ.size = (qO o).size:=by cases o <;> rfl
theorem qO_info (o : Option Ky) : (Tryz.prog.info? 60).map (·.size) = some (qO o).size:=by cases o <;> exact iT _ _ _
theorem qO_one (o : Option Ky) : (qO o).all (·.oneCell') = true:=by cases o <;> exact qc_one _ _ _
theorem infoTG : (Tryz.prog.info? 5).map (fun i => (i.zero,i.size,i.bytes)) = some (some (.int .u8 0),1,1):=by kernel_rfl
theorem put_no (v : Value) (fs : List Fd) (w : World) (hF : Fl w v fs) (hL : fs.length ≤ 1000000000) (hM : mayFs fs = false) :
  Calls Tryz.prog 141 #[v] w fun e w' => e = .returned (.tuple #[.slice none 0 0,.iface 38 (.int .i64 1)]) ∧ Ext w w':=by
 have KM:=veil (zdm v fs w hF hL)
 rw [hM] at KM
 clear hF hL hM
 go_enter Tryz.func141,Tryz.ntmps141
 go_wp2_with (go_at_call 140; refine KM.out.mono ?_; rintro e w1 ⟨rfl,hE1⟩)
 go_ret2
 exact ⟨rfl,hE1⟩
theorem put_yes (v : Value) (fs : List Fd) (w : World) (hF : Fl w v fs) (hM : mayFs fs = true) :
  Calls Tryz.prog 141 #[v] w fun e w' => ∃ A c,e = .returned (.tuple #[.slice A (encF fs).length c,.nilIface]) ∧ (encF fs).length ≤ c ∧ Bs w' A (encF fs) ∧ Ext w w':=by
 have h64:=mayFs_64 hM
 have KM:=veil (zdm v fs w hF (by omega))
 rw [hM] at KM
 have HF:=veil hF
 obtain ⟨hB,AL,c,rfl,hc,hx⟩:=hF
 obtain ⟨n,hn⟩ : ∃ n,n = fs.length:=⟨_,rfl⟩
 rw [← hn] at hx hc KM HF ⊢
 have HR:=veil (And.intro hn (And.intro hM hB))
 have HX:=veil hx
 have hnL : n ≤ 64:=by omega
 clear hx hB hn hM h64
 go_enter Tryz.func141,Tryz.ntmps141
 go_upto_region 3 with (go_at_call 140; refine KM.out.mono ?_; rintro e w1 ⟨rfl,hE1⟩)
 have KS:=veil (sizeOf_calls _ fs w1 (HF.out.ext hE1) HR.out.2.1)
 have HE1:=veil hE1
 have hle:=zep HR.out.2.1 fs.length
 rw [List.take_length] at hle
 obtain ⟨S,hS⟩ : ∃ S,S = (encF fs).length:=⟨_,rfl⟩
 rw [← hS] at KS hle
 obtain ⟨i8,hi8,hz0,hz1,hz2⟩:=info_parts infoTG
 have HI:=veil (And.intro hi8 (And.intro hz0 (And.intro hz1 hz2)))
 clear hE1 KM hi8 hz0 hz1 hz2 hS
 go_upto_region 4 with (first
  | (go_at_call 179; refine KS.out.mono ?_; rintro e w2 ⟨rfl,hE2⟩)
  | ((with_reducible refine zaa 14 ?_); refine wpList_make_own _ rfl _ _ 30 rfl w.heap.size 5 i8 (.int .u8 0) 1 Tryz.underlying30 HI.out.1 HI.out.2.1 HI.out.2.2.1 .i64 .i64 _ S rfl rfl rfl (by rw [HI.out.2.2.2]; omega) (by unfold maxLen; omega) (Below.size (HE1.out.trans hE2)) ?_; intro w3 hO3 hG3))
 have hE3 : Ext w w3:=(HE1.out.trans hE2).grown hG3 (Below.size (HE1.out.trans hE2)) fun k hk => by cases hk
 have hO : OwnB w3 w.heap.size (.slice (some ⟨w2.heap.size,0,none⟩) 0 S) []:=⟨(fun _ h => by cases h),hO3⟩
 clear hO3 hG3 hE2
 go_wp2
 go_loopw [4,17] (fun s v wr => ∃ i : Nat,i ≤ n ∧ OwnB wr w.heap.size s (encF (fs.take i)) ∧ v = .int .i64 (i : Int) ∧ Ext w wr)
  (fun _ v _ => n - (intOf v).toNat)
 case atStart => exact ⟨0,by omega,hO,rfl,hE3⟩
 case round =>
  obtain ⟨i,hi,hO,rfl,hE⟩:=hrel
  by_cases hlt : i < n
  ·
   have hd1 : decide ((i : Int) < (n : Int)) = true:=by simp; omega
   have hii : (i : Int) < (n : Int):=by omega
   have hok:=mayFs_ok HR.out.2.1 (by have:=HR.out.1; omega : i < fs.length)
   have hst:=encF_take fs (by have:=HR.out.1; omega : i < fs.length)
   have hle:=zep HR.out.2.1 i
   obtain ⟨b,o,hAL,hb,hcl⟩:=HX.out.resolve_left (by omega)
   obtain ⟨h1,A,c',h2,h3,h4⟩:=hcl i hlt
   have c0:=(hE.cell hb).trans h1
   have c1:=(hE.cell hb).trans h2
   have hBS:=h4
   have hT1:=hok.1
   have hT2:=hok.2.1
   have hL1:=hok.2.2.1
   have HS:=veil (And.intro hst (And.intro hle hO))
   clear hcl h1 h2 hok hst hle h4 hO
   generalize tgF fs i = T at *
   generalize bsF fs i = D0 at *
   obtain ⟨L,hL⟩ : ∃ L,L = D0.length:=⟨_,rfl⟩
   rw [← hL] at c1 hL1 h3
   have HD:=veil (And.intro hL hBS)
   have HRG:=veil (rng_fd c0 c1)
   clear c0 c1 hL hBS
   have hL2 : (L : Int) ≤ 65535:=by omega
   subst hAL
   go_upto_region 7 with (first
    | ((with_reducible refine zaa 20 ?_); refine wpList_load_mid rfl 135 _ rfl b _ rfl _ _ HRG.out Tryz.underlying135 rfl infoF2 ?_)
    | ((with_reducible refine zaa 6 ?_); refine zbs _ _ rfl rfl rfl rfl rfl rfl hzF (fun _ => rfl) (fun _ => rfl) infoF2 rfl one_fd ?_; intro g W hg hW hEW))
   have hEE:=hE.trans hEW
   have HW:=veil (And.intro hW (And.intro hEE hEW))
   obtain ⟨d0,d1⟩:=zfh hW
   clear hW hEW hE hEE
   go_upto_region 9 with ((with_reducible refine zaa 34 ?_); refine zdd _ rfl _ _ 30 rfl w.heap.size 5 i8 (.int .u8 0) 1 Tryz.underlying30 HI.out.1 HI.out.2.1 HI.out.2.2.1 HI.out.2.2.2 rfl _ _ _ rfl (HS.out.2.2.ext (HW.out.2.2.trans (Ext.alloc W _))).2 (some ⟨W.heap.size,0,none⟩) 3 3 rfl _ (hdr3 (zab W _) hT1 hT2 hL1 HD.out.1).from (fun _ => rfl) (by unfold maxLen; have:=HS.out.2.1; omega) (by have:=HS.out.2.1; omega) (Nat.le_trans (Below.size HW.out.2.1) (Below.size (Ext.alloc W _))) ?_; intro v6 w6 hO6 hG6 _)
   have hEa:=HW.out.2.1.trans (Ext.alloc W (.cells #[.int .u8 T,.int .u8 ((L : Int) / 256),.int .u8 ((L : Int) % 256)] 5))
   have hE6 : Ext w w6:=hEa.grown hG6 (Below.size hEa) fun k hk => (HS.out.2.2.2.lt hk).1
   have hgl : g < (W.alloc (.cells #[.int .u8 T,.int .u8 ((L : Int) / 256),.int .u8 ((L : Int) % 256)] 5)).heap.size:=Nat.lt_of_lt_of_le (Array.getElem?_eq_some_iff.1 HW.out.1).1 (Below.size (Ext.alloc W _))
   have hg6 : w6.heap[g]? = some (.cells #[.int .i64 T,.slice A L c'] 135 (0,0)):=(hG6.block g hgl fun hk => by have:=(HS.out.2.2.2.lt hk.symm).2; omega).trans ((Ext.alloc W _).block HW.out.1)
   have hO7 : OwnB w6 w.heap.size v6 (encF (fs.take i) ++ hdr (T,D0)):=OwnB.append hO6 HS.out.2.2.1 (hdr_byt _) rfl rfl
   obtain ⟨e0,e1⟩:=zfh hg6
   have hl3 : (encF (fs.take i) ++ hdr (T,D0)).length ≤ 4194435:=by rw [List.length_append]; have:=HS.out.2.1; show _ + 3 ≤ _; omega
   have H7:=veil (And.intro hO7 (And.intro hE6 (And.intro hg6 hl3)))
   have hfr:=(HD.out.2.ext hE6).from
   rw [← HD.out.1] at hfr
   have HFR:=veil hfr
   clear hO6 hG6 hEa hgl hg6 hO7 d0 d1 hl3 hfr hE6
   go_wp2_with ((with_reducible refine zaa 38 ?_); refine zdd _ rfl _ _ 30 rfl w.heap.size 5 i8 (.int .u8 0) 1 Tryz.underlying30 HI.out.1 HI.out.2.1 HI.out.2.2.1 HI.out.2.2.2 rfl _ _ _ rfl H7.out.1.2 A L c' rfl _ HFR.out (fun _ => rfl) (by unfold maxLen; have:=H7.out.2.2.2; omega) (by have:=H7.out.2.2.2; omega) (Below.size H7.out.2.1) ?_; intro v8 w8 hO8 hG8 _)
   have hE8 : Ext w w8:=H7.out.2.1.grown hG8 (Below.size H7.out.2.1) fun k hk => (H7.out.1.2.lt hk).1
   have hO9 : OwnB w8 w.heap.size v8 (encF (fs.take i) ++ hdr (T,D0) ++ D0):=OwnB.append hO8 H7.out.1.1 HD.out.2.1 rfl HD.out.1
   rw [List.append_assoc] at hO9
   clear hO8 hG8
   go_roundw
   case rel => exact ⟨i + 1,by omega,by rw [HS.out.1]; exact hO9,by go_num,hE8⟩
   case measure => simp [intOf]; omega
  ·
   obtain rfl : i = n:=by omega
   have e : encF (fs.take i) = encF fs:=by rw [HR.out.1,List.take_length]
   rw [e] at hO
   obtain ⟨A,c2,rfl,hc2,hB2⟩:=hO.bs
   clear hO
   go_wp2
   go_ret2
   exact ⟨A,c2,rfl,hc2,hB2,hE⟩
end Go.Proofs.YtbfkecfcolcclaaGreatDoor
