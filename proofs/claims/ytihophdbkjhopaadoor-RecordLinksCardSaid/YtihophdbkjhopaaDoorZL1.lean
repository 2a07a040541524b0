/-
  Of T0 K0 K1 Rca Math Mem Row Made.
-/
import Derived.Test.YtihophdbkjhopaaDoorRows
import Derived.WalkKit
import Derived.Deep.OwnRows
import Derived.Deep.Draws
import Derived.Laws.Rows
import Derived.Deep.QuietTactic
import Derived.Deep.MidRow
import Derived.Deep.WholeRow
import Derived.ChangeKeysEq
import Derived.OrdersHeld
import Derived.StillTail
import Derived.Deep.RegionHeld3
set_option maxRecDepth 1000000
set_option maxHeartbeats 20000000
namespace Go.Proofs.YtihophdbkjhopaaDoor
abbrev Fd:=Int × List Nat
def tgF (fs : List Fd) (i : Nat) : Int:=(fs.getD i (0,[])).1
def bsF (fs : List Fd) (i : Nat) : List Nat:=(fs.getD i (0,[])).2
def okF (fs : List Fd) (i : Nat) : Prop:=1 ≤ tgF fs i ∧ tgF fs i ≤ 255 ∧ (bsF fs i).length ≤ 65535 ∧ (0 < i → tgF fs (i - 1) < tgF fs i)
instance (fs : List Fd) (i : Nat) : Decidable (okF fs i):=by unfold okF; exact inferInstance
def mayFs (fs : List Fd) : Bool:=decide (fs.length ≤ 64 ∧ ∀ i,i < fs.length → okF fs i)
def Byt (bs : List Nat) : Prop:=∀ b ∈ bs,b < 256
theorem Byt.getD {bs : List Nat} (h : Byt bs) (i : Nat) : bs.getD i 0 < 256:=by
 rw [List.getD_eq_getElem?_getD]
 by_cases hi : i < bs.length
 ·
  rw [List.getElem?_eq_getElem hi]; exact h _ (List.getElem_mem hi)
 ·
  rw [List.getElem?_eq_none (by omega)]; decide
theorem Byt.append {a b : List Nat} (ha : Byt a) (hb : Byt b) : Byt (a ++ b):=fun x hx => (List.mem_append.1 hx).elim (ha x) (hb x)
theorem Byt.drop {a : List Nat} (h : Byt a) (n : Nat) : Byt (a.drop n):=fun x hx => h x (List.mem_of_mem_drop hx)
theorem Byt.take {a : List Nat} (h : Byt a) (n : Nat) : Byt (a.take n):=fun x hx => h x (List.mem_of_mem_take hx)
def BytF (fs : List Fd) : Prop:=∀ f ∈ fs,Byt f.2
/-! ### a field's bytes -/
def hdr (f : Fd) : List Nat:=[(f.1 % 256).toNat,f.2.length / 256 % 256,f.2.length % 256]
def enc1 (f : Fd) : List Nat:=hdr f ++ f.2
def encF : List Fd → List Nat
 | [] => []
 | f :: r => enc1 f ++ encF r
theorem encF_append : ∀ a b : List Fd,encF (a ++ b) = encF a ++ encF b
 | [],b => rfl
 | f :: a,b => by
  show enc1 f ++ encF (a ++ b) = (enc1 f ++ encF a) ++ encF b
  rw [encF_append a b,List.append_assoc]
theorem zen (f : Fd) : (enc1 f).length = 3 + f.2.length:=by unfold enc1 hdr; simp; omega
theorem zem : ∀ (fs : List Fd) (m : Nat),(∀ f ∈ fs,f.2.length ≤ m) → (encF fs).length ≤ fs.length * (m + 3)
 | [],_,_ => by simp [encF]
 | f :: fs,m,h => by
  have h1:=zem fs m fun g hg => h g (List.mem_cons_of_mem _ hg)
  have h2:=h f List.mem_cons_self
  show (enc1 f ++ encF fs).length ≤ _
  rw [List.length_append,zen,List.length_cons,Nat.add_mul]
  omega
theorem hdr_byt (f : Fd) : Byt (hdr f):=fun x hx => by
 unfold hdr at hx
 simp only [List.mem_cons,List.not_mem_nil,or_false] at hx
 omega
theorem encF_take (fs : List Fd) {i : Nat} (hi : i < fs.length) : encF (fs.take (i + 1)) = encF (fs.take i) ++ enc1 (tgF fs i,bsF fs i):=by
 have e : fs.getD i (0,[]) = fs[i]:=by rw [List.getD_eq_getElem?_getD,List.getElem?_eq_getElem hi]; rfl
 rw [List.take_add_one,List.getElem?_eq_getElem hi,encF_append]
 congr 1
 show enc1 fs[i] ++ encF [] = _
 unfold tgF bsF
 rw [e]
 exact List.append_nil _
/-! ### the fields of bytes -/
def parseF : Nat → List Nat → Option (List Fd)
 | _,[] => some []
 | 0,_ :: _ => none
 | k + 1,t :: h :: l :: r => if 256 * h + l ≤ r.length then (parseF k (r.drop (256 * h + l))).map (((t : Int),r.take (256 * h + l)) :: ·) else none
 | _ + 1,_ => none
theorem parseF_fuel : ∀ (k m : Nat) (bs : List Nat),bs.length ≤ k → bs.length ≤ m → parseF k bs = parseF m bs
 | k,m,[],_,_ => by cases k <;> cases m <;> rfl
 | 0,_,b :: bs,h,_ => by simp at h
 | _,0,b :: bs,_,h => by simp at h
 | k + 1,m + 1,[a],_,_ => rfl
 | k + 1,m + 1,[a,b],_,_ => rfl
 | k + 1,m + 1,t :: h :: l :: r,h1,h2 => by
  simp only [List.length_cons] at h1 h2
  show (if _ then _ else _) = (if _ then _ else _)
  have hr : (r.drop (256 * h + l)).length ≤ r.length:=by rw [List.length_drop]; omega
  rw [parseF_fuel k m (r.drop (256 * h + l)) (by omega) (by omega)]
def parse (bs : List Nat) : Option (List Fd):=parseF bs.length bs
def getFs (bs : List Nat) : Option (List Fd):=(parse bs).filter mayFs
theorem zex : parse [] = some []:=rfl
theorem zdt (t h l : Nat) (r : List Nat) : parse (t :: h :: l :: r) = if 256 * h + l ≤ r.length then (parse (r.drop (256 * h + l))).map (((t : Int),r.take (256 * h + l)) :: ·) else none:=by
 show (if _ then _ else _) = _
 by_cases hc : 256 * h + l ≤ r.length
 ·
  rw [if_pos hc,if_pos hc]
  unfold parse
  rw [parseF_fuel (h :: l :: r).length (r.drop (256 * h + l)).length _ (by rw [List.length_drop]; simp only [List.length_cons]; omega) (Nat.le_refl _)]
 ·
  rw [if_neg hc,if_neg hc]
theorem drop3 {bs : List Nat} {a : Nat} (h : a + 3 ≤ bs.length) : bs.drop a = bs.getD a 0 :: bs.getD (a + 1) 0 :: bs.getD (a + 2) 0 :: bs.drop (a + 3):=by
 have e : ∀ i,i < bs.length → bs.drop i = bs.getD i 0 :: bs.drop (i + 1):=fun i hi => by
  rw [List.drop_eq_getElem_cons hi,List.getD_eq_getElem?_getD,List.getElem?_eq_getElem hi]; rfl
 rw [e a (by omega),e (a + 1) (by omega),e (a + 2) (by omega)]
theorem parse_more {bs : List Nat} {a n : Nat} (h : a + 3 ≤ bs.length) (hn : n = 256 * bs.getD (a + 1) 0 + bs.getD (a + 2) 0) (hl : a + 3 + n ≤ bs.length) :
  parse (bs.drop a) = (parse (bs.drop (a + 3 + n))).map ((((bs.getD a 0 : Nat) : Int),(bs.drop (a + 3)).take n) :: ·):=by
 rw [drop3 h,zdt,← hn,List.length_drop,if_pos (by omega),List.drop_drop]
theorem parse_long {bs : List Nat} {a n : Nat} (h : a + 3 ≤ bs.length) (hn : n = 256 * bs.getD (a + 1) 0 + bs.getD (a + 2) 0) (hl : bs.length < a + 3 + n) : parse (bs.drop a) = none:=by
 rw [drop3 h,zdt,← hn,List.length_drop,if_neg (by omega)]
theorem parse_two {bs : List Nat} (h : bs.length < 3) (h0 : 0 < bs.length) : parse bs = none:=by
 match bs,h,h0 with
 | [a],_,_ => rfl
 | [a,b],_,_ => rfl
/-! ### what was put is got as it was -/
theorem mayFs_each {fs : List Fd} (h : mayFs fs = true) : ∀ f ∈ fs,0 ≤ f.1 ∧ f.1 ≤ 255 ∧ f.2.length ≤ 65535:=by
 intro f hf
 obtain ⟨i,hi,rfl⟩:=List.mem_iff_getElem.1 hf
 have h1:=(of_decide_eq_true h).2 i hi
 have e : fs.getD i (0,[]) = fs[i]:=by rw [List.getD_eq_getElem?_getD,List.getElem?_eq_getElem hi]; rfl
 unfold okF tgF bsF at h1
 rw [e] at h1
 exact ⟨by omega,h1.2.1,h1.2.2.1⟩
theorem enc_parse : ∀ (k : Nat) {bs : List Nat} {fs : List Fd},bs.length ≤ k → Byt bs → parse bs = some fs → encF fs = bs
 | _,[],fs,_,_,h => by
  rw [zex] at h
  obtain rfl:=Option.some.inj h
  rfl
 | _,[a],fs,_,_,h => by cases h
 | _,[a,b],fs,_,_,h => by cases h
 | 0,t :: h :: l :: r,fs,hk,_,_ => by simp at hk
 | k + 1,t :: h :: l :: r,fs,hk,hb,he => by
  rw [zdt] at he
  split at he
  ·
   rename_i hc
   cases hp : parse (r.drop (256 * h + l)) with
   | none => rw [hp] at he; cases he
   | some gs =>
    rw [hp] at he
    obtain rfl:=Option.some.inj he
    have hbt:=hb t (by simp)
    have hbh:=hb h (by simp)
    have hbl:=hb l (by simp)
    have hr : Byt r:=fun x hx => hb x (by simp [hx])
    simp only [List.length_cons] at hk
    have ih:=enc_parse k (by rw [List.length_drop]; omega) (hr.drop _) hp
    show [((t : Int) % 256).toNat,(r.take (256 * h + l)).length / 256 % 256,(r.take (256 * h + l)).length % 256] ++ r.take (256 * h + l) ++ encF gs = _
    rw [ih,List.length_take,Nat.min_eq_left hc,List.append_assoc,List.take_append_drop]
    simp only [List.cons_append,List.nil_append]
    rw [show ((t : Int) % 256).toNat = t by omega,show (256 * h + l) / 256 % 256 = h by omega,show (256 * h + l) % 256 = l by omega]
  ·
   cases he
theorem zgd {bs : List Nat} {fs : List Fd} (h : getFs bs = some fs) : parse bs = some fs ∧ mayFs fs = true:=by
 unfold getFs at h
 rwa [Option.filter_eq_some_iff] at h
theorem enc_get {bs : List Nat} {fs : List Fd} (hb : Byt bs) (h : getFs bs = some fs) : encF fs = bs:=enc_parse bs.length (Nat.le_refl _) hb (zgd h).1
theorem parse_byt : ∀ (k : Nat) {bs : List Nat} {fs : List Fd},bs.length ≤ k → Byt bs → parse bs = some fs → BytF fs
 | _,[],fs,_,_,h => by
  rw [zex] at h
  obtain rfl:=Option.some.inj h
  intro f hf
  cases hf
 | _,[a],fs,_,_,h => by cases h
 | _,[a,b],fs,_,_,h => by cases h
 | 0,t :: h :: l :: r,fs,hk,_,_ => by simp at hk
 | k + 1,t :: h :: l :: r,fs,hk,hb,he => by
  rw [zdt] at he
  split at he
  ·
   cases hp : parse (r.drop (256 * h + l)) with
   | none => rw [hp] at he; cases he
   | some gs =>
    rw [hp] at he
    obtain rfl:=Option.some.inj he
    have hr : Byt r:=fun x hx => hb x (by simp [hx])
    simp only [List.length_cons] at hk
    intro f hf
    rcases List.mem_cons.1 hf with rfl | hf
    ·
     exact hr.take _
    ·
     exact parse_byt k (by rw [List.length_drop]; omega) (hr.drop _) hp f hf
  ·
   cases he
theorem get_byt {bs : List Nat} {fs : List Fd} (hb : Byt bs) (h : getFs bs = some fs) : BytF fs:=parse_byt bs.length (Nat.le_refl _) hb (zgd h).1
/-! ### numbers -/
def numB (n : Int) : List Nat:=(List.range 8).map fun i => (n % 18446744073709551616).toNat / 256 ^ (7 - i) % 256
def valB (bs : List Nat) : Nat:=bs.foldl (fun n b => 256 * n + b) 0
def ofB (bs : List Nat) : Int:=if bs.length = 8 ∧ bs.getD 0 0 ≤ 127 then (valB bs : Nat) else -1
theorem zbg (n : Int) : (numB n).length = 8:=by simp [numB]
theorem numB_byt (n : Int) : Byt (numB n):=fun x hx => by
 simp only [numB,List.mem_map] at hx
 obtain ⟨i,_,rfl⟩:=hx
 exact Nat.mod_lt _ (by decide)
theorem valB_snoc (bs : List Nat) (b : Nat) : valB (bs ++ [b]) = 256 * valB bs + b:=by simp [valB]
theorem zax {bs : List Nat} {i : Nat} (hi : i < bs.length) : valB (bs.take (i + 1)) = 256 * valB (bs.take i) + bs.getD i 0:=by
 rw [List.take_add_one,List.getElem?_eq_getElem hi,List.getD_eq_getElem?_getD,List.getElem?_eq_getElem hi]
 exact valB_snoc _ _
theorem valB_lt {bs : List Nat} (h : Byt bs) (h0 : bs.getD 0 0 ≤ 127) : ∀ i,i < bs.length → valB (bs.take (i + 1)) < 128 * 256 ^ i
 | 0,hi => by
  rw [zax hi]
  simp [valB]
  simp only [List.getD_eq_getElem?_getD] at h0
  omega
 | i + 1,hi => by
  have h1:=valB_lt h h0 i (by omega)
  have h2:=h.getD (i + 1)
  rw [zax hi,Nat.pow_succ]
  omega
theorem numB_of {bs : List Nat} (h : Byt bs) (h0 : 0 ≤ ofB bs) : numB (ofB bs) = bs:=by
 unfold ofB at h0 ⊢
 split at h0
 ·
  rename_i hc
  rw [if_pos hc]
  have key : ∀ i,i ≤ 8 → valB (bs.take i) = valB bs / 256 ^ (8 - i):=by
   intro i hi
   obtain ⟨d,hd⟩ : ∃ d,d = 8 - i:=⟨_,rfl⟩
   rw [← hd]
   induction d generalizing i with
   | zero =>
    obtain rfl : i = 8:=by omega
    rw [List.take_of_length_le (by omega),Nat.pow_zero,Nat.div_one]
   | succ d ih =>
    have h2:=ih (i + 1) (by omega) (by omega)
    rw [zax (by omega)] at h2
    have h3:=h.getD i
    rw [Nat.pow_succ,← Nat.div_div_eq_div_mul,← h2]
    omega
  have hlt : valB bs < 18446744073709551616:=by
   have h1:=valB_lt h hc.2 7 (by omega)
   rw [List.take_of_length_le (by omega)] at h1
   have : (128 : Nat) * 256 ^ 7 = 9223372036854775808:=by decide
   omega
  apply List.ext_getElem?
  intro i
  by_cases hi : i < 8
  ·
   have h1:=key (i + 1) (by omega)
   rw [zax (by omega)] at h1
   have h3:=h.getD i
   rw [List.getElem?_eq_getElem (by omega : i < bs.length)]
   have e : bs.getD i 0 = bs[i]'(by omega):=by rw [List.getD_eq_getElem?_getD,List.getElem?_eq_getElem (by omega : i < bs.length)]; rfl
   simp only [numB,List.getElem?_map,List.getElem?_range hi,Option.map_some]
   rw [← e,show 7 - i = 8 - (i + 1) by omega,show ((valB bs : Nat) : Int) % 18446744073709551616 = ((valB bs : Nat) : Int) by omega,Int.toNat_natCast,← h1]
   congr 1
   omega
  ·
   rw [List.getElem?_eq_none (by rw [zbg]; omega),List.getElem?_eq_none (by omega)]
 ·
  omega
end Go.Proofs.YtihophdbkjhopaaDoor
namespace Go.Proofs.YtihophdbkjhopaaDoor
/-! ### numbers as bytes,the highest first -/
def beB (k n : Nat) : List Nat:=(List.range k).map fun i => n / 256 ^ (k - 1 - i) % 256
theorem zfq (k n : Nat) : (beB k n).length = k:=by simp [beB]
theorem beB_get (k n : Nat) {i : Nat} (hi : i < k) : (beB k n).getD i 0 = n / 256 ^ (k - 1 - i) % 256:=by
 rw [List.getD_eq_getElem?_getD]
 simp [beB,hi]
theorem valB_lt_pow {bs : List Nat} (h : Byt bs) : ∀ i,i ≤ bs.length → valB (bs.take i) < 256 ^ i
 | 0,_ => by simp [valB]
 | i + 1,hi => by
  have h1:=valB_lt_pow h i (by omega)
  have h2:=h.getD i
  rw [zax (by omega),Nat.pow_succ]
  omega
theorem zec {bs : List Nat} (h : Byt bs) : valB bs < 256 ^ bs.length:=by
 have:=valB_lt_pow h bs.length (Nat.le_refl _)
 rwa [List.take_length] at this
theorem beB_valB {bs : List Nat} {k : Nat} (h : Byt bs) (hk : bs.length = k) : beB k (valB bs) = bs:=by
 have key : ∀ d i,i + d = k → valB (bs.take i) = valB bs / 256 ^ d:=by
  intro d
  induction d with
  | zero =>
   intro i hi
   rw [List.take_of_length_le (by omega),Nat.pow_zero,Nat.div_one]
  | succ d ih =>
   intro i hi
   have h2:=ih (i + 1) (by omega)
   rw [zax (by omega)] at h2
   have h3:=h.getD i
   rw [Nat.pow_succ,← Nat.div_div_eq_div_mul,← h2]
   omega
 apply List.ext_getElem?
 intro i
 by_cases hi : i < k
 ·
  have h1:=key (k - 1 - i) (i + 1) (by omega)
  rw [zax (by omega)] at h1
  have h3:=h.getD i
  have e : bs.getD i 0 = bs[i]'(by omega):=by rw [List.getD_eq_getElem?_getD,List.getElem?_eq_getElem (by omega : i < bs.length)]; rfl
  rw [List.getElem?_eq_getElem (by omega : i < bs.length),List.getElem?_eq_getElem (by rw [zfq]; exact hi)]
  congr 1
  have e2:=beB_get k (valB bs) hi
  rw [List.getD_eq_getElem?_getD,List.getElem?_eq_getElem (by rw [zfq]; exact hi),Option.getD_some] at e2
  rw [e2,← e,← h1]
  omega
 ·
  rw [List.getElem?_eq_none (by rw [zfq]; omega),List.getElem?_eq_none (by omega)]
/-! ### signatures as bytes -/
def sigB (r s : Nat) : List Nat:=beB 32 r ++ beB 32 s
def sigR (bs : List Nat) : Nat:=valB (bs.take 32)
def sigS (bs : List Nat) : Nat:=valB (bs.drop 32)
theorem sig_fore {bs : List Nat} (h : Byt bs) (hl : bs.length = 64) : sigB (sigR bs) (sigS bs) = bs:=by
 unfold sigR sigS sigB
 rw [beB_valB (h.take 32) (by rw [List.length_take]; omega),beB_valB (h.drop 32) (by rw [List.length_drop]; omega),List.take_append_drop]
/-! ### fields of numbers -/
def numFs : Int → List Int → List Fd
 | _,[] => []
 | t,n :: r => (t,numB n) :: numFs (t + 1) r
def numsOk (fs : List Fd) (many : Nat) : Prop:=fs.length = many ∧ ∀ i,i < many → tgF fs i = (i : Int) + 1 ∧ 0 ≤ ofB (bsF fs i)
instance (fs : List Fd) (many : Nat) : Decidable (numsOk fs many):=by unfold numsOk; exact inferInstance
end Go.Proofs.YtihophdbkjhopaaDoor
namespace Go.Proofs.YtihophdbkjhopaaDoor
def signedB (body : List Nat) (r s : Nat) : List Nat:=encF [(1,body),(2,sigB r s)]
def twoOk (fs : List Fd) : Prop:=fs.length = 2 ∧ tgF fs 0 = 1 ∧ tgF fs 1 = 2 ∧ (bsF fs 1).length = 64
instance (fs : List Fd) : Decidable (twoOk fs):=by unfold twoOk; exact inferInstance
def partsB (bs : List Nat) : Option (List Nat × Nat × Nat):=match getFs bs with
 | some fs => if twoOk fs then some (bsF fs 0,sigR (bsF fs 1),sigS (bsF fs 1)) else none
 | none => none
theorem signed_parts {bs body : List Nat} {r s : Nat} (hb : Byt bs) (h : partsB bs = some (body,r,s)) : signedB body r s = bs ∧ Byt body ∧ body.length ≤ 65535 ∧ r < 256 ^ 32 ∧ s < 256 ^ 32:=by
 unfold partsB at h
 cases hg : getFs bs with
 | none => rw [hg] at h; cases h
 | some fs =>
  rw [hg] at h
  simp only at h
  split at h
  ·
   rename_i hok
   injection h with h
   injection h with h1 h
   injection h with h2 h3
   obtain ⟨hl,t0,t1,h64⟩:=hok
   have hB:=get_byt hb hg
   match fs,hl with
   | [(a,x),(c,y)],_ =>
    have hx : Byt x:=hB (a,x) (by simp)
    have hy : Byt y:=hB (c,y) (by simp)
    have e0 : a = 1:=t0
    have e1 : c = 2:=t1
    have e2 : y.length = 64:=h64
    have m0:=mayFs_each (zgd hg).2 (a,x) (by simp)
    subst e0 e1
    have g1 : x = body:=h1
    have g2 : sigR y = r:=h2
    have g3 : sigS y = s:=h3
    subst g1 g2 g3
    refine ⟨?_,hx,m0.2.2,?_,?_⟩
    ·
     unfold signedB
     rw [sig_fore hy e2]
     exact enc_get hb hg
    ·
     have:=zec (hy.take 32)
     rw [List.length_take,e2] at this
     exact this
    ·
     have:=zec (hy.drop 32)
     rw [List.length_drop,e2] at this
     exact this
  ·
   cases h
end Go.Proofs.YtihophdbkjhopaaDoor
namespace Go.Proofs.YtihophdbkjhopaaDoor
structure Rc where
 dv : Int
 sq : Int
 mi : Int
 kd : Int
 st : Int
 zn : Int
 sr : Int
 vd : Int
 pv : List Nat
 bs : List Nat
def Rc.nums (r : Rc) : List Int:=[r.dv,r.sq,r.mi,r.kd,r.st,r.zn,r.sr,r.vd]
def rgC (r : Rc) : Bool:=decide (1 ≤ r.dv ∧ r.dv ≤ 2147483647 ∧ 0 ≤ r.sq ∧ r.sq ≤ 1073741824 ∧ 0 ≤ r.mi ∧ r.mi ≤ 1073741824 ∧ 0 ≤ r.st ∧ r.st ≤ 31 ∧ 0 ≤ r.zn ∧ r.zn ≤ 7 ∧ 0 ≤ r.sr ∧ r.sr ≤ 2147483647)
def kdC (r : Rc) : Bool:=if r.kd = 1 then decide (1 ≤ r.vd ∧ r.vd ≤ 7 ∧ r.bs.length ≤ 500) else decide ((r.kd = 2 ∨ r.kd = 3) ∧ r.vd = 0 ∧ r.bs.length = 0)
def mayC (r : Rc) : Bool:=rgC r && kdC r
theorem mayC_is {r : Rc} (h : mayC r = true) : rgC r = true ∧ kdC r = true:=by
 unfold mayC at h
 simpa using h
theorem mayC_each {r : Rc} (h : mayC r = true) : (∀ n ∈ r.nums,0 ≤ n ∧ n ≤ 2147483647) ∧ r.bs.length ≤ 500:=by
 obtain ⟨h1,h2⟩:=mayC_is h
 have h1:=of_decide_eq_true h1
 have h3 : 0 ≤ r.kd ∧ r.kd ≤ 3 ∧ 0 ≤ r.vd ∧ r.vd ≤ 7 ∧ r.bs.length ≤ 500:=by
  unfold kdC at h2
  split at h2
  ·
   have:=of_decide_eq_true h2
   omega
  ·
   have:=of_decide_eq_true h2
   omega
 refine ⟨fun n hn => ?_,h3.2.2.2.2⟩
 simp only [Rc.nums,List.mem_cons,List.not_mem_nil,or_false] at hn
 rcases hn with rfl | rfl | rfl | rfl | rfl | rfl | rfl | rfl <;> omega
def WfC (r : Rc) : Prop:=r.pv.length = 32 ∧ Byt r.pv ∧ Byt r.bs
def flC (r : Rc) : List Fd:=numFs 1 r.nums ++ [(9,r.pv),(10,r.bs)]
def rcB (r : Rc) : List Nat:=encF (flC r)
theorem flC_ten (r : Rc) : flC r = [(1,numB r.dv),(2,numB r.sq),(3,numB r.mi),(4,numB r.kd),(5,numB r.st),(6,numB r.zn),(7,numB r.sr),(8,numB r.vd),(9,r.pv),(10,r.bs)]:=rfl
theorem flC_may {r : Rc} (h1 : r.pv.length = 32) (h2 : r.bs.length ≤ 65535) : mayFs (flC r) = true:=by
 refine decide_eq_true ⟨(by decide : (10 : Nat) ≤ 64),fun i hi => ?_⟩
 have n8 : ∀ n,(numB n).length ≤ 65535:=fun n => by rw [zbg]; decide
 rw [flC_ten] at hi ⊢
 match i,hi with
 | 0,_ => exact ⟨(by decide : (1 : Int) ≤ 1),(by decide : (1 : Int) ≤ 255),n8 _,fun h => absurd h (by decide)⟩
 | 1,_ => exact ⟨(by decide : (1 : Int) ≤ 2),(by decide : (2 : Int) ≤ 255),n8 _,fun _ => (by decide : (1 : Int) < 2)⟩
 | 2,_ => exact ⟨(by decide : (1 : Int) ≤ 3),(by decide : (3 : Int) ≤ 255),n8 _,fun _ => (by decide : (2 : Int) < 3)⟩
 | 3,_ => exact ⟨(by decide : (1 : Int) ≤ 4),(by decide : (4 : Int) ≤ 255),n8 _,fun _ => (by decide : (3 : Int) < 4)⟩
 | 4,_ => exact ⟨(by decide : (1 : Int) ≤ 5),(by decide : (5 : Int) ≤ 255),n8 _,fun _ => (by decide : (4 : Int) < 5)⟩
 | 5,_ => exact ⟨(by decide : (1 : Int) ≤ 6),(by decide : (6 : Int) ≤ 255),n8 _,fun _ => (by decide : (5 : Int) < 6)⟩
 | 6,_ => exact ⟨(by decide : (1 : Int) ≤ 7),(by decide : (7 : Int) ≤ 255),n8 _,fun _ => (by decide : (6 : Int) < 7)⟩
 | 7,_ => exact ⟨(by decide : (1 : Int) ≤ 8),(by decide : (8 : Int) ≤ 255),n8 _,fun _ => (by decide : (7 : Int) < 8)⟩
 | 8,_ => exact ⟨(by decide : (1 : Int) ≤ 9),(by decide : (9 : Int) ≤ 255),(show r.pv.length ≤ 65535 by omega),fun _ => (by decide : (8 : Int) < 9)⟩
 | 9,_ => exact ⟨(by decide : (1 : Int) ≤ 10),(by decide : (10 : Int) ≤ 255),h2,fun _ => (by decide : (9 : Int) < 10)⟩
theorem rcB_length {r : Rc} (h : r.pv.length = 32) : (rcB r).length = 126 + r.bs.length:=by
 unfold rcB
 rw [flC_ten]
 simp only [encF,List.length_append,zen,zbg,List.length_nil,h]
 omega
/-! ### what bytes open as -/
def tenOk (fs : List Fd) : Prop:=fs.length = 10 ∧ (∀ i,i < 10 → tgF fs i = (i : Int) + 1) ∧ (∀ i,i < 8 → 0 ≤ ofB (bsF fs i)) ∧ (bsF fs 8).length = 32
instance (fs : List Fd) : Decidable (tenOk fs):=by unfold tenOk; exact inferInstance
def rcOf (fs : List Fd) : Rc:=⟨ofB (bsF fs 0),ofB (bsF fs 1),ofB (bsF fs 2),ofB (bsF fs 3),ofB (bsF fs 4),ofB (bsF fs 5),ofB (bsF fs 6),ofB (bsF fs 7),bsF fs 8,bsF fs 9⟩
def unB (body : List Nat) : Option Rc:=match getFs body with
 | some fs => if tenOk fs ∧ mayC (rcOf fs) = true then some (rcOf fs) else none
 | none => none
def openR (bs : List Nat) : Option (Rc × List Nat × Nat × Nat):=match partsB bs with
 | some (body,x,y) => match unB body with
  | some r => some (r,body,x,y)
  | none => none
 | none => none
theorem fl_rcOf {fs : List Fd} (h : tenOk fs) (hB : BytF fs) : flC (rcOf fs) = fs:=by
 obtain ⟨h10,ht,hn,_⟩:=h
 match fs,h10 with
 | [a0,a1,a2,a3,a4,a5,a6,a7,a8,a9],_ =>
  have t : ∀ i,i < 10 → tgF [a0,a1,a2,a3,a4,a5,a6,a7,a8,a9] i = (i : Int) + 1:=ht
  have b : ∀ i,i < 8 → numB (ofB (bsF [a0,a1,a2,a3,a4,a5,a6,a7,a8,a9] i)) = bsF [a0,a1,a2,a3,a4,a5,a6,a7,a8,a9] i:=fun i hi => numB_of (by
   unfold bsF
   rw [List.getD_eq_getElem?_getD,List.getElem?_eq_getElem (show i < 10 by omega)]
   exact hB _ (List.getElem_mem _)) (hn i hi)
  have e0 : (1,numB (ofB a0.2)) = a0:=Prod.ext (t 0 (by decide)).symm (b 0 (by decide))
  have e1 : (2,numB (ofB a1.2)) = a1:=Prod.ext (t 1 (by decide)).symm (b 1 (by decide))
  have e2 : (3,numB (ofB a2.2)) = a2:=Prod.ext (t 2 (by decide)).symm (b 2 (by decide))
  have e3 : (4,numB (ofB a3.2)) = a3:=Prod.ext (t 3 (by decide)).symm (b 3 (by decide))
  have e4 : (5,numB (ofB a4.2)) = a4:=Prod.ext (t 4 (by decide)).symm (b 4 (by decide))
  have e5 : (6,numB (ofB a5.2)) = a5:=Prod.ext (t 5 (by decide)).symm (b 5 (by decide))
  have e6 : (7,numB (ofB a6.2)) = a6:=Prod.ext (t 6 (by decide)).symm (b 6 (by decide))
  have e7 : (8,numB (ofB a7.2)) = a7:=Prod.ext (t 7 (by decide)).symm (b 7 (by decide))
  have e8 : (9,a8.2) = a8:=Prod.ext (t 8 (by decide)).symm rfl
  have e9 : (10,a9.2) = a9:=Prod.ext (t 9 (by decide)).symm rfl
  show [(1,numB (ofB a0.2)),(2,numB (ofB a1.2)),(3,numB (ofB a2.2)),(4,numB (ofB a3.2)),(5,numB (ofB a4.2)),(6,numB (ofB a5.2)),(7,numB (ofB a6.2)),(8,numB (ofB a7.2)),(9,a8.2),(10,a9.2)] = _
  rw [e0,e1,e2,e3,e4,e5,e6,e7,e8,e9]
theorem body_un {body : List Nat} {r : Rc} (hb : Byt body) (h : unB body = some r) : rcB r = body ∧ mayC r = true ∧ WfC r:=by
 unfold unB at h
 cases hg : getFs body with
 | none => rw [hg] at h; cases h
 | some fs =>
  rw [hg] at h
  simp only at h
  split at h
  ·
   rename_i hok
   injection h with h
   subst h
   have hB:=get_byt hb hg
   have byt : ∀ i,i < 10 → Byt (bsF fs i):=fun i hi => by
    unfold bsF
    rw [List.getD_eq_getElem?_getD,List.getElem?_eq_getElem (show i < fs.length by have:=hok.1.1; omega)]
    exact hB _ (List.getElem_mem _)
   refine ⟨?_,hok.2,hok.1.2.2.2,byt 8 (by decide),byt 9 (by decide)⟩
   unfold rcB
   rw [fl_rcOf hok.1 hB]
   exact enc_get hb hg
  ·
   cases h
theorem issue_open {bs body : List Nat} {r : Rc} {x y : Nat} (hb : Byt bs) (h : openR bs = some (r,body,x,y)) : signedB (rcB r) x y = bs ∧ mayC r = true ∧ WfC r ∧ body = rcB r ∧ x < 256 ^ 32 ∧ y < 256 ^ 32 ∧ partsB bs = some (body,x,y):=by
 unfold openR at h
 cases hp : partsB bs with
 | none => rw [hp] at h; cases h
 | some z =>
  obtain ⟨body',x',y'⟩:=z
  rw [hp] at h
  simp only at h
  obtain ⟨g1,g2,_,g4,g5⟩:=signed_parts hb hp
  cases hu : unB body' with
  | none => rw [hu] at h; cases h
  | some r' =>
   rw [hu] at h
   simp only at h
   injection h with h
   injection h with h1 h
   injection h with h2 h
   injection h with h3 h4
   subst h1 h2 h3 h4
   obtain ⟨k1,k2,k3⟩:=body_un g2 hu
   exact ⟨by rw [k1]; exact g1,k2,k3,k1.symm,g4,g5,rfl⟩
/-! ### chains -/
def nilD : List Nat:=List.replicate 32 0
def linkR (dg : List Nat → Nat → Nat) (vf : (Nat → Nat) → Nat → Nat → Bool) (dev : Int) (i : Nat) (last bs : List Nat) : Option (List Nat):=match openR bs with
 | some (r,body,x,y) => if r.dv = dev ∧ r.sq = (i : Int) ∧ r.pv = last ∧ vf (dg body) x y = true then some ((List.range 32).map (dg body)) else none
 | none => none
def chainR (dg : List Nat → Nat → Nat) (vf : (Nat → Nat) → Nat → Nat → Bool) (dev : Int) : Nat → List Nat → List (List Nat) → Nat
 | _,_,[] => 0
 | i,last,b :: l => match linkR dg vf dev i last b with
  | some last' => chainR dg vf dev (i + 1) last' l + 1
  | none => 0
section
variable {dg : List Nat → Nat → Nat} {vf : (Nat → Nat) → Nat → Nat → Bool} {dev : Int}
theorem chainR_some {i : Nat} {last last' b : List Nat} {l : List (List Nat)} (h : linkR dg vf dev i last b = some last') : chainR dg vf dev i last (b :: l) = chainR dg vf dev (i + 1) last' l + 1:=by
 show (match linkR dg vf dev i last b with | some last' => chainR dg vf dev (i + 1) last' l + 1 | none => 0) = _
 rw [h]
theorem chainR_none {i : Nat} {last b : List Nat} {l : List (List Nat)} (h : linkR dg vf dev i last b = none) : chainR dg vf dev i last (b :: l) = 0:=by
 show (match linkR dg vf dev i last b with | some last' => chainR dg vf dev (i + 1) last' l + 1 | none => 0) = _
 rw [h]
theorem chainR_le : ∀ {l : List (List Nat)} {i : Nat} {last : List Nat},chainR dg vf dev i last l ≤ l.length
 | [],_,_ => Nat.le_refl _
 | b :: l,i,last => by
  unfold chainR
  cases linkR dg vf dev i last b with
  | none => exact Nat.zero_le _
  | some last' =>
   have:=chainR_le (l:=l) (i:=i + 1) (last:=last')
   simp only [List.length_cons]
   omega
theorem chainR_take : ∀ {l : List (List Nat)} {i n : Nat} {last : List Nat},chainR dg vf dev i last (l.take n) = min n (chainR dg vf dev i last l)
 | [],i,n,last => by
  rw [List.take_nil]
  show 0 = min n 0
  omega
 | b :: l,i,0,last => by
  show 0 = min 0 _
  omega
 | b :: l,i,n + 1,last => by
  rw [List.take_succ_cons]
  unfold chainR
  cases linkR dg vf dev i last b with
  | none => show 0 = min (n + 1) 0; omega
  | some last' =>
   have:=chainR_take (l:=l) (i:=i + 1) (n:=n) (last:=last')
   simp only
   omega
inductive OnR (dg : List Nat → Nat → Nat) (vf : (Nat → Nat) → Nat → Nat → Bool) (dev : Int) (l : List (List Nat)) : Nat → List Nat → Prop
 | start : OnR dg vf dev l 0 nilD
 | more {k : Nat} {last b last' : List Nat} : OnR dg vf dev l k last → l[k]? = some b → linkR dg vf dev k last b = some last' → OnR dg vf dev l (k + 1) last'
theorem onR_drop {l : List (List Nat)} {k : Nat} {last : List Nat} (h : OnR dg vf dev l k last) : chainR dg vf dev 0 nilD l = k + chainR dg vf dev k last (l.drop k):=by
 induction h with
 | start => simp
 | @more k last b last' _ hb hl ih =>
  rw [ih]
  have hk : k < l.length:=(List.getElem?_eq_some_iff.1 hb).1
  have e : l.drop k = b :: l.drop (k + 1):=by
   rw [List.drop_eq_getElem_cons hk]
   congr 1
   exact (List.getElem?_eq_some_iff.1 hb).2
  rw [e,chainR_some hl]
  omega
theorem onR_end {l : List (List Nat)} {k : Nat} {last : List Nat} (h : OnR dg vf dev l k last) (hk : k = l.length) : chainR dg vf dev 0 nilD l = k:=by
 rw [onR_drop h,hk,List.drop_length]
 rfl
theorem zei {l : List (List Nat)} {k : Nat} {last b : List Nat} (h : OnR dg vf dev l k last) (hb : l[k]? = some b) (hn : linkR dg vf dev k last b = none) : chainR dg vf dev 0 nilD l = k:=by
 rw [onR_drop h]
 have hk : k < l.length:=(List.getElem?_eq_some_iff.1 hb).1
 have e : l.drop k = b :: l.drop (k + 1):=by
  rw [List.drop_eq_getElem_cons hk]
  congr 1
  exact (List.getElem?_eq_some_iff.1 hb).2
 rw [e,chainR_none hn]
 rfl
end
end Go.Proofs.YtihophdbkjhopaaDoor
namespace Go.Proofs.YtihophdbkjhopaaDoor
def dg (B n i : Nat) : Nat:=n / B ^ i % B
def cy (B X Y i : Nat) : Nat:=(X % B ^ i + Y % B ^ i) / B ^ i
def bw (B X Y i : Nat) : Nat:=if X % B ^ i < Y % B ^ i then 1 else 0
theorem dg_lt {B : Nat} (hB : 0 < B) (n i : Nat) : dg B n i < B:=Nat.mod_lt _ hB
theorem zay (B n i : Nat) : n % B ^ (i + 1) = n % B ^ i + B ^ i * dg B n i:=by
 rw [Nat.pow_succ,Nat.mod_mul,dg]
theorem cy_zero (B X Y : Nat) : cy B X Y 0 = 0:=by simp [cy,Nat.mod_one]
theorem cy_le {B : Nat} (hB : 0 < B) (X Y i : Nat) : cy B X Y i ≤ 1:=by
 have hp : 0 < B ^ i:=Nat.pow_pos hB
 have h1:=Nat.mod_lt X hp
 have h2:=Nat.mod_lt Y hp
 unfold cy
 have : (X % B ^ i + Y % B ^ i) / B ^ i < 2:=(Nat.div_lt_iff_lt_mul hp).2 (by omega)
 omega
theorem cy_succ {B : Nat} (hB : 0 < B) (X Y i : Nat) : cy B X Y (i + 1) = (dg B X i + dg B Y i + cy B X Y i) / B:=by
 have hp : 0 < B ^ i:=Nat.pow_pos hB
 unfold cy
 rw [zay,zay]
 rw [show X % B ^ i + B ^ i * dg B X i + (Y % B ^ i + B ^ i * dg B Y i) = (X % B ^ i + Y % B ^ i) + B ^ i * (dg B X i + dg B Y i) by rw [Nat.mul_add]; omega]
 rw [Nat.pow_succ,← Nat.div_div_eq_div_mul,Nat.add_mul_div_left _ _ hp]
 congr 1
 omega
theorem dg_add {B : Nat} (hB : 0 < B) (X Y i : Nat) : dg B (X + Y) i = (dg B X i + dg B Y i + cy B X Y i) % B:=by
 have hp : 0 < B ^ i:=Nat.pow_pos hB
 have hX : X = X % B ^ i + B ^ i * (X / B ^ i):=(Nat.mod_add_div _ _).symm
 have hY : Y = Y % B ^ i + B ^ i * (Y / B ^ i):=(Nat.mod_add_div _ _).symm
 have hs : (X + Y) / B ^ i = (X % B ^ i + Y % B ^ i) / B ^ i + (X / B ^ i + Y / B ^ i):=by
  conv => lhs; rw [hX,hY]
  rw [show X % B ^ i + B ^ i * (X / B ^ i) + (Y % B ^ i + B ^ i * (Y / B ^ i)) = (X % B ^ i + Y % B ^ i) + B ^ i * (X / B ^ i + Y / B ^ i) by rw [Nat.mul_add]; omega]
  rw [Nat.add_mul_div_left _ _ hp]
 unfold dg cy
 rw [hs,show (X % B ^ i + Y % B ^ i) / B ^ i + (X / B ^ i + Y / B ^ i) = X / B ^ i + Y / B ^ i + (X % B ^ i + Y % B ^ i) / B ^ i by omega]
 rw [Nat.add_mod,Nat.add_mod (X / B ^ i) (Y / B ^ i)]
 conv => rhs; rw [Nat.add_mod]
theorem cy_top {B : Nat} {X Y n : Nat} (hX : X < B ^ n) (hY : Y < B ^ n) : cy B X Y n = if B ^ n ≤ X + Y then 1 else 0:=by
 unfold cy
 rw [Nat.mod_eq_of_lt hX,Nat.mod_eq_of_lt hY]
 have hp : 0 < B ^ n:=by omega
 split
 ·
  apply Nat.le_antisymm
  ·
   have:=(Nat.div_lt_iff_lt_mul hp (x:=X + Y) (y:=2)).2 (by omega)
   omega
  ·
   exact (Nat.le_div_iff_mul_le hp).2 (by omega)
 ·
  exact Nat.div_eq_of_lt (by omega)
theorem zcn {B : Nat} (n m i : Nat) (h : i < m) : dg B (n % B ^ m) i = dg B n i:=by
 unfold dg
 obtain ⟨d,rfl⟩ : ∃ d,m = i + (d + 1):=⟨m - i - 1,by omega⟩
 rw [Nat.pow_add,Nat.mod_mul_right_div_self,Nat.mod_mod_of_dvd _ (by rw [Nat.pow_succ]; exact Nat.dvd_mul_left _ _)]
theorem zgg {B : Nat} (hB : 0 < B) : ∀ (n : Nat) {X Y : Nat},(∀ i,i < n → dg B X i = dg B Y i) → X % B ^ n = Y % B ^ n
 | 0,X,Y,_ => by simp [Nat.mod_one]
 | n + 1,X,Y,h => by rw [zay,zay,zgg hB n (fun i hi => h i (by omega)),h n (by omega)]
theorem eq_of_dg_lt {B : Nat} (hB : 0 < B) {n X Y : Nat} (hX : X < B ^ n) (hY : Y < B ^ n) (h : ∀ i,i < n → dg B X i = dg B Y i) : X = Y:=by
 have:=zgg hB n h
 rwa [Nat.mod_eq_of_lt hX,Nat.mod_eq_of_lt hY] at this
theorem bw_zero (B X Y : Nat) : bw B X Y 0 = 0:=by simp [bw,Nat.mod_one]
theorem bw_le (B X Y i : Nat) : bw B X Y i ≤ 1:=by unfold bw; split <;> omega
theorem bw_succ {B : Nat} (hB : 0 < B) (X Y i : Nat) : bw B X Y (i + 1) = if dg B X i < dg B Y i + bw B X Y i then 1 else 0:=by
 have hp : 0 < B ^ i:=Nat.pow_pos hB
 have h1:=Nat.mod_lt X hp
 have h2:=Nat.mod_lt Y hp
 unfold bw
 rw [zay,zay]
 generalize dg B X i = x
 generalize dg B Y i = y
 generalize X % B ^ i = r at *
 generalize Y % B ^ i = s at *
 generalize B ^ i = P at *
 by_cases hxy : x < y
 ·
  have : P * x + P ≤ P * y:=by rw [← Nat.mul_succ]; exact Nat.mul_le_mul_left _ hxy
  rw [if_pos (by omega)]; split <;> rw [if_pos (by omega)]
 ·
  by_cases hyx : y < x
  ·
   have : P * y + P ≤ P * x:=by rw [← Nat.mul_succ]; exact Nat.mul_le_mul_left _ hyx
   rw [if_neg (by omega)]; split <;> rw [if_neg (by omega)]
  ·
   have hxy' : x = y:=by omega
   subst hxy'
   by_cases hrs : r < s
   ·
    rw [if_pos (by omega),if_pos hrs,if_pos (by omega)]
   ·
    rw [if_neg (by omega),if_neg hrs,if_neg (by omega)]
theorem dg_sub {B : Nat} (hB : 0 < B) (X Y n i : Nat) (hi : i < n) (hY : Y ≤ B ^ n) : dg B (X + B ^ n - Y) i = (dg B X i + B - dg B Y i - bw B X Y i) % B:=by
 obtain ⟨D,hD⟩ : ∃ D,X + B ^ n - Y = D:=⟨_,rfl⟩
 rw [hD]
 have hDY : D + Y = X + B ^ n:=by omega
 -- the digit of the sum D + Y
 have h1:=dg_add hB D Y i
 have h2 : dg B (D + Y) i = dg B X i:=by
  rw [hDY]
  unfold dg
  obtain ⟨d,rfl⟩ : ∃ d,n = i + (d + 1):=⟨n - i - 1,by omega⟩
  rw [Nat.pow_add,Nat.add_mul_div_left _ _ (Nat.pow_pos hB),Nat.pow_succ,Nat.add_mul_mod_self_right]
 have h3 : cy B D Y i = bw B X Y i:=by
  have hp : 0 < B ^ i:=Nat.pow_pos hB
  have e : (D + Y) % B ^ i = X % B ^ i:=by
   rw [hDY]
   obtain ⟨d,rfl⟩ : ∃ d,n = i + (d + 1):=⟨n - i - 1,by omega⟩
   rw [Nat.pow_add,Nat.add_mul_mod_self_left]
  rw [Nat.add_mod] at e
  have hd:=Nat.mod_lt D hp
  have hy:=Nat.mod_lt Y hp
  unfold cy bw
  rw [← e]
  generalize D % B ^ i = r at *
  generalize Y % B ^ i = s at *
  by_cases h : r + s < B ^ i
  ·
   rw [Nat.mod_eq_of_lt h,Nat.div_eq_of_lt h,if_neg (by omega)]
  ·
   rw [Nat.mod_eq_sub_mod (by omega),Nat.mod_eq_of_lt (by omega),if_pos (by omega)]
   apply Nat.le_antisymm
   ·
    have:=(Nat.div_lt_iff_lt_mul hp (x:=r + s) (y:=2)).2 (by omega)
    omega
   ·
    exact (Nat.le_div_iff_mul_le hp).2 (by omega)
 rw [h2,h3] at h1
 have b1:=dg_lt hB D i
 have b2:=dg_lt hB Y i
 have b3:=bw_le B X Y i
 have b4:=dg_lt hB X i
 generalize dg B D i = d at *
 generalize dg B Y i = y at *
 generalize dg B X i = x at *
 generalize bw B X Y i = b at *
 by_cases h : d + y + b < B
 ·
  rw [Nat.mod_eq_of_lt h] at h1
  rw [Nat.mod_eq_sub_mod (by omega),Nat.mod_eq_of_lt (by omega)]
  omega
 ·
  rw [Nat.mod_eq_sub_mod (by omega),Nat.mod_eq_of_lt (by omega)] at h1
  rw [Nat.mod_eq_of_lt (by omega)]
  omega
theorem bw_top {B X Y n : Nat} (hX : X < B ^ n) (hY : Y < B ^ n) : bw B X Y n = if X < Y then 1 else 0:=by
 unfold bw
 rw [Nat.mod_eq_of_lt hX,Nat.mod_eq_of_lt hY]
/-! ### words of 64 bits,parts of 16 -/
def w64 : Nat:=18446744073709551616
def w16 : Nat:=65536
def top : Nat:=w64 ^ 4
theorem zam : 0 < w64:=by unfold w64; omega
theorem zce : 0 < top:=Nat.pow_pos zam
def wd (n i : Nat) : Int:=(dg w64 n i : Nat)
theorem wd_lo (n i : Nat) : 0 ≤ wd n i:=Int.natCast_nonneg _
theorem wd_lt (n i : Nat) : wd n i < 18446744073709551616:=by
 have:=dg_lt zam n i
 unfold wd; unfold w64 at *; omega
theorem wd_le (n i : Nat) : wd n i ≤ 18446744073709551615:=by have:=wd_lt n i; omega
def ofWords (a b c d : Int) : Nat:=a.toNat + w64 * (b.toNat + w64 * (c.toNat + w64 * d.toNat))
theorem ofWords_lt {a b c d : Int} (ha : a < 18446744073709551616) (hb : b < 18446744073709551616) (hc : c < 18446744073709551616) (hd : d < 18446744073709551616) : ofWords a b c d < top:=by
 unfold ofWords top w64
 omega
theorem wd_ofWords {a b c d : Int} (ha0 : 0 ≤ a) (ha : a < 18446744073709551616) (hb0 : 0 ≤ b) (hb : b < 18446744073709551616) (hc0 : 0 ≤ c) (hc : c < 18446744073709551616) (hd0 : 0 ≤ d) (hd : d < 18446744073709551616) :
  wd (ofWords a b c d) 0 = a ∧ wd (ofWords a b c d) 1 = b ∧ wd (ofWords a b c d) 2 = c ∧ wd (ofWords a b c d) 3 = d:=by
 unfold wd dg ofWords w64
 refine ⟨?_,?_,?_,?_⟩ <;> simp <;> omega
theorem zeb (n i : Nat) (h : i < 4) : wd (n % top) i = wd n i:=by
 unfold wd top
 rw [zcn n 4 i h]
end Go.Proofs.YtihophdbkjhopaaDoor
namespace Go.Proofs.YtihophdbkjhopaaDoor
open Go.RowKit
open Go.Value renaming int → vI
open Go.IntKind renaming u64 → vU
open Go.Act renaming put → aP
open List renaming setIfInBounds_toArray → lA, set_cons_zero → lZ, set_cons_succ → lS
theorem veil {p : Prop} (h : p) : Hid p:=h
section
variable {w w' : World} {b b' t n i B : Nat} {f g : Nat → Value} {cs : Array Value}
theorem zad (hb : b = w.heap.size) (hn : cs.size = n) (h : ∀ i,i < n → cs[i]? = some (f i)) : (w.alloc (.cells cs t)).rowIs b t n f:=by
 subst hb; subst hn
 exact World.rowIs_alloc w cs t f h
theorem zan (h : w.rowIs b t n f) (hne : b ≠ b') (v : Value) : (w.setCell ⟨b',i,none⟩ v).rowIs b t n f:=h.setOther hne v
theorem zaa (h : w.rowIs b t n f) (hb : Below B w w') (hlt : b < B) : w'.rowIs b t n f:=h.of_block (hb.block b hlt)
theorem zbz (h : w.rowIs b t n f) (k : Nat) : (w.drewN k).rowIs b t n f:=h
theorem zab {a : World} (h : Below B a w) (hb : B ≤ b) (v : Value) : Below B a (w.setCell ⟨b,i,none⟩ v):=h.setCell hb v
theorem zaz {a : World} (h : Below B a w) (k : Nat) : Below B a (w.drewN k):=⟨h.os,h.tape,h.output,h.size,h.block⟩
theorem arr4 (f : Nat → Value) : ∀ i,i < 4 → (#[f 0,f 1,f 2,f 3] : Array Value)[i]? = some (f i)
 | 0,_ => rfl
 | 1,_ => rfl
 | 2,_ => rfl
 | 3,_ => rfl
 | n + 4,h => by omega
theorem arr8 (f : Nat → Value) : ∀ i,i < 8 → (#[f 0,f 1,f 2,f 3,f 4,f 5,f 6,f 7] : Array Value)[i]? = some (f i)
 | 0,_ => rfl
 | 1,_ => rfl
 | 2,_ => rfl
 | 3,_ => rfl
 | 4,_ => rfl
 | 5,_ => rfl
 | 6,_ => rfl
 | 7,_ => rfl
 | n + 8,h => by omega
theorem zaf (h : w.rowIs b t 4 f) : w.cell? ⟨b,0,none⟩ = some (f 0) ∧ w.cell? ⟨b,1,none⟩ = some (f 1) ∧ w.cell? ⟨b,2,none⟩ = some (f 2) ∧ w.cell? ⟨b,3,none⟩ = some (f 3) :=
 ⟨h.cell (by omega),h.cell (by omega),h.cell (by omega),h.cell (by omega)⟩
theorem row_c8 (h : w.rowIs b t 8 f) : w.cell? ⟨b,0,none⟩ = some (f 0) ∧ w.cell? ⟨b,1,none⟩ = some (f 1) ∧ w.cell? ⟨b,2,none⟩ = some (f 2) ∧ w.cell? ⟨b,3,none⟩ = some (f 3) ∧
  w.cell? ⟨b,4,none⟩ = some (f 4) ∧ w.cell? ⟨b,5,none⟩ = some (f 5) ∧ w.cell? ⟨b,6,none⟩ = some (f 6) ∧ w.cell? ⟨b,7,none⟩ = some (f 7) :=
 ⟨h.cell (by omega),h.cell (by omega),h.cell (by omega),h.cell (by omega),h.cell (by omega),h.cell (by omega),h.cell (by omega),h.cell (by omega)⟩
theorem zaw (h : w.rowIs b t n f) : w.frozen? ⟨b,0,none⟩ = false ∧ w.frozen? ⟨b,1,none⟩ = false ∧ w.frozen? ⟨b,2,none⟩ = false ∧ w.frozen? ⟨b,3,none⟩ = false :=
 ⟨h.frozen _,h.frozen _,h.frozen _,h.frozen _⟩
theorem row_f8 (h : w.rowIs b t n f) : w.frozen? ⟨b,0,none⟩ = false ∧ w.frozen? ⟨b,1,none⟩ = false ∧ w.frozen? ⟨b,2,none⟩ = false ∧ w.frozen? ⟨b,3,none⟩ = false ∧
  w.frozen? ⟨b,4,none⟩ = false ∧ w.frozen? ⟨b,5,none⟩ = false ∧ w.frozen? ⟨b,6,none⟩ = false ∧ w.frozen? ⟨b,7,none⟩ = false :=
 ⟨h.frozen _,h.frozen _,h.frozen _,h.frozen _,h.frozen _,h.frozen _,h.frozen _,h.frozen _⟩
theorem arr_eq {c : Array Value} : ∀ {l : List Value},c.size = l.length → (∀ i,i < l.length → c[i]? = l[i]?) → c = l.toArray:=by
 intro l hs h
 apply Array.ext_getElem?
 intro i
 by_cases hi : i < l.length
 ·
  rw [h i hi]; simp
 ·
  rw [Array.getElem?_eq_none (by omega),Array.getElem?_eq_none (by simp; omega)]
theorem blk4 (h : w.rowIs b t 4 f) : w.heap[b]? = some (.cells #[f 0,f 1,f 2,f 3] t (0,0)):=by
 obtain ⟨c,hb,hn,hc⟩:=h
 rw [hb,arr_eq (c:=c) (l:=[f 0,f 1,f 2,f 3]) (by simpa using hn) (fun i hi => by
  have hi4 : i < 4:=by simpa using hi
  rw [hc i hi4]
  exact (by simpa using arr4 f i hi4 : [f 0,f 1,f 2,f 3][i]? = some (f i)).symm)]
theorem blk8 (h : w.rowIs b t 8 f) : w.heap[b]? = some (.cells #[f 0,f 1,f 2,f 3,f 4,f 5,f 6,f 7] t (0,0)):=by
 obtain ⟨c,hb,hn,hc⟩:=h
 rw [hb,arr_eq (c:=c) (l:=[f 0,f 1,f 2,f 3,f 4,f 5,f 6,f 7]) (by simpa using hn) (fun i hi => by
  have hi8 : i < 8:=by simpa using hi
  rw [hc i hi8]
  exact (by simpa using arr8 f i hi8 : [f 0,f 1,f 2,f 3,f 4,f 5,f 6,f 7][i]? = some (f i)).symm)]
theorem put4 (h : w.rowIs b t 4 f) (g : Nat → Value) : ((((w.setCell ⟨b,0,none⟩ (g 0)).setCell ⟨b,1,none⟩ (g 1)).setCell ⟨b,2,none⟩ (g 2)).setCell ⟨b,3,none⟩ (g 3)).rowIs b t 4 g :=
 ((((h.set 0 (g 0)).set 1 (g 1)).set 2 (g 2)).set 3 (g 3)).congr fun i hi => by
  have : i = 0 ∨ i = 1 ∨ i = 2 ∨ i = 3:=by omega
  rcases this with rfl | rfl | rfl | rfl <;> rfl
theorem put8 (h : w.rowIs b t 8 f) (g : Nat → Value) : ((((((((w.setCell ⟨b,0,none⟩ (g 0)).setCell ⟨b,1,none⟩ (g 1)).setCell ⟨b,2,none⟩ (g 2)).setCell ⟨b,3,none⟩ (g 3)).setCell ⟨b,4,none⟩ (g 4)).setCell ⟨b,5,none⟩ (g 5)).setCell ⟨b,6,none⟩ (g 6)).setCell ⟨b,7,none⟩ (g 7)).rowIs b t 8 g :=
 ((((((((h.set 0 (g 0)).set 1 (g 1)).set 2 (g 2)).set 3 (g 3)).set 4 (g 4)).set 5 (g 5)).set 6 (g 6)).set 7 (g 7)).congr fun i hi => by
  have : i = 0 ∨ i = 1 ∨ i = 2 ∨ i = 3 ∨ i = 4 ∨ i = 5 ∨ i = 6 ∨ i = 7:=by omega
  rcases this with rfl | rfl | rfl | rfl | rfl | rfl | rfl | rfl <;> rfl
theorem row_far4 (h : w.rowIs b t n f) (hne : b ≠ b') (v0 v1 v2 v3 : Value) : ((((w.setCell ⟨b',0,none⟩ v0).setCell ⟨b',1,none⟩ v1).setCell ⟨b',2,none⟩ v2).setCell ⟨b',3,none⟩ v3).rowIs b t n f :=
 zan (zan (zan (zan h hne _) hne _) hne _) hne _
theorem zap {a : World} (h : Below B a w) (hb : B ≤ b) (v0 v1 v2 v3 : Value) : Below B a ((((w.setCell ⟨b,0,none⟩ v0).setCell ⟨b,1,none⟩ v1).setCell ⟨b,2,none⟩ v2).setCell ⟨b,3,none⟩ v3) :=
 zab (zab (zab (zab h hb _) hb _) hb _) hb _
theorem below_put8 {a : World} (h : Below B a w) (hb : B ≤ b) (v0 v1 v2 v3 v4 v5 v6 v7 : Value) :
  Below B a ((((((((w.setCell ⟨b,0,none⟩ v0).setCell ⟨b,1,none⟩ v1).setCell ⟨b,2,none⟩ v2).setCell ⟨b,3,none⟩ v3).setCell ⟨b,4,none⟩ v4).setCell ⟨b,5,none⟩ v5).setCell ⟨b,6,none⟩ v6).setCell ⟨b,7,none⟩ v7) :=
 zab (zab (zab (zab (zab (zab (zab (zab h hb _) hb _) hb _) hb _) hb _) hb _) hb _) hb _
end
theorem row_step {X : Nat} {k : Nat} (hk : k < 4) : ∀ i,i < 4 → (if i = k then Value.int .u64 (wd X k) else Value.int .u64 (if i < k then wd X i else 0)) = Value.int .u64 (if i < k + 1 then wd X i else 0):=by
 intro i _
 by_cases h : i = k
 ·
  subst h; simp
 ·
  rw [if_neg h]; by_cases h2 : i < k
  ·
   rw [if_pos h2,if_pos (by omega)]
  ·
   rw [if_neg h2,if_neg (by omega)]
def Pre (w : World) (g t n : Nat) (f : Nat → Value) : Prop:=∃ c : Array Value,w.heap[g]? = some (.cells c t (0,0)) ∧ ∀ i,i < n → c[i]? = some (f i)
section
variable {w w' : World} {g t n B : Nat} {f h : Nat → Value}
theorem Pre.cell (p : Pre w g t n f) {i : Nat} (hi : i < n) : w.cell? ⟨g,i,none⟩ = some (f i):=by
 obtain ⟨c,hb,hc⟩:=p
 simp [World.cell?,hb,hc i hi]
theorem Pre.frozen (p : Pre w g t n f) (i : Nat) : w.frozen? ⟨g,i,none⟩ = false:=by
 obtain ⟨c,hb,_⟩:=p
 simp [World.frozen?,hb]
theorem Pre.lt (p : Pre w g t n f) : g < w.heap.size:=by
 obtain ⟨c,hb,_⟩:=p
 obtain ⟨hlt,_⟩:=Array.getElem?_eq_some_iff.1 hb
 exact hlt
theorem Pre.congr (p : Pre w g t n f) (e : ∀ i,i < n → f i = h i) : Pre w g t n h:=by
 obtain ⟨c,hb,hc⟩:=p
 exact ⟨c,hb,fun i hi => by rw [hc i hi,e i hi]⟩
theorem Pre.of_block (p : Pre w g t n f) (e : w'.heap[g]? = w.heap[g]?) : Pre w' g t n f:=by
 obtain ⟨c,hb,hc⟩:=p
 exact ⟨c,e.trans hb,hc⟩
theorem Pre.set (p : Pre w g t n f) (i : Nat) (v : Value) : Pre (w.setCell ⟨g,i,none⟩ v) g t n (fun j => if j = i then v else f j):=by
 obtain ⟨c,hb,hc⟩:=p
 refine ⟨c.setIfInBounds i v,?_,fun j hj => ?_⟩
 ·
  simp [World.setCell,Array.getElem?_modify,hb]
 ·
  rw [Array.getElem?_setIfInBounds]
  have hlt : j < c.size:=(Array.getElem?_eq_some_iff.1 (hc j hj)).1
  by_cases e : j = i
  ·
   subst e; simp [hlt]
  ·
   rw [if_neg (fun h => e h.symm)]
   show c[j]? = some (if j = i then v else f j)
   rw [if_neg e,hc j hj]
theorem Pre.far {b i : Nat} (p : Pre w g t n f) (hne : g ≠ b) (v : Value) : Pre (w.setCell ⟨b,i,none⟩ v) g t n f:=p.of_block (Below.heap_setCell _ _ _ _ hne)
theorem Pre.alloc (p : Pre w g t n f) (o : Obj) : Pre (w.alloc o) g t n f:=p.of_block (Below.heap_alloc _ _ _ p.lt)
theorem Pre.drew (p : Pre w g t n f) : Pre w.drew g t n f:=p
theorem Pre.drewN (p : Pre w g t n f) (k : Nat) : Pre (w.drewN k) g t n f:=p
theorem Pre.below (p : Pre w g t n f) (hb : Below B w w') (hlt : g < B) : Pre w' g t n f:=p.of_block (hb.block g hlt)
theorem Pre.of_own {base m : Nat} {v : Value} (hown : w.ownsRow base t 1 v m ((List.range m).map f)) (hm : 0 < m) :
  ∃ g cap,v = .slice (some ⟨g,0,none⟩) m cap ∧ m ≤ cap ∧ base ≤ g ∧ Pre w g t m f:=by
 obtain ⟨_,⟨_,h0⟩ | ⟨g,cap,cur,rfl,hbg,hh,hnc,_,_,ht⟩⟩:=hown
 ·
  omega
 ·
  refine ⟨g,cap,rfl,hnc,hbg,cur,hh,fun i hi => ?_⟩
  have e : cur.toList[i]? = (cur.toList.take (m * 1))[i]?:=by rw [List.getElem?_take_of_lt (by omega)]
  have : cur[i]? = cur.toList[i]?:=by simp
  rw [this,e,ht]
  simp [hi]
end
theorem quiet_more {P : Program} {fid : FuncId} {args : Array Value} {w : World} {a n : Nat} {v : Value} (h : Calls P fid args (w.drewN (a + n)) fun e w' => e = .returned v ∧ w' = w.drewN (a + n)) :
  Calls P fid args (w.drewN (a + n)) fun e w' => e = .returned v ∧ ∃ m,w' = w.drewN (a + m) :=
 h.mono fun _ _ ⟨he,hm⟩ => ⟨he,n,hm⟩
theorem zbv {P : Program} {fn : Func} {p s : Tmp} {ty : TypeId} (h : fn.results = #[.cell p ty,.tmp s]) (tmps : Array Value) (w : World) (g : Nat) (t : TypeId) (cs : Array Value) (fr : Nat × Nat) (n : Nat) (e : TypeId)
  (hp : tmps.getD p undef = .pointer (some ⟨g,0,none⟩)) (hg : w.heap[g]? = some (.cells cs t fr)) (hu : P.underlying ty = some (.array n e)) (hi : (P.info? ty).map (·.size) = some cs.size) :
  (results fn tmps).run P w = .ok (.tuple #[.agg cs,tmps.getD s undef]) w:=by
 have hp' : tmps[p]?.getD undef = .pointer (some ⟨g,0,none⟩):=by simpa using hp
 simp [results,h,hp',asAddr,run_loadVar_row w g t ty cs fr _ hg hu rfl hi]
def arrOf (n : Nat) (f : Nat → Value) : Array Value:=((List.range n).map f).toArray
theorem zah (n : Nat) (f : Nat → Value) : (arrOf n f).size = n:=by simp [arrOf]
theorem zbc {n : Nat} (f : Nat → Value) {i : Nat} (hi : i < n) : (arrOf n f)[i]? = some (f i):=by simp [arrOf,hi]
theorem zgh {n : Nat} {f : Nat → Value} {cs : Array Value} (hn : cs.size = n) (h : ∀ i,i < n → cs[i]? = some (f i)) : cs = arrOf n f:=by
 apply Array.ext_getElem?
 intro i
 by_cases hi : i < n
 ·
  rw [h i hi,zbc f hi]
 ·
  rw [Array.getElem?_eq_none (by omega),Array.getElem?_eq_none (by rw [zah]; omega)]
theorem arrOf_congr {n : Nat} {f g : Nat → Value} (h : ∀ i,i < n → f i = g i) : arrOf n f = arrOf n g :=
 zgh (zah n f) fun i hi => by rw [zbc f hi,h i hi]
theorem zbm {n : Nat} {f : Nat → Value} (h : ∀ i,i < n → (f i).oneCell' = true) : (arrOf n f).all (·.oneCell') = true:=by
 rw [Array.all_eq_true_iff_forall_mem]
 intro v hv
 simp [arrOf] at hv
 obtain ⟨i,hi,rfl⟩:=hv
 exact h i hi
section
variable {w w' : World} {b t n B : Nat} {f : Nat → Value}
theorem blkOf (h : w.rowIs b t n f) : w.heap[b]? = some (.cells (arrOf n f) t (0,0)):=by
 obtain ⟨c,hb,hn,hc⟩:=h
 rw [hb,zgh hn hc]
theorem zci (w : World) (n t : Nat) (f : Nat → Value) {g : Nat} (hg : g = w.heap.size) : (w.alloc (.cells (arrOf n f) t)).rowIs g t n f :=
 zad hg (zah n f) fun _ hi => zbc f hi
theorem row_setRow {a : Array Value} (h : w.rowIs b t n f) (hn : a.size = n) {g : Nat → Value} (hg : ∀ i,i < n → a[i]? = some (g i)) : (w.setRow b a).rowIs b t n g:=by
 obtain ⟨c,hb,_,_⟩:=h
 exact ⟨a,setRow_heap w b c a t (0,0) hb,hn,hg⟩
theorem zaj (w : World) {b b' : Nat} (a : Array Value) (hne : b ≠ b') : (w.setRow b' a).heap[b]? = w.heap[b]?:=by
 simp only [World.setRow,Array.getElem?_modify]
 rw [if_neg (by omega)]
end
theorem zbn {P : Program} {t e n i : Nat} {cs : Array Value} {v : Value} (hu : P.underlying t = some (.array n e)) (hs : (P.info? e).map (·.size) = some 1)
  (hp : ∀ w,(part e cs i).run P w = .ok v w) (hi : i < n) (k : IntKind) (w : World) : (Instr.index t (.agg cs) (.int k (i : Int))).run P w = .ok v w:=by
 cases hq : P.info? e with
 | none => simp [hq] at hs
 | some inf =>
  have hz : inf.size = 1:=by simpa [hq] using hs
  simp [Instr.index,asIntOf,Sem.run_bind,run_underlying hu w,hi,sizeOf,typeInfo,hq,hz,hp,Result.andThen_ok]
theorem zac (n : Nat) {P : Program} {ops : Array Oper} {Q : Exit → Act → World → Prop} {rest : List Oper} {a : Act} {w : World} {op : Op} {ty : TypeId} {pos : String} {af : Array Edge} {g : Option (Tmp × Bool)}
  (h : wpList P ops Q (⟨some n,op,ty,pos,af,g⟩ :: rest) a w) : wpList P ops Q (⟨some n,op,ty,pos,af,g⟩ :: rest) a w:=h
theorem zag {P : Program} {ops : Array Oper} {Q : Exit → Act → World → Prop} {rest : List Oper} {a : Act} {w : World} {op : Op} {ty : TypeId} {pos : String} {af : Array Edge} {g : Option (Tmp × Bool)}
  (h : wpList P ops Q (⟨none,op,ty,pos,af,g⟩ :: rest) a w) : wpList P ops Q (⟨none,op,ty,pos,af,g⟩ :: rest) a w:=h
theorem zcr {B b : Nat} {a w : World} (h : Below B a w) (hb : B ≤ b) (cs : Array Value) : Below B a (w.setRow b cs) :=
 ⟨h.os,h.tape,h.output,by simpa [World.setRow] using h.size,fun k hk => (zaj w cs (by omega)).trans (h.block k hk)⟩
abbrev But (r : Nat) (w w' : World) : Prop:=w.grownBy w' (some r)
section
variable {w w' w'' : World} {r : Nat}
theorem But.refl (r : Nat) (w : World) : But r w w:=⟨rfl,rfl,rfl,Nat.le_refl _,fun _ _ _ => rfl⟩
theorem But.trans (h : But r w w') (k : But r w' w'') : But r w w'' :=
 ⟨k.os.trans h.os,k.tape.trans h.tape,k.output.trans h.output,Nat.le_trans h.size k.size,fun i hi hne => (k.block i (Nat.lt_of_lt_of_le hi h.size) hne).trans (h.block i hi hne)⟩
theorem But.below (h : But r w w') (k : Below w'.heap.size w' w'') : But r w w'' :=
 h.trans ⟨k.os,k.tape,k.output,k.size,fun i hi _ => k.block i hi⟩
theorem But.of_below (k : Below w.heap.size w w') : But r w w':=(But.refl r w).below k
theorem But.set (h : But r w w') (i : Nat) (v : Value) : But r w (w'.setCell ⟨r,i,none⟩ v) :=
 h.trans ⟨rfl,rfl,rfl,by simp [World.setCell],fun k _ hne => Below.heap_setCell _ _ _ _ (by simpa using hne)⟩
theorem But.alloc (h : But r w w') (o : Obj) : But r w (w'.alloc o):=h.below ((Below.refl _ _).alloc (Nat.le_refl _) o)
theorem But.drew (h : But r w w') : But r w w'.drew:=⟨h.os,h.tape,h.output,h.size,h.block⟩
theorem But.drewN (h : But r w w') (k : Nat) : But r w (w'.drewN k):=⟨h.os,h.tape,h.output,h.size,h.block⟩
theorem But.far {b i : Nat} (h : But r w w') (hb : w.heap.size ≤ b) (v : Value) : But r w (w'.setCell ⟨b,i,none⟩ v) :=
 ⟨h.os,h.tape,h.output,by simpa [World.setCell] using h.size,fun k hk hne => (Below.heap_setCell _ _ _ _ (by show k ≠ b; omega)).trans (h.block k hk hne)⟩
theorem But.new {B : Nat} (h : But r w w') (hr : B ≤ r) (hB : B ≤ w.heap.size) : Below B w w' :=
 ⟨h.os,h.tape,h.output,h.size,fun k hk => h.block k (by omega) (by simp; omega)⟩
theorem row_but {b t n : Nat} {f : Nat → Value} (h : w.rowIs b t n f) (k : But r w w') (hne : b ≠ r) : w'.rowIs b t n f:=h.of_block (k.block b h.lt (by simpa using hne))
end
/-! ### steps of a region that draws its order -/
/-! ### what such a region keeps: a range of cells,and all blocks but one -/
theorem keepD {w5 W : World} {g gR : Nat} {L : List Value} (h : W.rangeAt g 0 L ∧ But gR w5 W) : W.drew.rangeAt g 0 L ∧ But gR w5 W.drew:=⟨h.1,h.2.drew⟩
theorem zfy {b t n : Nat} : ∀ (vs : List Value) (o : Nat) (w : World) (f : Nat → Value),w.rowIs b t n f → (w.setCells b o vs).rowIs b t n (fun j => if o ≤ j ∧ j < o + vs.length then vs.getD (j - o) undef else f j)
 | [],o,w,f,h => h.congr fun j _ => by rw [if_neg (by simp only [List.length_nil]; omega)]
 | v :: r,o,w,f,h => (zfy r (o + 1) _ _ (h.set o v)).congr fun j _ => by
  simp only [List.length_cons]
  by_cases h1 : j = o
  ·
   subst h1
   rw [if_neg (by omega),if_pos rfl,if_pos (by omega),Nat.sub_self]; rfl
  ·
   rw [if_neg h1]
   by_cases h2 : o + 1 ≤ j ∧ j < o + 1 + r.length
   ·
    rw [if_pos h2,if_pos (by omega),show j - o = (j - (o + 1)) + 1 by omega]; rfl
   ·
    rw [if_neg h2,if_neg (by omega)]
theorem But.setCells {r : Nat} {w0 : World} : ∀ (vs : List Value) (o : Nat) (w : World),But r w0 w → But r w0 (w.setCells r o vs)
 | [],_,_,h => h
 | v :: l,o,_,h => But.setCells l (o + 1) _ (h.set o v)
/-! ### what a region keeps that stores into one block in the end -/
section
variable {r t n : Nat} {wz W W' : World}
end
def Ext (w w' : World) : Prop:=Below w.heap.size w w'
theorem Ext.refl (w : World) : Ext w w:=Below.refl _ _
theorem Ext.trans {a b c : World} (h : Ext a b) (k : Ext b c) : Ext a c:=Below.trans h (Below.mono k h.size)
theorem Ext.drew (w : World) : Ext w w.drew:=Below.drew (Below.refl _ _)
theorem Ext.alloc (w : World) (o : Obj) : Ext w (w.alloc o):=(Below.refl _ _).alloc (Nat.le_refl _) o
theorem Ext.block {a b : World} (h : Ext a b) {g : Nat} {o : Obj} (hg : a.heap[g]? = some o) : b.heap[g]? = some o:=by
 rw [Below.block h g (Array.getElem?_eq_some_iff.1 hg).1,hg]
theorem Ext.row {a b : World} {g t n : Nat} {f : Nat → Value} (h : a.rowIs g t n f) (k : Ext a b) : b.rowIs g t n f:=zaa h k h.lt
section
variable {P : Program} {ops : Array Oper} {Q : Exit → Act → World → Prop} {md : Region.Mode}
def madeUpon (P : Program) (w : World) (v : Value) : Result Next → Prop
 | .ok (.value u) w' => u = v ∧ Ext w w'
 | .ok .skip w' => v = undef ∧ Ext w w'
 | .ok (.enter f args) w' => Calls P f args w' fun e w'' => e = .returned v ∧ Ext w w''
 | _ => False
def Made (P : Program) (o : Oper) (v : Value) (a : Act) (w : World) : Prop:=∀ W,Ext w W → madeUpon P W v ((execOp a.eval o).run P W)
theorem Made.ext {o : Oper} {v : Value} {a : Act} {w w' : World} (h : Made P o v a w) (k : Ext w w') : Made P o v a w':=fun W hW => h W (k.trans hW)
def YieldsE (P : Program) (ops : Array Oper) (o : Oper) (v : Value) (a : Act) (w : World) : Prop :=
 (Region.wanted o (yielded ops a.tmps) = true ∧ Made P o v a w) ∨ (Region.wanted o (yielded ops a.tmps) = false ∧ v = undef)
theorem YieldsE.of_same {o : Oper} {v : Value} {a a' : Act} {w w' : World} (hy : YieldsE P ops o v a w) (k : Ext w w') (he : execOp a'.eval o = execOp a.eval o)
  (hw : Region.wanted o (yielded ops a'.tmps) = Region.wanted o (yielded ops a.tmps)) : YieldsE P ops o v a' w':=by
 unfold YieldsE at *
 rw [hw]
 refine hy.imp (fun ⟨h1,h2⟩ => ⟨h1,?_⟩) id
 unfold Made at *
 rw [he]
 exact Made.ext h2 k
theorem Made.wp {o : Oper} {v : Value} {a : Act} {w W : World} (h : Made P o v a w) (k : Ext w W) {K : Act → World → Prop} (hK : ∀ W',Ext W W' → K (a.put o.dst v) W') : o.wp P a W K Q:=by
 have h1:=h W k
 unfold Oper.wp
 generalize (execOp a.eval o).run P W = r at *
 cases r with
 | ok n w' =>
  cases n <;> simp only [madeUpon] at h1 <;> simp only [Oper.upon]
  case value u => obtain ⟨rfl,e⟩:=h1; exact hK _ e
  case skip => obtain ⟨rfl,e⟩:=h1; exact hK _ e
  case enter f args => exact h1.mono fun e w'' ⟨he,hw⟩ => by subst he; exact hK _ hw
 | halt x w' => simp only [madeUpon] at h1
theorem YieldsE.wpOp {i : Nat} {o : Oper} {v : Value} {a : Act} {w W : World} (hi : ops[i]? = some o) (hy : YieldsE P ops o v a w) (k : Ext w W)
  {K : Act → World → Prop} (h : ∀ W',Ext W W' → K (a.put o.dst v) W') : wpOp P ops Q i K a W:=by
 unfold Go.wpOp
 simp only [hi]
 rcases hy with ⟨hw,hv⟩ | ⟨hw,rfl⟩
 ·
  simp only [hw,if_true]; exact .inl (hv.wp k h)
 ·
  simp only [hw,Bool.false_eq_true,if_false]; exact h W (Ext.refl W)
theorem wpOp_putE {j : Nat} {oi oj : Oper} {v : Value} (hj : ops[j]? = some oj) (hap : oi.apart ops oj = true)
  (hsi : ∀ cs b,oi.op ≠ .select cs b) (hsj : ∀ cs b,oj.op ≠ .select cs b)
  (hQ : ∀ c a w,Q (.panic c) (a.put oi.dst v) w → Q (.panic c) a w) {K : Act → World → Prop} {a : Act} {w : World}
  (hK : ∀ a' w',K a' w' → Ext w w') (hy : YieldsE P ops oi v a w) (h : wpOp P ops Q j K (a.put oi.dst v) w) :
  wpOp P ops Q j (fun a' w' => YieldsE P ops oi v a' w' ∧ K (a'.put oi.dst v) w') a w:=by
 obtain ⟨h1,h2,h3⟩:=Oper.apart_spec hap
 have keep : ∀ (a' : Act) (u : Value) (w' : World),YieldsE P ops oi v a' w → Ext w w' → YieldsE P ops oi v (a'.put oj.dst u) w':=fun a' u w' hy k =>
  hy.of_same k (execOp_put oi hsi a' oj.dst u h3) (wanted_put oi a' oj.dst u h3)
 have keepD : ∀ d,YieldsE P ops oi v { a with defers:=d :: a.defers } w:=fun d => hy.of_same (Ext.refl w) rfl rfl
 unfold wpOp at *
 simp only [hj] at *
 rw [wanted_put oj a oi.dst v h1] at h
 split
 ·
  rename_i hw
  simp only [hw,if_true] at h
  rcases h with h | ⟨hasks,hlets⟩
  case inr => exact .inr ⟨by unfold Oper.asks at *; rw [execOp_put oj hsj a oi.dst v h1] at hasks; exact hasks,hlets⟩
  refine .inl ?_
  unfold Oper.wp at *
  rw [execOp_put oj hsj a oi.dst v h1] at h
  generalize (execOp a.eval oj).run P w = r at *
  have fin : ∀ u w',K ((a.put oi.dst v).put oj.dst u) w' → YieldsE P ops oi v (a.put oj.dst u) w' ∧ K ((a.put oj.dst u).put oi.dst v) w':=fun u w' hk =>
   ⟨keep a u w' hy (hK _ _ hk),by rw [← Act.put_comm a v u h2]; exact hk⟩
  cases r with
  | ok n w' =>
   cases n <;> simp only [Oper.upon] at h ⊢
   case value u => exact fin u w' h
   case skip => exact fin undef w' h
   case defer d =>
    refine ⟨keep _ _ w' (keepD d) (hK _ _ h),?_⟩
    rw [← Act.put_comm _ v undef h2,← Act.put_defers]
    exact h
   case enter f args =>
    refine Calls.mono h fun e w'' he => ?_
    cases e with
    | returned u => exact fin u w'' he
    | panicked c => exact hQ _ _ _ he
    | outgrown => exact he
   case row row args => exact Rows.mono h fun u w'' he => fin u w'' he
  | halt x w' =>
   cases x <;> simp only [Oper.upon] at h ⊢
   case panic u => exact hQ _ _ _ h
 ·
  rename_i hw
  simp only [hw] at h
  exact ⟨keep a undef w hy (Ext.refl w),by rw [← Act.put_comm a v undef h2]; exact h⟩
def wpG (P : Program) (md : Region.Mode) (ops : Array Oper) (Q : Exit → Act → World → Prop) (n : Nat) : Nat → Array Bool → Act → World → Prop
 | 0,listed,a,w => Region.ready md ops listed = [] ∧ ∀ W,Ext w W → Q .normal a W
 | fuel + 1,listed,a,w =>
  (Region.ready md ops listed = [] → ∀ W,Ext w W → Q .normal a W) ∧
  ∀ i ∈ Region.ready md ops listed,∀ W,Ext w W → wpOp P ops Q i (fun a' W' => (i < n → Ext W W') ∧ wpG P md ops Q n fuel (listed.setIfInBounds i true) a' W') a W
theorem wpG.ext {n : Nat} : ∀ {f : Nat} {listed : Array Bool} {a : Act} {w w' : World},wpG P md ops Q n f listed a w → Ext w w' → wpG P md ops Q n f listed a w'
 | 0,_,_,_,_,h,k => ⟨h.1,fun W hW => h.2 W (k.trans hW)⟩
 | _ + 1,_,_,_,_,h,k => ⟨fun h0 W hW => h.1 h0 W (k.trans hW),fun i hi W hW => h.2 i hi W (k.trans hW)⟩
theorem zcv {n : Nat} : ∀ (f : Nat) (listed : Array Bool) (a : Act) (w : World),wpG P md ops Q n f listed a w → wpAny P md ops Q f listed a w
 | 0,_,_,w,h => ⟨h.1,h.2 w (Ext.refl w)⟩
 | f + 1,_,_,w,h => ⟨fun h0 => h.1 h0 w (Ext.refl w),fun i hi => wpOp_mono (fun a' w' hk => zcv f _ a' w' hk.2) (h.2 i hi w (Ext.refl w))⟩
def Closed (md : Region.Mode) (ops : Array Oper) (listed : Array Bool) : Prop :=
 listed.size = ops.size ∧ ∀ j oj,ops[j]? = some oj → listed.getD j false = true → ∀ e ∈ oj.after,Region.binds md e = true → listed.getD e.on false = true
theorem Closed.set {i : Nat} {listed : Array Bool} (inv : Closed md ops listed) (hi : i ∈ Region.ready md ops listed) : Closed md ops (listed.setIfInBounds i true):=by
 obtain ⟨_,oi,hoi,hall⟩:=mem_ready.1 hi
 refine ⟨by simp [inv.1],fun j oj hj hl e he hb => ?_⟩
 by_cases hij : i = j
 ·
  subst hij
  have : oj = oi:=Option.some.inj (hj.symm.trans hoi)
  subst this
  exact getD_set_true (hall e he hb)
 ·
  rw [getD_set_ne false hij] at hl
  exact getD_set_true (inv.2 j oj hj hl e he hb)
def lateB (md : Region.Mode) (ops : Array Oper) (m n : Nat) : Bool :=
 ((List.range (m - 1)).all fun i => (List.range m).any fun j => decide (i < j) && Region.waitsFor md ops j i) &&
 ((List.range ops.size).all fun t => decide (t < n) || Region.waitsFor md ops t (m - 1))
theorem late_one {m n : Nat} {listed : Array Bool} (hB : lateB md ops m n = true) (inv : Closed md ops listed) :
  ∀ (d i : Nat),m - 1 - i = d → i < m → listed.getD i false = false → listed.getD (m - 1) false = false:=by
 intro d
 induction d using Nat.strongRecOn with
 | _ d ih =>
  intro i hd hi hun
  by_cases hl : i = m - 1
  ·
   subst hl; exact hun
  ·
   simp only [lateB,Bool.and_eq_true] at hB
   have h1:=List.all_eq_true.1 hB.1 i (List.mem_range.2 (by omega))
   obtain ⟨j,hj,hj2⟩:=List.any_eq_true.1 h1
   simp only [Bool.and_eq_true,decide_eq_true_eq] at hj2
   have hjm:=List.mem_range.1 hj
   obtain ⟨oj,hoj,e,he,hb,hon⟩:=Region.waitsFor_spec hj2.2
   refine ih (m - 1 - j) (by omega) j rfl hjm ?_
   cases h2 : listed.getD j false with
   | false => rfl
   | true =>
    have h3:=inv.2 j oj hoj h2 e he hb
    rw [hon,hun] at h3
    cases h3
theorem late_spec {m n i : Nat} {listed : Array Bool} (hB : lateB md ops m n = true) (inv : Closed md ops listed) (hi : i < m) (hun : listed.getD i false = false)
  {t : Nat} (ht : t ∈ Region.ready md ops listed) : t < n:=by
 have h0:=late_one hB inv _ i rfl hi hun
 simp only [lateB,Bool.and_eq_true] at hB
 obtain ⟨_,ot,hot,hall⟩:=mem_ready.1 ht
 have h1:=List.all_eq_true.1 hB.2 t (List.mem_range.2 (Array.getElem?_eq_some_iff.1 hot).1)
 simp only [Bool.or_eq_true,decide_eq_true_eq] at h1
 rcases h1 with h1 | h1
 ·
  exact h1
 ·
  obtain ⟨o',ho',e,he,hb,hon⟩:=Region.waitsFor_spec h1
  have : o' = ot:=Option.some.inj (ho'.symm.trans hot)
  subst this
  have h2:=hall e he hb
  rw [hon,h0] at h2
  cases h2
theorem G_first {i m n : Nat} {oi : Oper} {v : Value} (hi : ops[i]? = some oi) (hsel : ∀ (j : Nat) (o : Oper) cs b,ops[j]? = some o → o.op ≠ .select cs b)
  (hQ : ∀ c a w,Q (.panic c) (a.put oi.dst v) w → Q (.panic c) a w) (hB : lateB md ops m n = true) (him : i < m) :
  ∀ (fuel : Nat) (listed : Array Bool) (a : Act) (w : World),Closed md ops listed →
   (∀ j oj,ops[j]? = some oj → j ≠ i → listed.getD j true = false → (∀ e ∈ oj.after,Region.binds md e = true → e.on ≠ i) → oi.apart ops oj = true) →
   i ∈ Region.ready md ops listed → YieldsE P ops oi v a w →
   wpG P md ops Q n fuel (listed.setIfInBounds i true) (a.put oi.dst v) w → wpG P md ops Q n (fuel + 1) listed a w:=by
 intro fuel
 induction fuel with
 | zero =>
  intro listed a w _ _ hr hy H
  refine ⟨fun h => (by rw [h] at hr; cases hr),fun j hj W hW => ?_⟩
  by_cases hji : j = i
  ·
   subst hji; exact hy.wpOp hi hW fun W' hW' => ⟨fun _ => hW',H.ext (hW.trans hW')⟩
  ·
   have:=ready_mono hj hji
   rw [H.1] at this
   cases this
 | succ fuel ih =>
  intro listed a w inv hfree hr hy H
  refine ⟨fun h => (by rw [h] at hr; cases hr),fun j hj W hW => ?_⟩
  by_cases hji : j = i
  ·
   subst hji; exact hy.wpOp hi hW fun W' hW' => ⟨fun _ => hW',H.ext (hW.trans hW')⟩
  ·
   have hun:=getD_both (mem_ready.1 hr).1
   have hjn : j < n:=late_spec hB inv him hun hj
   have h1:=H.2 j (ready_mono hj hji) W hW
   obtain ⟨hjun,oj,hoj,hall⟩:=mem_ready.1 hj
   have hnot : ∀ e ∈ oj.after,Region.binds md e = true → e.on ≠ i:=fun e he hb heq => by
    have h2:=hall e he hb
    rw [heq,hun] at h2
    cases h2
   have h2:=wpOp_putE hoj (hfree j oj hoj hji hjun hnot) (fun cs b => hsel i oi cs b hi) (fun cs b => hsel j oj cs b hoj) hQ (fun a' w' hk => hk.1 hjn)
    (hy.of_same hW rfl rfl) h1
   have hfree' : ∀ k ok,ops[k]? = some ok → k ≠ i → (listed.setIfInBounds j true).getD k true = false →
     (∀ e ∈ ok.after,Region.binds md e = true → e.on ≠ i) → oi.apart ops ok = true:=fun k ok hk hki hunk hno => by
    refine hfree k ok hk hki ?_ hno
    by_cases hjk : j = k
    ·
     subst hjk; exact hjun
    ·
     rw [getD_set_ne true hjk] at hunk; exact hunk
   refine wpOp_mono (fun a' w' h3 => ⟨h3.2.1,ih (listed.setIfInBounds j true) a' w' (inv.set hj) hfree' (ready_mono hr (Ne.symm hji)) h3.1 ?_⟩) h2
   rw [Array.setIfInBounds_comm _ _ hji]
   exact h3.2.2
/-! ### the walk in the text's order -/
def wpMk (P : Program) (ops : Array Oper) (w : World) (R : Act → Prop) : List Oper → Act → Prop
 | [],a => R a
 | o :: rest,a => ∃ v,YieldsE P ops o v a w ∧ wpMk P ops w R rest (a.put o.dst v)
theorem zbj {w : World} {R : Act → Prop} {a : Act} {o : Oper} {rest : List Oper} (v : Value) (hg : o.guard = none) (hm : Made P o v a w) (h : wpMk P ops w R rest (a.put o.dst v)) : wpMk P ops w R (o :: rest) a :=
 ⟨v,.inl ⟨by simp [Region.wanted,hg],hm⟩,h⟩
def lexTo (md : Region.Mode) (ops : Array Oper) : Nat → Nat → Array Bool → Bool
 | 0,_,_ => true
 | f + 1,k,listed => (Region.ready md ops listed).contains k && Region.free md ops listed k && lexTo md ops f (k + 1) (listed.setIfInBounds k true)
def marked : Nat → Nat → Array Bool → Array Bool
 | 0,_,listed => listed
 | f + 1,k,listed => marked f (k + 1) (listed.setIfInBounds k true)
theorem G_lex {m n g : Nat} (hsel : Region.noSelect ops = true) (hQ : ∀ (o : Oper) v c a w,Q (.panic c) (a.put o.dst v) w → Q (.panic c) a w) (hB : lateB md ops m n = true) {w : World} {R : Act → Prop} {L : Array Bool}
  (hR : ∀ a,R a → wpG P md ops Q n g L a w) : ∀ (l : List Oper) (k : Nat) (listed : Array Bool) (a : Act),(∀ j,j < l.length → l[j]? = ops[k + j]?) → k + l.length = m → Closed md ops listed →
  lexTo md ops l.length k listed = true → marked l.length k listed = L → wpMk P ops w R l a → wpG P md ops Q n (l.length + g) listed a w
 | [],k,listed,a,_,_,_,_,hL,h => by
  have hL' : listed = L:=hL
  subst hL'
  simpa using hR a h
 | o :: l,k,listed,a,hl,hk,inv,hX,hL,h => by
  have h0 : ops[k]? = some o:=by simpa using (hl 0 (by simp)).symm
  simp only [List.length_cons,lexTo,Bool.and_eq_true] at hX
  obtain ⟨⟨hr,hf⟩,hX'⟩:=hX
  have hkm : k < m:=by simp only [List.length_cons] at hk; omega
  have hr' : k ∈ Region.ready md ops listed:=by simpa using hr
  obtain ⟨v,hy,hK⟩:=h
  rw [List.length_cons,show l.length + 1 + g = (l.length + g) + 1 by omega]
  exact G_first h0 (Region.noSelect_spec hsel) (hQ o v) hB hkm _ listed a w inv (Region.free_spec h0 hf) hr' hy
   (G_lex hsel hQ hB hR l (k + 1) _ _ (fun j hj => by have:=hl (j + 1) (by simp; omega); simpa [Nat.add_assoc,Nat.add_comm 1 j] using this) (by simp only [List.length_cons] at hk; omega) (inv.set hr') hX' hL hK)
def madeB (l : List Oper) (m n : Nat) : Bool :=
 Region.noSelect l.toArray && decide (m ≤ l.length) && lateB .any l.toArray m n && lexTo .any l.toArray m 0 (Array.replicate l.length false)
def Rest (P : Program) (l : List Oper) (Q : Exit → Act → World → Prop) (m n : Nat) (a : Act) (w : World) : Prop :=
 wpG P .any l.toArray Q n (l.length - m) (marked m 0 (Array.replicate l.length false)) a w
theorem zdz {id m : Nat} (n : Nat) {a : Act} {w : World} {l : List Oper} (hm : P.follows .mixedOrders = true) (hB : madeB l m n = true)
  (hQ : ∀ (o : Oper) v c a w,Q (.panic c) (a.put o.dst v) w → Q (.panic c) a w)
  (h : wpMk P l.toArray w (fun a' => Rest P l Q m n a' w) (l.take m) a) : (Code.region id l.toArray true).wp P Q a w:=by
 simp only [madeB,Bool.and_eq_true,decide_eq_true_eq] at hB
 obtain ⟨⟨⟨hsel,hml⟩,hlate⟩,hlex⟩:=hB
 have htl : (l.take m).length = m:=by simp; omega
 have inv0 : Closed .any l.toArray (Array.replicate l.length false) :=
  ⟨by simp,fun j oj _ hl => (by rw [getD_replicate_false] at hl; cases hl)⟩
 have H:=G_lex (P:=P) (md:=.any) (Q:=Q) (g:=l.length - m) (w:=w) hsel hQ hlate (R:=fun a' => Rest P l Q m n a' w) (L:=marked m 0 (Array.replicate l.length false)) (fun a' h => h) (l.take m) 0 (Array.replicate l.length false) a (fun j hj => by
  have hj' : j < m:=by rw [htl] at hj; exact hj
  simp [hj']) (by simpa using htl) inv0 (by rw [htl]; exact hlex) (by rw [htl]) h
 rw [htl,show m + (l.length - m) = l.length by omega] at H
 refine wp_region_any hm (zcv (n:=n) _ _ _ _ ?_)
 have:=wpG.ext H (Ext.drew w)
 simpa using this
/-! ### what stands behind them -/
theorem zbp {i : Nat} {o : Oper} {K : Act → World → Prop} {a : Act} {w : World} (ho : ops[i]? = some o) (hg : o.guard = none) (h : o.wp P a w K Q) : wpOp P ops Q i K a w :=
 wpOp_step ho fun _ hK => by rw [if_pos (by simp [Region.wanted,hg])]; exact Oper.wp_mono hK h
theorem zfa {o : Oper} {a : Act} {w : World} {K : Act → World → Prop} {ty : TypeId} {zs : Array Value} {t : TypeId} (ho : o.op = .alloc ty)
  (hz : ∀ W,(Instr.alloc ty true (.tuple #[])).run P W = .ok (.pointer (some ⟨W.heap.size,0,none⟩)) (W.alloc (.cells zs t)))
  (h : K (a.put o.dst (.pointer (some ⟨w.heap.size,0,none⟩))) (w.alloc (.cells zs t))) : o.wp P a w K Q:=by
 unfold Oper.wp execOp
 simp only [ho,Sem.run_bind,hz w,Result.andThen_ok,Sem.run_pure]
 exact h
theorem zae (w : World) (o : Obj) : (w.alloc o).heap[w.heap.size]? = some o:=by
 show (w.heap.push o)[w.heap.size]? = _
 simp
theorem zas {w W : World} {g : Nat} (h : Ext w W) (hg : w.heap.size ≤ g) (cs : Array Value) : Ext w (W.setRow g cs):=zcr h hg cs
theorem but_setRow {w W : World} {r : Nat} (h : But r w W) (cs : Array Value) : But r w (W.setRow r cs) :=
 ⟨h.os,h.tape,h.output,by simpa [World.setRow] using h.size,fun k hk hne => (zaj W cs (by simpa using hne)).trans (h.block k hk hne)⟩
theorem but_ext {w W : World} {r : Nat} (h : Ext w W) : But r w W:=But.of_below h
abbrev ptrTo (g : Nat) : Value:=.pointer (some ⟨g,0,none⟩)
section
variable {l : List Oper} {m : Nat} {a : Act} {w : World} {ty t : TypeId} {zs cells old : Array Value} {d : Tmp} {y x : Operand} {r : Nat}
theorem rest_done (hlen : l.length = m) (hr : Region.ready .any l.toArray (marked m 0 (Array.replicate l.length false)) = []) (h : ∀ W,Ext w W → Q .normal a W) : Rest P l Q m m a w:=by
 unfold Rest
 rw [hlen,Nat.sub_self]
 rw [hlen] at hr
 exact ⟨hr,h⟩
end
/-! ### a region in its own order -/
def PRest (P : Program) (l : List Oper) (Q : Exit → Act → World → Prop) (m : Nat) (a : Act) (w : World) : Prop:=∀ W,Ext w W → wpList P l.toArray Q (l.drop m) a W
theorem plain_lex {w : World} {R : Act → Prop} {rest : List Oper} (hR : ∀ a,R a → ∀ W,Ext w W → wpList P ops Q rest a W) : ∀ (l : List Oper) (a : Act),wpMk P ops w R l a → ∀ W,Ext w W → wpList P ops Q (l ++ rest) a W
 | [],a,h,W,hW => hR a h W hW
 | o :: l,a,⟨v,hy,hK⟩,W,hW => wpList_step fun K hK' => by
  rcases hy with ⟨hw,hv⟩ | ⟨hw,rfl⟩
  ·
   rw [if_pos hw]
   exact hv.wp hW fun W' hW' => hK' _ _ (plain_lex hR l _ hK W' (hW.trans hW'))
  ·
   rw [if_neg (by simp [hw])]
   exact hK' _ _ (plain_lex hR l _ hK W hW)
theorem wp_region_plain {id : Nat} (m : Nat) {a : Act} {w : World} {l : List Oper} (h : wpMk P l.toArray w (fun a' => PRest P l Q m a' w) (l.take m) a) : (Code.region id l.toArray false).wp P Q a w:=by
 refine wp_region_lit ?_
 have:=plain_lex (P:=P) (ops:=l.toArray) (Q:=Q) (w:=w) (rest:=l.drop m) (R:=fun a' => PRest P l Q m a' w) (fun a' h => h) (l.take m) a h w (Ext.refl w)
 rwa [List.take_append_drop] at this
section
variable {l : List Oper} {m : Nat} {a : Act} {w : World} {ty t : TypeId} {zs cells old : Array Value} {d : Tmp} {y x : Operand} {r : Nat}
theorem prest_store (os : Oper) (hl : l.drop m = [os]) (ho : os.op = .store ty x y) (hd : os.dst = none) (hg : os.guard = none)
  (hx : a.eval x = ptrTo r) (hy : a.eval y = .agg cells) (hb : w.heap[r]? = some (.cells old t (0,0))) (hi : (P.info? ty).map (·.size) = some cells.size) (hold : old.size = cells.size) (h1 : cells.all (·.oneCell') = true)
  (h : ∀ W,But r w W → W.heap[r]? = some (.cells cells t (0,0)) → Q .normal a W) : PRest P l Q m a w:=fun W hW => by
 rw [hl]
 refine wpList_plain hg fun K hK => wp_store_row ty x y ho r cells hx hy t old (hW.block hb) hi hold h1 (hK _ _ (wpList_nil ?_))
 rw [hd]
 exact h _ (but_setRow (but_ext hW) cells) (setRow_heap W r old cells t (0,0) (hW.block hb))
theorem wpl_var {rest : List Oper} (oa os : Oper) (hoa2 : oa.op = .alloc ty) (ho : os.op = .store ty (.tmp d) y) (hda : oa.dst = some d) (hd : os.dst = none) (hga : oa.guard = none) (hg : os.guard = none)
  (hz : ∀ W,(Instr.alloc ty true (.tuple #[])).run P W = .ok (ptrTo W.heap.size) (W.alloc (.cells zs t)))
  (hx : ∀ g,(a.put (some d) (ptrTo g)).eval (.tmp d) = ptrTo g) (hy : ∀ g,(a.put (some d) (ptrTo g)).eval y = .agg cells) (hi : (P.info? ty).map (·.size) = some cells.size) (hold : zs.size = cells.size) (h1 : cells.all (·.oneCell') = true)
  (h : ∀ g W,w.heap.size ≤ g → W.heap[g]? = some (.cells cells t (0,0)) → Ext w W → wpList P ops Q rest (a.put (some d) (ptrTo g)) W) : wpList P ops Q (oa :: os :: rest) a w:=by
 refine wpList_plain hga fun K hK => zfa hoa2 hz (hK _ _ ?_)
 refine wpList_plain hg fun K hK => ?_
 rw [hda]
 refine wp_store_row ty _ y ho w.heap.size cells (hx _) (hy _) t zs (zae _ _) hi hold h1 (hK _ _ ?_)
 rw [hd]
 exact h w.heap.size _ (Nat.le_refl _) (setRow_heap _ _ zs cells t (0,0) (zae _ _)) (zas (Ext.alloc _ _) (Nat.le_refl _) cells)
theorem prest_var' {rest : List Oper} (oa os : Oper) (hl : l.drop m = oa :: os :: rest) (hoa2 : oa.op = .alloc ty) (ho : os.op = .store ty (.tmp d) y) (hda : oa.dst = some d) (hd : os.dst = none) (hga : oa.guard = none) (hg : os.guard = none)
  (hz : ∀ W,(Instr.alloc ty true (.tuple #[])).run P W = .ok (ptrTo W.heap.size) (W.alloc (.cells zs t)))
  (hx : ∀ g,(a.put (some d) (ptrTo g)).eval (.tmp d) = ptrTo g) (hy : ∀ g,(a.put (some d) (ptrTo g)).eval y = .agg cells) (hi : (P.info? ty).map (·.size) = some cells.size) (hold : zs.size = cells.size) (h1 : cells.all (·.oneCell') = true)
  (h : ∀ g W,w.heap.size ≤ g → W.heap[g]? = some (.cells cells t (0,0)) → Ext w W → wpList P l.toArray Q rest (a.put (some d) (ptrTo g)) W) : PRest P l Q m a w:=fun W hW => by
 rw [hl]
 exact wpl_var oa os hoa2 ho hda hd hga hg hz hx hy hi hold h1 fun g W' h1 h2 h3 => h g W' (Nat.le_trans (Below.size hW) h1) h2 (hW.trans h3)
end
/-! ### the walk's frame,kept from the rest -/
theorem zga {w : World} {R R' : Act → Prop} (h : ∀ a,R a → R' a) : ∀ {l : List Oper} {a : Act},wpMk P ops w R l a → wpMk P ops w R' l a
 | [],_,hh => h _ hh
 | _ :: _,_,⟨v,hy,hK⟩ => ⟨v,hy,zga h hK⟩
theorem mk_ops {w : World} {R : Act → Prop} : ∀ {l : List Oper} {a : Act},(l.all fun o => o.guard.isNone) = true → wpMk P #[] w R l a → wpMk P ops w R l a
 | [],_,_,hh => hh
 | o :: l,a,hg,⟨v,hy,hK⟩ => by
  simp only [List.all_cons,Bool.and_eq_true,Option.isNone_iff_eq_none] at hg
  refine ⟨v,?_,mk_ops hg.2 hK⟩
  have h1 : ∀ X : Array Oper,Region.wanted o (yielded X a.tmps) = true:=fun X => by simp [Region.wanted,hg.1]
  rcases hy with ⟨_,hm⟩ | ⟨hw,_⟩
  ·
   exact .inl ⟨h1 _,hm⟩
  ·
   rw [h1] at hw; cases hw
theorem wp_made {id m : Nat} {A : Act} (n : Nat) {a : Act} {w : World} {l : List Oper} (hm : P.follows .mixedOrders = true) (hB : madeB l m n = true) (hg : ((l.take m).all fun o => o.guard.isNone) = true)
  (h : wpMk P #[] w (fun a' => a' = A) (l.take m) a) (h2 : Rest P l (NoPanic Q) m n A w) : (Code.region id l.toArray true).wp P Q a w :=
 wp_region_noPanic (zdz n hm hB (fun _ _ _ _ _ h => h) (mk_ops hg (zga (fun a' e => by subst e; exact h2) h)))
theorem wp_plain {id m : Nat} {A : Act} {a : Act} {w : World} {l : List Oper} (hg : ((l.take m).all fun o => o.guard.isNone) = true)
  (h : wpMk P #[] w (fun a' => a' = A) (l.take m) a) (h2 : PRest P l Q m A w) : (Code.region id l.toArray false).wp P Q a w :=
 wp_region_plain m (mk_ops hg (zga (fun a' e => by subst e; exact h2) h))
theorem mk_end {w : World} {a : Act} : wpMk P ops w (fun a' => a' = a) [] a:=rfl
/-! ### operations -/
section
variable {o : Oper} {a : Act} {w : World}
theorem zba {v : Value} (h : ∀ W,Ext w W → (execOp a.eval o).run P W = .ok (.value v) W) : Made P o v a w:=fun W hW => by
 rw [h W hW]
 exact ⟨rfl,Ext.refl W⟩
theorem made_call {v : Value} {f : FuncId} {args : Array Value} (h : ∀ W,(execOp a.eval o).run P W = .ok (.enter f args) W) (hc : ∀ W,Ext w W → Calls P f args W fun e W' => e = .returned v ∧ Ext W W') : Made P o v a w:=fun W hW => by
 rw [h W]
 exact hc W hW
theorem made_load {ty : TypeId} {x : Operand} {g off t : Nat} {C : Array Value} {cs : List Value} {fr : Nat × Nat} {d : TypeDesc} (ho : o.op = .load ty x) (hx : a.eval x = .pointer (some ⟨g,off,none⟩)) (hb : w.heap[g]? = some (.cells C t fr))
  (hcs : (C.toList.drop off).take cs.length = cs) (hu : P.underlying ty = some d) (hd : d.isRow = true) (hi : (P.info? ty).map (·.size) = some cs.length) : Made P o (.agg cs.toArray) a w:=zba fun W hW => by
 have hr : W.rangeAt g off cs:=fun j v hv => by
  rw [cell_of_row W g (off + j) C t fr (hW.block hb)]
  have hj : j < cs.length:=(List.getElem?_eq_some_iff.1 hv).1
  rw [← hcs,List.getElem?_take_of_lt hj,List.getElem?_drop] at hv
  simpa using hv
 unfold execOp
 simp only [ho,hx,Instr.loadAt,Instr.sureAddr,Sem.run_bind,Sem.run_pure,Result.andThen_ok,run_loadVar_mid W g off ty cs d hr hu hd hi]
theorem made_load1 {ty : TypeId} {x : Operand} {g off t : Nat} {C : Array Value} {v : Value} {fr : Nat × Nat} (ho : o.op = .load ty x) (hx : a.eval x = .pointer (some ⟨g,off,none⟩)) (hb : w.heap[g]? = some (.cells C t fr))
  (hcs : C[off]? = some v) (hn : ∀ W,(isAgg ty).run P W = .ok false W) : Made P o v a w:=zba fun W hW => by
 have hr : W.cell? ⟨g,off,none⟩ = some v:=by rw [cell_of_row W g off C t fr (hW.block hb),hcs]
 have hl : (load ⟨g,off,none⟩).run P W = .ok v W:=by simp [go_sem,hr]
 unfold execOp
 simp only [ho,hx,Instr.loadAt,Instr.sureAddr,Sem.run_bind,Sem.run_pure,Result.andThen_ok,loadVar,hn W,Bool.false_eq_true,if_false,hl]
theorem zca {x : Operand} {v : Value} (ho : o.op = .move x ∨ o.op = .assign x) (hx : a.eval x = v) : Made P o v a w:=zba fun W _ => by
 unfold execOp
 rcases ho with ho | ho <;> simp only [ho,hx,Sem.run_pure]
theorem made_ext {x : Operand} {i : Nat} {vs : Array Value} {v : Value} (ho : o.op = .extract x i) (hx : a.eval x = .tuple vs) (hv : vs[i]? = some v) : Made P o v a w:=zba fun W _ => by
 unfold execOp
 simp only [ho]
 generalize a.eval = ρ at *
 rw [hx]
 simp [Instr.extract,go_sem,hv]
end
end
end Go.Proofs.YtihophdbkjhopaaDoor
