/-
  Of T0 K0 K1 Rca Math Mem Row.
-/
import Derived.Test.YtihophdbkjhopaaGreatDoorRows
import Derived.WalkKit
import Derived.Deep.OwnRows
import Derived.Deep.Draws
import Derived.Laws.Rows
import Derived.Deep.QuietTactic
import Derived.Deep.MidRow
import Derived.Deep.WholeRow
import Derived.ChangeKeysEq
set_option maxRecDepth 1000000
set_option maxHeartbeats 20000000
namespace Go.Proofs.YtihophdbkjhopaaGreatDoor
abbrev Fd:=Int × List Nat
def tgF (fs : List Fd) (i : Nat) : Int:=(fs.getD i (0,[])).1
def bsF (fs : List Fd) (i : Nat) : List Nat:=(fs.getD i (0,[])).2
def okF (fs : List Fd) (i : Nat) : Prop:=1 ≤ tgF fs i ∧ tgF fs i ≤ 255 ∧ (bsF fs i).length ≤ 65535 ∧ (0 < i → tgF fs (i - 1) < tgF fs i)
instance (fs : List Fd) (i : Nat) : Decidable (okF fs i):=by unfold okF; exact inferInstance
def mayFs (fs : List Fd) : Bool:=decide (fs.length ≤ 64 ∧ ∀ i,i < fs.length → okF fs i)
def Byt (bs : List Nat) : Prop:=∀ b ∈ bs,b < 256
theorem Byt.getD {bs : List Nat} (h : Byt bs) (i : Nat) : bs.getD i 0 < 256:=by
 rw [List.getD_eq_getElem?_getD]
 by_cases hi : i < bs.length
 ·
  rw [List.getElem?_eq_getElem hi]; exact h _ (List.getElem_mem hi)
 ·
  rw [List.getElem?_eq_none (by omega)]; decide
theorem Byt.append {a b : List Nat} (ha : Byt a) (hb : Byt b) : Byt (a ++ b):=fun x hx => (List.mem_append.1 hx).elim (ha x) (hb x)
theorem Byt.drop {a : List Nat} (h : Byt a) (n : Nat) : Byt (a.drop n):=fun x hx => h x (List.mem_of_mem_drop hx)
theorem Byt.take {a : List Nat} (h : Byt a) (n : Nat) : Byt (a.take n):=fun x hx => h x (List.mem_of_mem_take hx)
def BytF (fs : List Fd) : Prop:=∀ f ∈ fs,Byt f.2
/-! ### a field's bytes -/
def hdr (f : Fd) : List Nat:=[(f.1 % 256).toNat,f.2.length / 256 % 256,f.2.length % 256]
def enc1 (f : Fd) : List Nat:=hdr f ++ f.2
def encF : List Fd → List Nat
 | [] => []
 | f :: r => enc1 f ++ encF r
theorem zhz : ∀ a b : List Fd,encF (a ++ b) = encF a ++ encF b
 | [],b => rfl
 | f :: a,b => by
  show enc1 f ++ encF (a ++ b) = (enc1 f ++ encF a) ++ encF b
  rw [zhz a b,List.append_assoc]
theorem zia (f : Fd) : (enc1 f).length = 3 + f.2.length:=by unfold enc1 hdr; simp; omega
theorem zhy : ∀ (fs : List Fd) (m : Nat),(∀ f ∈ fs,f.2.length ≤ m) → (encF fs).length ≤ fs.length * (m + 3)
 | [],_,_ => by simp [encF]
 | f :: fs,m,h => by
  have h1:=zhy fs m fun g hg => h g (List.mem_cons_of_mem _ hg)
  have h2:=h f List.mem_cons_self
  show (enc1 f ++ encF fs).length ≤ _
  rw [List.length_append,zia,List.length_cons,Nat.add_mul]
  omega
theorem hdr_byt (f : Fd) : Byt (hdr f):=fun x hx => by
 unfold hdr at hx
 simp only [List.mem_cons,List.not_mem_nil,or_false] at hx
 omega
theorem enc1_byt {f : Fd} (h : Byt f.2) : Byt (enc1 f):=(hdr_byt f).append h
theorem encF_byt : ∀ {fs : List Fd},BytF fs → Byt (encF fs)
 | [],_ => fun x hx => by cases hx
 | f :: fs,h => (enc1_byt (h f List.mem_cons_self)).append (encF_byt fun g hg => h g (List.mem_cons_of_mem _ hg))
theorem encF_take (fs : List Fd) {i : Nat} (hi : i < fs.length) : encF (fs.take (i + 1)) = encF (fs.take i) ++ enc1 (tgF fs i,bsF fs i):=by
 have e : fs.getD i (0,[]) = fs[i]:=by rw [List.getD_eq_getElem?_getD,List.getElem?_eq_getElem hi]; rfl
 rw [List.take_add_one,List.getElem?_eq_getElem hi,zhz]
 congr 1
 show enc1 fs[i] ++ encF [] = _
 unfold tgF bsF
 rw [e]
 exact List.append_nil _
/-! ### the fields of bytes -/
def parseF : Nat → List Nat → Option (List Fd)
 | _,[] => some []
 | 0,_ :: _ => none
 | k + 1,t :: h :: l :: r => if 256 * h + l ≤ r.length then (parseF k (r.drop (256 * h + l))).map (((t : Int),r.take (256 * h + l)) :: ·) else none
 | _ + 1,_ => none
theorem parseF_fuel : ∀ (k m : Nat) (bs : List Nat),bs.length ≤ k → bs.length ≤ m → parseF k bs = parseF m bs
 | k,m,[],_,_ => by cases k <;> cases m <;> rfl
 | 0,_,b :: bs,h,_ => by simp at h
 | _,0,b :: bs,_,h => by simp at h
 | k + 1,m + 1,[a],_,_ => rfl
 | k + 1,m + 1,[a,b],_,_ => rfl
 | k + 1,m + 1,t :: h :: l :: r,h1,h2 => by
  simp only [List.length_cons] at h1 h2
  show (if _ then _ else _) = (if _ then _ else _)
  have hr : (r.drop (256 * h + l)).length ≤ r.length:=by rw [List.length_drop]; omega
  rw [parseF_fuel k m (r.drop (256 * h + l)) (by omega) (by omega)]
def parse (bs : List Nat) : Option (List Fd):=parseF bs.length bs
def getFs (bs : List Nat) : Option (List Fd):=(parse bs).filter mayFs
theorem ziu : parse [] = some []:=rfl
theorem zgs (t h l : Nat) (r : List Nat) : parse (t :: h :: l :: r) = if 256 * h + l ≤ r.length then (parse (r.drop (256 * h + l))).map (((t : Int),r.take (256 * h + l)) :: ·) else none:=by
 show (if _ then _ else _) = _
 by_cases hc : 256 * h + l ≤ r.length
 ·
  rw [if_pos hc,if_pos hc]
  unfold parse
  rw [parseF_fuel (h :: l :: r).length (r.drop (256 * h + l)).length _ (by rw [List.length_drop]; simp only [List.length_cons]; omega) (Nat.le_refl _)]
 ·
  rw [if_neg hc,if_neg hc]
theorem drop3 {bs : List Nat} {a : Nat} (h : a + 3 ≤ bs.length) : bs.drop a = bs.getD a 0 :: bs.getD (a + 1) 0 :: bs.getD (a + 2) 0 :: bs.drop (a + 3):=by
 have e : ∀ i,i < bs.length → bs.drop i = bs.getD i 0 :: bs.drop (i + 1):=fun i hi => by
  rw [List.drop_eq_getElem_cons hi,List.getD_eq_getElem?_getD,List.getElem?_eq_getElem hi]; rfl
 rw [e a (by omega),e (a + 1) (by omega),e (a + 2) (by omega)]
theorem parse_more {bs : List Nat} {a n : Nat} (h : a + 3 ≤ bs.length) (hn : n = 256 * bs.getD (a + 1) 0 + bs.getD (a + 2) 0) (hl : a + 3 + n ≤ bs.length) :
  parse (bs.drop a) = (parse (bs.drop (a + 3 + n))).map ((((bs.getD a 0 : Nat) : Int),(bs.drop (a + 3)).take n) :: ·):=by
 rw [drop3 h,zgs,← hn,List.length_drop,if_pos (by omega),List.drop_drop]
theorem parse_long {bs : List Nat} {a n : Nat} (h : a + 3 ≤ bs.length) (hn : n = 256 * bs.getD (a + 1) 0 + bs.getD (a + 2) 0) (hl : bs.length < a + 3 + n) : parse (bs.drop a) = none:=by
 rw [drop3 h,zgs,← hn,List.length_drop,if_neg (by omega)]
theorem parse_two {bs : List Nat} (h : bs.length < 3) (h0 : 0 < bs.length) : parse bs = none:=by
 match bs,h,h0 with
 | [a],_,_ => rfl
 | [a,b],_,_ => rfl
/-! ### what was put is got as it was -/
theorem mayFs_each {fs : List Fd} (h : mayFs fs = true) : ∀ f ∈ fs,0 ≤ f.1 ∧ f.1 ≤ 255 ∧ f.2.length ≤ 65535:=by
 intro f hf
 obtain ⟨i,hi,rfl⟩:=List.mem_iff_getElem.1 hf
 have h1:=(of_decide_eq_true h).2 i hi
 have e : fs.getD i (0,[]) = fs[i]:=by rw [List.getD_eq_getElem?_getD,List.getElem?_eq_getElem hi]; rfl
 unfold okF tgF bsF at h1
 rw [e] at h1
 exact ⟨by omega,h1.2.1,h1.2.2.1⟩
theorem enc_parse : ∀ (k : Nat) {bs : List Nat} {fs : List Fd},bs.length ≤ k → Byt bs → parse bs = some fs → encF fs = bs
 | _,[],fs,_,_,h => by
  rw [ziu] at h
  obtain rfl:=Option.some.inj h
  rfl
 | _,[a],fs,_,_,h => by cases h
 | _,[a,b],fs,_,_,h => by cases h
 | 0,t :: h :: l :: r,fs,hk,_,_ => by simp at hk
 | k + 1,t :: h :: l :: r,fs,hk,hb,he => by
  rw [zgs] at he
  split at he
  ·
   rename_i hc
   cases hp : parse (r.drop (256 * h + l)) with
   | none => rw [hp] at he; cases he
   | some gs =>
    rw [hp] at he
    obtain rfl:=Option.some.inj he
    have hbt:=hb t (by simp)
    have hbh:=hb h (by simp)
    have hbl:=hb l (by simp)
    have hr : Byt r:=fun x hx => hb x (by simp [hx])
    simp only [List.length_cons] at hk
    have ih:=enc_parse k (by rw [List.length_drop]; omega) (hr.drop _) hp
    show [((t : Int) % 256).toNat,(r.take (256 * h + l)).length / 256 % 256,(r.take (256 * h + l)).length % 256] ++ r.take (256 * h + l) ++ encF gs = _
    rw [ih,List.length_take,Nat.min_eq_left hc,List.append_assoc,List.take_append_drop]
    simp only [List.cons_append,List.nil_append]
    rw [show ((t : Int) % 256).toNat = t by omega,show (256 * h + l) / 256 % 256 = h by omega,show (256 * h + l) % 256 = l by omega]
  ·
   cases he
theorem zma {bs : List Nat} {fs : List Fd} (h : getFs bs = some fs) : parse bs = some fs ∧ mayFs fs = true:=by
 unfold getFs at h
 rwa [Option.filter_eq_some_iff] at h
theorem enc_get {bs : List Nat} {fs : List Fd} (hb : Byt bs) (h : getFs bs = some fs) : encF fs = bs:=enc_parse bs.length (Nat.le_refl _) hb (zma h).1
theorem parse_byt : ∀ (k : Nat) {bs : List Nat} {fs : List Fd},bs.length ≤ k → Byt bs → parse bs = some fs → BytF fs
 | _,[],fs,_,_,h => by
  rw [ziu] at h
  obtain rfl:=Option.some.inj h
  intro f hf
  cases hf
 | _,[a],fs,_,_,h => by cases h
 | _,[a,b],fs,_,_,h => by cases h
 | 0,t :: h :: l :: r,fs,hk,_,_ => by simp at hk
 | k + 1,t :: h :: l :: r,fs,hk,hb,he => by
  rw [zgs] at he
  split at he
  ·
   cases hp : parse (r.drop (256 * h + l)) with
   | none => rw [hp] at he; cases he
   | some gs =>
    rw [hp] at he
    obtain rfl:=Option.some.inj he
    have hr : Byt r:=fun x hx => hb x (by simp [hx])
    simp only [List.length_cons] at hk
    intro f hf
    rcases List.mem_cons.1 hf with rfl | hf
    ·
     exact hr.take _
    ·
     exact parse_byt k (by rw [List.length_drop]; omega) (hr.drop _) hp f hf
  ·
   cases he
theorem get_byt {bs : List Nat} {fs : List Fd} (hb : Byt bs) (h : getFs bs = some fs) : BytF fs:=parse_byt bs.length (Nat.le_refl _) hb (zma h).1
/-! ### numbers -/
def numB (n : Int) : List Nat:=(List.range 8).map fun i => (n % 18446744073709551616).toNat / 256 ^ (7 - i) % 256
def valB (bs : List Nat) : Nat:=bs.foldl (fun n b => 256 * n + b) 0
def ofB (bs : List Nat) : Int:=if bs.length = 8 ∧ bs.getD 0 0 ≤ 127 then (valB bs : Nat) else -1
theorem zbz (n : Int) : (numB n).length = 8:=by simp [numB]
theorem numB_byt (n : Int) : Byt (numB n):=fun x hx => by
 simp only [numB,List.mem_map] at hx
 obtain ⟨i,_,rfl⟩:=hx
 exact Nat.mod_lt _ (by decide)
theorem valB_snoc (bs : List Nat) (b : Nat) : valB (bs ++ [b]) = 256 * valB bs + b:=by simp [valB]
theorem zcf {bs : List Nat} {i : Nat} (hi : i < bs.length) : valB (bs.take (i + 1)) = 256 * valB (bs.take i) + bs.getD i 0:=by
 rw [List.take_add_one,List.getElem?_eq_getElem hi,List.getD_eq_getElem?_getD,List.getElem?_eq_getElem hi]
 exact valB_snoc _ _
theorem valB_lt {bs : List Nat} (h : Byt bs) (h0 : bs.getD 0 0 ≤ 127) : ∀ i,i < bs.length → valB (bs.take (i + 1)) < 128 * 256 ^ i
 | 0,hi => by
  rw [zcf hi]
  simp [valB]
  simp only [List.getD_eq_getElem?_getD] at h0
  omega
 | i + 1,hi => by
  have h1:=valB_lt h h0 i (by omega)
  have h2:=h.getD (i + 1)
  rw [zcf hi,Nat.pow_succ]
  omega
theorem numB_of {bs : List Nat} (h : Byt bs) (h0 : 0 ≤ ofB bs) : numB (ofB bs) = bs:=by
 unfold ofB at h0 ⊢
 split at h0
 ·
  rename_i hc
  rw [if_pos hc]
  have key : ∀ i,i ≤ 8 → valB (bs.take i) = valB bs / 256 ^ (8 - i):=by
   intro i hi
   obtain ⟨d,hd⟩ : ∃ d,d = 8 - i:=⟨_,rfl⟩
   rw [← hd]
   induction d generalizing i with
   | zero =>
    obtain rfl : i = 8:=by omega
    rw [List.take_of_length_le (by omega),Nat.pow_zero,Nat.div_one]
   | succ d ih =>
    have h2:=ih (i + 1) (by omega) (by omega)
    rw [zcf (by omega)] at h2
    have h3:=h.getD i
    rw [Nat.pow_succ,← Nat.div_div_eq_div_mul,← h2]
    omega
  have hlt : valB bs < 18446744073709551616:=by
   have h1:=valB_lt h hc.2 7 (by omega)
   rw [List.take_of_length_le (by omega)] at h1
   have : (128 : Nat) * 256 ^ 7 = 9223372036854775808:=by decide
   omega
  apply List.ext_getElem?
  intro i
  by_cases hi : i < 8
  ·
   have h1:=key (i + 1) (by omega)
   rw [zcf (by omega)] at h1
   have h3:=h.getD i
   rw [List.getElem?_eq_getElem (by omega : i < bs.length)]
   have e : bs.getD i 0 = bs[i]'(by omega):=by rw [List.getD_eq_getElem?_getD,List.getElem?_eq_getElem (by omega : i < bs.length)]; rfl
   simp only [numB,List.getElem?_map,List.getElem?_range hi,Option.map_some]
   rw [← e,show 7 - i = 8 - (i + 1) by omega,show ((valB bs : Nat) : Int) % 18446744073709551616 = ((valB bs : Nat) : Int) by omega,Int.toNat_natCast,← h1]
   congr 1
   omega
  ·
   rw [List.getElem?_eq_none (by rw [zbz]; omega),List.getElem?_eq_none (by omega)]
 ·
  omega
end Go.Proofs.YtihophdbkjhopaaGreatDoor
namespace Go.Proofs.YtihophdbkjhopaaGreatDoor
/-! ### numbers as bytes,the highest first -/
def beB (k n : Nat) : List Nat:=(List.range k).map fun i => n / 256 ^ (k - 1 - i) % 256
theorem zdd (k n : Nat) : (beB k n).length = k:=by simp [beB]
theorem beB_byt (k n : Nat) : Byt (beB k n):=fun x hx => by
 simp only [beB,List.mem_map] at hx
 obtain ⟨i,_,rfl⟩:=hx
 exact Nat.mod_lt _ (by decide)
theorem beB_get (k n : Nat) {i : Nat} (hi : i < k) : (beB k n).getD i 0 = n / 256 ^ (k - 1 - i) % 256:=by
 rw [List.getD_eq_getElem?_getD]
 simp [beB,hi]
theorem valB_lt_pow {bs : List Nat} (h : Byt bs) : ∀ i,i ≤ bs.length → valB (bs.take i) < 256 ^ i
 | 0,_ => by simp [valB]
 | i + 1,hi => by
  have h1:=valB_lt_pow h i (by omega)
  have h2:=h.getD i
  rw [zcf (by omega),Nat.pow_succ]
  omega
theorem zhc {bs : List Nat} (h : Byt bs) : valB bs < 256 ^ bs.length:=by
 have:=valB_lt_pow h bs.length (Nat.le_refl _)
 rwa [List.take_length] at this
theorem beB_valB {bs : List Nat} {k : Nat} (h : Byt bs) (hk : bs.length = k) : beB k (valB bs) = bs:=by
 have key : ∀ d i,i + d = k → valB (bs.take i) = valB bs / 256 ^ d:=by
  intro d
  induction d with
  | zero =>
   intro i hi
   rw [List.take_of_length_le (by omega),Nat.pow_zero,Nat.div_one]
  | succ d ih =>
   intro i hi
   have h2:=ih (i + 1) (by omega)
   rw [zcf (by omega)] at h2
   have h3:=h.getD i
   rw [Nat.pow_succ,← Nat.div_div_eq_div_mul,← h2]
   omega
 apply List.ext_getElem?
 intro i
 by_cases hi : i < k
 ·
  have h1:=key (k - 1 - i) (i + 1) (by omega)
  rw [zcf (by omega)] at h1
  have h3:=h.getD i
  have e : bs.getD i 0 = bs[i]'(by omega):=by rw [List.getD_eq_getElem?_getD,List.getElem?_eq_getElem (by omega : i < bs.length)]; rfl
  rw [List.getElem?_eq_getElem (by omega : i < bs.length),List.getElem?_eq_getElem (by rw [zdd]; exact hi)]
  congr 1
  have e2:=beB_get k (valB bs) hi
  rw [List.getD_eq_getElem?_getD,List.getElem?_eq_getElem (by rw [zdd]; exact hi),Option.getD_some] at e2
  rw [e2,← e,← h1]
  omega
 ·
  rw [List.getElem?_eq_none (by rw [zdd]; omega),List.getElem?_eq_none (by omega)]
/-! ### signatures as bytes -/
def sigB (r s : Nat) : List Nat:=beB 32 r ++ beB 32 s
theorem zfh (r s : Nat) : (sigB r s).length = 64:=by simp [sigB,zdd]
theorem sigB_byt (r s : Nat) : Byt (sigB r s):=(beB_byt _ _).append (beB_byt _ _)
def sigR (bs : List Nat) : Nat:=valB (bs.take 32)
def sigS (bs : List Nat) : Nat:=valB (bs.drop 32)
theorem sig_fore {bs : List Nat} (h : Byt bs) (hl : bs.length = 64) : sigB (sigR bs) (sigS bs) = bs:=by
 unfold sigR sigS sigB
 rw [beB_valB (h.take 32) (by rw [List.length_take]; omega),beB_valB (h.drop 32) (by rw [List.length_drop]; omega),List.take_append_drop]
/-! ### fields of numbers -/
def numFs : Int → List Int → List Fd
 | _,[] => []
 | t,n :: r => (t,numB n) :: numFs (t + 1) r
theorem zei : ∀ (t : Int) (l : List Int),(numFs t l).length = l.length
 | _,[] => rfl
 | t,n :: r => by
  show (numFs (t + 1) r).length + 1 = r.length + 1
  rw [zei (t + 1) r]
theorem numFs_get : ∀ (t : Int) (l : List Int) (i : Nat),i < l.length → tgF (numFs t l) i = t + i ∧ bsF (numFs t l) i = numB (l.getD i 0)
 | _,[],_,h => by simp at h
 | t,n :: r,0,_ => ⟨by show t = t + ((0 : Nat) : Int); omega,rfl⟩
 | t,n :: r,i + 1,h => by
  obtain ⟨h1,h2⟩:=numFs_get (t + 1) r i (by simpa using h)
  refine ⟨?_,h2⟩
  show tgF (numFs (t + 1) r) i = _
  rw [h1]
  omega
theorem numFs_snoc : ∀ (t : Int) (l : List Int) (n : Int),numFs t (l ++ [n]) = numFs t l ++ [(t + (l.length : Int),numB n)]
 | t,[],n => by
  show [(t,numB n)] = [(t + ((0 : Nat) : Int),numB n)]
  rw [show t + ((0 : Nat) : Int) = t by omega]
 | t,m :: r,n => by
  show (t,numB m) :: numFs (t + 1) (r ++ [n]) = (t,numB m) :: (numFs (t + 1) r ++ _)
  rw [numFs_snoc (t + 1) r n]
  congr 3
  simp only [List.length_cons]
  congr 1
  omega
theorem numFs_may {l : List Int} (h : l.length ≤ 64) : mayFs (numFs 1 l) = true:=by
 refine decide_eq_true ⟨by rw [zei]; exact h,fun i hi => ?_⟩
 rw [zei] at hi
 obtain ⟨h1,h2⟩:=numFs_get 1 l i hi
 unfold okF
 rw [h1,h2,zbz]
 refine ⟨by omega,by omega,by omega,fun h0 => ?_⟩
 obtain ⟨h3,_⟩:=numFs_get 1 l (i - 1) (by omega)
 rw [h3]
 omega
theorem numFs_byt : ∀ (t : Int) (l : List Int),BytF (numFs t l)
 | _,[] => fun f hf => by cases hf
 | t,n :: r => fun f hf => by
  rcases List.mem_cons.1 hf with rfl | hf
  ·
   exact numB_byt n
  ·
   exact numFs_byt (t + 1) r f hf
def numsOk (fs : List Fd) (many : Nat) : Prop:=fs.length = many ∧ ∀ i,i < many → tgF fs i = (i : Int) + 1 ∧ 0 ≤ ofB (bsF fs i)
instance (fs : List Fd) (many : Nat) : Decidable (numsOk fs many):=by unfold numsOk; exact inferInstance
def bodyB (l : List Int) : List Nat:=encF (numFs 1 l)
end Go.Proofs.YtihophdbkjhopaaGreatDoor
namespace Go.Proofs.YtihophdbkjhopaaGreatDoor
def signedB (body : List Nat) (r s : Nat) : List Nat:=encF [(1,body),(2,sigB r s)]
def twoOk (fs : List Fd) : Prop:=fs.length = 2 ∧ tgF fs 0 = 1 ∧ tgF fs 1 = 2 ∧ (bsF fs 1).length = 64
instance (fs : List Fd) : Decidable (twoOk fs):=by unfold twoOk; exact inferInstance
def partsB (bs : List Nat) : Option (List Nat × Nat × Nat):=match getFs bs with
 | some fs => if twoOk fs then some (bsF fs 0,sigR (bsF fs 1),sigS (bsF fs 1)) else none
 | none => none
theorem two_may {body : List Nat} {r s : Nat} (h : body.length ≤ 65535) : mayFs [(1,body),(2,sigB r s)] = true:=by
 refine decide_eq_true ⟨(by decide : (2 : Nat) ≤ 64),fun i hi => ?_⟩
 match i,hi with
 | 0,_ => exact ⟨(by decide : (1 : Int) ≤ 1),(by decide : (1 : Int) ≤ 255),h,fun h => absurd h (by decide)⟩
 | 1,_ => exact ⟨(by decide : (1 : Int) ≤ 2),(by decide : (2 : Int) ≤ 255),(zfh r s).symm ▸ (by decide : (64 : Nat) ≤ 65535),fun _ => (by decide : (1 : Int) < 2)⟩
theorem signed_parts {bs body : List Nat} {r s : Nat} (hb : Byt bs) (h : partsB bs = some (body,r,s)) : signedB body r s = bs ∧ Byt body ∧ body.length ≤ 65535 ∧ r < 256 ^ 32 ∧ s < 256 ^ 32:=by
 unfold partsB at h
 cases hg : getFs bs with
 | none => rw [hg] at h; cases h
 | some fs =>
  rw [hg] at h
  simp only at h
  split at h
  ·
   rename_i hok
   injection h with h
   injection h with h1 h
   injection h with h2 h3
   obtain ⟨hl,t0,t1,h64⟩:=hok
   have hB:=get_byt hb hg
   match fs,hl with
   | [(a,x),(c,y)],_ =>
    have hx : Byt x:=hB (a,x) (by simp)
    have hy : Byt y:=hB (c,y) (by simp)
    have e0 : a = 1:=t0
    have e1 : c = 2:=t1
    have e2 : y.length = 64:=h64
    have m0:=mayFs_each (zma hg).2 (a,x) (by simp)
    subst e0 e1
    have g1 : x = body:=h1
    have g2 : sigR y = r:=h2
    have g3 : sigS y = s:=h3
    subst g1 g2 g3
    refine ⟨?_,hx,m0.2.2,?_,?_⟩
    ·
     unfold signedB
     rw [sig_fore hy e2]
     exact enc_get hb hg
    ·
     have:=zhc (hy.take 32)
     rw [List.length_take,e2] at this
     exact this
    ·
     have:=zhc (hy.drop 32)
     rw [List.length_drop,e2] at this
     exact this
  ·
   cases h
end Go.Proofs.YtihophdbkjhopaaGreatDoor
namespace Go.Proofs.YtihophdbkjhopaaGreatDoor
structure Rc where
 dv : Int
 sq : Int
 mi : Int
 kd : Int
 st : Int
 zn : Int
 sr : Int
 vd : Int
 pv : List Nat
 bs : List Nat
def Rc.nums (r : Rc) : List Int:=[r.dv,r.sq,r.mi,r.kd,r.st,r.zn,r.sr,r.vd]
def rgC (r : Rc) : Bool:=decide (1 ≤ r.dv ∧ r.dv ≤ 2147483647 ∧ 0 ≤ r.sq ∧ r.sq ≤ 1073741824 ∧ 0 ≤ r.mi ∧ r.mi ≤ 1073741824 ∧ 0 ≤ r.st ∧ r.st ≤ 31 ∧ 0 ≤ r.zn ∧ r.zn ≤ 7 ∧ 0 ≤ r.sr ∧ r.sr ≤ 2147483647)
def kdC (r : Rc) : Bool:=if r.kd = 1 then decide (1 ≤ r.vd ∧ r.vd ≤ 7 ∧ r.bs.length ≤ 500) else decide ((r.kd = 2 ∨ r.kd = 3) ∧ r.vd = 0 ∧ r.bs.length = 0)
def mayC (r : Rc) : Bool:=rgC r && kdC r
theorem mayC_is {r : Rc} (h : mayC r = true) : rgC r = true ∧ kdC r = true:=by
 unfold mayC at h
 simpa using h
theorem zen {r : Rc} (h : mayC r = true) : (∀ n ∈ r.nums,0 ≤ n ∧ n ≤ 2147483647) ∧ r.bs.length ≤ 500:=by
 obtain ⟨h1,h2⟩:=mayC_is h
 have h1:=of_decide_eq_true h1
 have h3 : 0 ≤ r.kd ∧ r.kd ≤ 3 ∧ 0 ≤ r.vd ∧ r.vd ≤ 7 ∧ r.bs.length ≤ 500:=by
  unfold kdC at h2
  split at h2
  ·
   have:=of_decide_eq_true h2
   omega
  ·
   have:=of_decide_eq_true h2
   omega
 refine ⟨fun n hn => ?_,h3.2.2.2.2⟩
 simp only [Rc.nums,List.mem_cons,List.not_mem_nil,or_false] at hn
 rcases hn with rfl | rfl | rfl | rfl | rfl | rfl | rfl | rfl <;> omega
def WfC (r : Rc) : Prop:=r.pv.length = 32 ∧ Byt r.pv ∧ Byt r.bs
def flC (r : Rc) : List Fd:=numFs 1 r.nums ++ [(9,r.pv),(10,r.bs)]
def rcB (r : Rc) : List Nat:=encF (flC r)
theorem rcB_two (r : Rc) : rcB r = bodyB r.nums ++ encF [(9,r.pv),(10,r.bs)]:=zhz _ _
theorem flC_ten (r : Rc) : flC r = [(1,numB r.dv),(2,numB r.sq),(3,numB r.mi),(4,numB r.kd),(5,numB r.st),(6,numB r.zn),(7,numB r.sr),(8,numB r.vd),(9,r.pv),(10,r.bs)]:=rfl
theorem flC_may {r : Rc} (h1 : r.pv.length = 32) (h2 : r.bs.length ≤ 65535) : mayFs (flC r) = true:=by
 refine decide_eq_true ⟨(by decide : (10 : Nat) ≤ 64),fun i hi => ?_⟩
 have n8 : ∀ n,(numB n).length ≤ 65535:=fun n => by rw [zbz]; decide
 rw [flC_ten] at hi ⊢
 match i,hi with
 | 0,_ => exact ⟨(by decide : (1 : Int) ≤ 1),(by decide : (1 : Int) ≤ 255),n8 _,fun h => absurd h (by decide)⟩
 | 1,_ => exact ⟨(by decide : (1 : Int) ≤ 2),(by decide : (2 : Int) ≤ 255),n8 _,fun _ => (by decide : (1 : Int) < 2)⟩
 | 2,_ => exact ⟨(by decide : (1 : Int) ≤ 3),(by decide : (3 : Int) ≤ 255),n8 _,fun _ => (by decide : (2 : Int) < 3)⟩
 | 3,_ => exact ⟨(by decide : (1 : Int) ≤ 4),(by decide : (4 : Int) ≤ 255),n8 _,fun _ => (by decide : (3 : Int) < 4)⟩
 | 4,_ => exact ⟨(by decide : (1 : Int) ≤ 5),(by decide : (5 : Int) ≤ 255),n8 _,fun _ => (by decide : (4 : Int) < 5)⟩
 | 5,_ => exact ⟨(by decide : (1 : Int) ≤ 6),(by decide : (6 : Int) ≤ 255),n8 _,fun _ => (by decide : (5 : Int) < 6)⟩
 | 6,_ => exact ⟨(by decide : (1 : Int) ≤ 7),(by decide : (7 : Int) ≤ 255),n8 _,fun _ => (by decide : (6 : Int) < 7)⟩
 | 7,_ => exact ⟨(by decide : (1 : Int) ≤ 8),(by decide : (8 : Int) ≤ 255),n8 _,fun _ => (by decide : (7 : Int) < 8)⟩
 | 8,_ => exact ⟨(by decide : (1 : Int) ≤ 9),(by decide : (9 : Int) ≤ 255),(show r.pv.length ≤ 65535 by omega),fun _ => (by decide : (8 : Int) < 9)⟩
 | 9,_ => exact ⟨(by decide : (1 : Int) ≤ 10),(by decide : (10 : Int) ≤ 255),h2,fun _ => (by decide : (9 : Int) < 10)⟩
theorem zew {r : Rc} (h : r.pv.length = 32) : (rcB r).length = 126 + r.bs.length:=by
 unfold rcB
 rw [flC_ten]
 simp only [encF,List.length_append,zia,zbz,List.length_nil,h]
 omega
theorem rcB_byt {r : Rc} (h : WfC r) : Byt (rcB r):=encF_byt fun f hf => by
 rcases List.mem_append.1 hf with hf | hf
 ·
  exact numFs_byt _ _ f hf
 ·
  rcases List.mem_cons.1 hf with rfl | hf
  ·
   exact h.2.1
  ·
   rw [List.mem_singleton.1 hf]
   exact h.2.2
/-! ### what bytes open as -/
def tenOk (fs : List Fd) : Prop:=fs.length = 10 ∧ (∀ i,i < 10 → tgF fs i = (i : Int) + 1) ∧ (∀ i,i < 8 → 0 ≤ ofB (bsF fs i)) ∧ (bsF fs 8).length = 32
instance (fs : List Fd) : Decidable (tenOk fs):=by unfold tenOk; exact inferInstance
def rcOf (fs : List Fd) : Rc:=⟨ofB (bsF fs 0),ofB (bsF fs 1),ofB (bsF fs 2),ofB (bsF fs 3),ofB (bsF fs 4),ofB (bsF fs 5),ofB (bsF fs 6),ofB (bsF fs 7),bsF fs 8,bsF fs 9⟩
def unB (body : List Nat) : Option Rc:=match getFs body with
 | some fs => if tenOk fs ∧ mayC (rcOf fs) = true then some (rcOf fs) else none
 | none => none
def openR (bs : List Nat) : Option (Rc × List Nat × Nat × Nat):=match partsB bs with
 | some (body,x,y) => match unB body with
  | some r => some (r,body,x,y)
  | none => none
 | none => none
theorem fl_rcOf {fs : List Fd} (h : tenOk fs) (hB : BytF fs) : flC (rcOf fs) = fs:=by
 obtain ⟨h10,ht,hn,_⟩:=h
 match fs,h10 with
 | [a0,a1,a2,a3,a4,a5,a6,a7,a8,a9],_ =>
  have t : ∀ i,i < 10 → tgF [a0,a1,a2,a3,a4,a5,a6,a7,a8,a9] i = (i : Int) + 1:=ht
  have b : ∀ i,i < 8 → numB (ofB (bsF [a0,a1,a2,a3,a4,a5,a6,a7,a8,a9] i)) = bsF [a0,a1,a2,a3,a4,a5,a6,a7,a8,a9] i:=fun i hi => numB_of (by
   unfold bsF
   rw [List.getD_eq_getElem?_getD,List.getElem?_eq_getElem (show i < 10 by omega)]
   exact hB _ (List.getElem_mem _)) (hn i hi)
  have e0 : (1,numB (ofB a0.2)) = a0:=Prod.ext (t 0 (by decide)).symm (b 0 (by decide))
  have e1 : (2,numB (ofB a1.2)) = a1:=Prod.ext (t 1 (by decide)).symm (b 1 (by decide))
  have e2 : (3,numB (ofB a2.2)) = a2:=Prod.ext (t 2 (by decide)).symm (b 2 (by decide))
  have e3 : (4,numB (ofB a3.2)) = a3:=Prod.ext (t 3 (by decide)).symm (b 3 (by decide))
  have e4 : (5,numB (ofB a4.2)) = a4:=Prod.ext (t 4 (by decide)).symm (b 4 (by decide))
  have e5 : (6,numB (ofB a5.2)) = a5:=Prod.ext (t 5 (by decide)).symm (b 5 (by decide))
  have e6 : (7,numB (ofB a6.2)) = a6:=Prod.ext (t 6 (by decide)).symm (b 6 (by decide))
  have e7 : (8,numB (ofB a7.2)) = a7:=Prod.ext (t 7 (by decide)).symm (b 7 (by decide))
  have e8 : (9,a8.2) = a8:=Prod.ext (t 8 (by decide)).symm rfl
  have e9 : (10,a9.2) = a9:=Prod.ext (t 9 (by decide)).symm rfl
  show [(1,numB (ofB a0.2)),(2,numB (ofB a1.2)),(3,numB (ofB a2.2)),(4,numB (ofB a3.2)),(5,numB (ofB a4.2)),(6,numB (ofB a5.2)),(7,numB (ofB a6.2)),(8,numB (ofB a7.2)),(9,a8.2),(10,a9.2)] = _
  rw [e0,e1,e2,e3,e4,e5,e6,e7,e8,e9]
theorem body_un {body : List Nat} {r : Rc} (hb : Byt body) (h : unB body = some r) : rcB r = body ∧ mayC r = true ∧ WfC r:=by
 unfold unB at h
 cases hg : getFs body with
 | none => rw [hg] at h; cases h
 | some fs =>
  rw [hg] at h
  simp only at h
  split at h
  ·
   rename_i hok
   injection h with h
   subst h
   have hB:=get_byt hb hg
   have byt : ∀ i,i < 10 → Byt (bsF fs i):=fun i hi => by
    unfold bsF
    rw [List.getD_eq_getElem?_getD,List.getElem?_eq_getElem (show i < fs.length by have:=hok.1.1; omega)]
    exact hB _ (List.getElem_mem _)
   refine ⟨?_,hok.2,hok.1.2.2.2,byt 8 (by decide),byt 9 (by decide)⟩
   unfold rcB
   rw [fl_rcOf hok.1 hB]
   exact enc_get hb hg
  ·
   cases h
theorem issue_open {bs body : List Nat} {r : Rc} {x y : Nat} (hb : Byt bs) (h : openR bs = some (r,body,x,y)) : signedB (rcB r) x y = bs ∧ mayC r = true ∧ WfC r ∧ body = rcB r ∧ x < 256 ^ 32 ∧ y < 256 ^ 32 ∧ partsB bs = some (body,x,y):=by
 unfold openR at h
 cases hp : partsB bs with
 | none => rw [hp] at h; cases h
 | some z =>
  obtain ⟨body',x',y'⟩:=z
  rw [hp] at h
  simp only at h
  obtain ⟨g1,g2,_,g4,g5⟩:=signed_parts hb hp
  cases hu : unB body' with
  | none => rw [hu] at h; cases h
  | some r' =>
   rw [hu] at h
   simp only at h
   injection h with h
   injection h with h1 h
   injection h with h2 h
   injection h with h3 h4
   subst h1 h2 h3 h4
   obtain ⟨k1,k2,k3⟩:=body_un g2 hu
   exact ⟨by rw [k1]; exact g1,k2,k3,k1.symm,g4,g5,rfl⟩
/-! ### chains -/
def nilD : List Nat:=List.replicate 32 0
def linkR (dg : List Nat → Nat → Nat) (vf : (Nat → Nat) → Nat → Nat → Bool) (dev : Int) (i : Nat) (last bs : List Nat) : Option (List Nat):=match openR bs with
 | some (r,body,x,y) => if r.dv = dev ∧ r.sq = (i : Int) ∧ r.pv = last ∧ vf (dg body) x y = true then some ((List.range 32).map (dg body)) else none
 | none => none
def chainR (dg : List Nat → Nat → Nat) (vf : (Nat → Nat) → Nat → Nat → Bool) (dev : Int) : Nat → List Nat → List (List Nat) → Nat
 | _,_,[] => 0
 | i,last,b :: l => match linkR dg vf dev i last b with
  | some last' => chainR dg vf dev (i + 1) last' l + 1
  | none => 0
section
variable {dg : List Nat → Nat → Nat} {vf : (Nat → Nat) → Nat → Nat → Bool} {dev : Int}
theorem chainR_some {i : Nat} {last last' b : List Nat} {l : List (List Nat)} (h : linkR dg vf dev i last b = some last') : chainR dg vf dev i last (b :: l) = chainR dg vf dev (i + 1) last' l + 1:=by
 show (match linkR dg vf dev i last b with | some last' => chainR dg vf dev (i + 1) last' l + 1 | none => 0) = _
 rw [h]
theorem chainR_none {i : Nat} {last b : List Nat} {l : List (List Nat)} (h : linkR dg vf dev i last b = none) : chainR dg vf dev i last (b :: l) = 0:=by
 show (match linkR dg vf dev i last b with | some last' => chainR dg vf dev (i + 1) last' l + 1 | none => 0) = _
 rw [h]
inductive OnR (dg : List Nat → Nat → Nat) (vf : (Nat → Nat) → Nat → Nat → Bool) (dev : Int) (l : List (List Nat)) : Nat → List Nat → Prop
 | start : OnR dg vf dev l 0 nilD
 | more {k : Nat} {last b last' : List Nat} : OnR dg vf dev l k last → l[k]? = some b → linkR dg vf dev k last b = some last' → OnR dg vf dev l (k + 1) last'
theorem onR_drop {l : List (List Nat)} {k : Nat} {last : List Nat} (h : OnR dg vf dev l k last) : chainR dg vf dev 0 nilD l = k + chainR dg vf dev k last (l.drop k):=by
 induction h with
 | start => simp
 | @more k last b last' _ hb hl ih =>
  rw [ih]
  have hk : k < l.length:=(List.getElem?_eq_some_iff.1 hb).1
  have e : l.drop k = b :: l.drop (k + 1):=by
   rw [List.drop_eq_getElem_cons hk]
   congr 1
   exact (List.getElem?_eq_some_iff.1 hb).2
  rw [e,chainR_some hl]
  omega
theorem onR_end {l : List (List Nat)} {k : Nat} {last : List Nat} (h : OnR dg vf dev l k last) (hk : k = l.length) : chainR dg vf dev 0 nilD l = k:=by
 rw [onR_drop h,hk,List.drop_length]
 rfl
theorem zhn {l : List (List Nat)} {k : Nat} {last b : List Nat} (h : OnR dg vf dev l k last) (hb : l[k]? = some b) (hn : linkR dg vf dev k last b = none) : chainR dg vf dev 0 nilD l = k:=by
 rw [onR_drop h]
 have hk : k < l.length:=(List.getElem?_eq_some_iff.1 hb).1
 have e : l.drop k = b :: l.drop (k + 1):=by
  rw [List.drop_eq_getElem_cons hk]
  congr 1
  exact (List.getElem?_eq_some_iff.1 hb).2
 rw [e,chainR_none hn]
 rfl
end
end Go.Proofs.YtihophdbkjhopaaGreatDoor
namespace Go.Proofs.YtihophdbkjhopaaGreatDoor
def dg (B n i : Nat) : Nat:=n / B ^ i % B
def cy (B X Y i : Nat) : Nat:=(X % B ^ i + Y % B ^ i) / B ^ i
def bw (B X Y i : Nat) : Nat:=if X % B ^ i < Y % B ^ i then 1 else 0
theorem dg_lt {B : Nat} (hB : 0 < B) (n i : Nat) : dg B n i < B:=Nat.mod_lt _ hB
theorem zca (B n i : Nat) : n % B ^ (i + 1) = n % B ^ i + B ^ i * dg B n i:=by
 rw [Nat.pow_succ,Nat.mod_mul,dg]
theorem cy_zero (B X Y : Nat) : cy B X Y 0 = 0:=by simp [cy,Nat.mod_one]
theorem cy_le {B : Nat} (hB : 0 < B) (X Y i : Nat) : cy B X Y i ≤ 1:=by
 have hp : 0 < B ^ i:=Nat.pow_pos hB
 have h1:=Nat.mod_lt X hp
 have h2:=Nat.mod_lt Y hp
 unfold cy
 have : (X % B ^ i + Y % B ^ i) / B ^ i < 2:=(Nat.div_lt_iff_lt_mul hp).2 (by omega)
 omega
theorem cy_succ {B : Nat} (hB : 0 < B) (X Y i : Nat) : cy B X Y (i + 1) = (dg B X i + dg B Y i + cy B X Y i) / B:=by
 have hp : 0 < B ^ i:=Nat.pow_pos hB
 unfold cy
 rw [zca,zca]
 rw [show X % B ^ i + B ^ i * dg B X i + (Y % B ^ i + B ^ i * dg B Y i) = (X % B ^ i + Y % B ^ i) + B ^ i * (dg B X i + dg B Y i) by rw [Nat.mul_add]; omega]
 rw [Nat.pow_succ,← Nat.div_div_eq_div_mul,Nat.add_mul_div_left _ _ hp]
 congr 1
 omega
theorem dg_add {B : Nat} (hB : 0 < B) (X Y i : Nat) : dg B (X + Y) i = (dg B X i + dg B Y i + cy B X Y i) % B:=by
 have hp : 0 < B ^ i:=Nat.pow_pos hB
 have hX : X = X % B ^ i + B ^ i * (X / B ^ i):=(Nat.mod_add_div _ _).symm
 have hY : Y = Y % B ^ i + B ^ i * (Y / B ^ i):=(Nat.mod_add_div _ _).symm
 have hs : (X + Y) / B ^ i = (X % B ^ i + Y % B ^ i) / B ^ i + (X / B ^ i + Y / B ^ i):=by
  conv => lhs; rw [hX,hY]
  rw [show X % B ^ i + B ^ i * (X / B ^ i) + (Y % B ^ i + B ^ i * (Y / B ^ i)) = (X % B ^ i + Y % B ^ i) + B ^ i * (X / B ^ i + Y / B ^ i) by rw [Nat.mul_add]; omega]
  rw [Nat.add_mul_div_left _ _ hp]
 unfold dg cy
 rw [hs,show (X % B ^ i + Y % B ^ i) / B ^ i + (X / B ^ i + Y / B ^ i) = X / B ^ i + Y / B ^ i + (X % B ^ i + Y % B ^ i) / B ^ i by omega]
 rw [Nat.add_mod,Nat.add_mod (X / B ^ i) (Y / B ^ i)]
 conv => rhs; rw [Nat.add_mod]
theorem cy_top {B : Nat} {X Y n : Nat} (hX : X < B ^ n) (hY : Y < B ^ n) : cy B X Y n = if B ^ n ≤ X + Y then 1 else 0:=by
 unfold cy
 rw [Nat.mod_eq_of_lt hX,Nat.mod_eq_of_lt hY]
 have hp : 0 < B ^ n:=by omega
 split
 ·
  apply Nat.le_antisymm
  ·
   have:=(Nat.div_lt_iff_lt_mul hp (x:=X + Y) (y:=2)).2 (by omega)
   omega
  ·
   exact (Nat.le_div_iff_mul_le hp).2 (by omega)
 ·
  exact Nat.div_eq_of_lt (by omega)
theorem zcr {B : Nat} (n m i : Nat) (h : i < m) : dg B (n % B ^ m) i = dg B n i:=by
 unfold dg
 obtain ⟨d,rfl⟩ : ∃ d,m = i + (d + 1):=⟨m - i - 1,by omega⟩
 rw [Nat.pow_add,Nat.mod_mul_right_div_self,Nat.mod_mod_of_dvd _ (by rw [Nat.pow_succ]; exact Nat.dvd_mul_left _ _)]
theorem zmf {B : Nat} (hB : 0 < B) : ∀ (n : Nat) {X Y : Nat},(∀ i,i < n → dg B X i = dg B Y i) → X % B ^ n = Y % B ^ n
 | 0,X,Y,_ => by simp [Nat.mod_one]
 | n + 1,X,Y,h => by rw [zca,zca,zmf hB n (fun i hi => h i (by omega)),h n (by omega)]
theorem zhw {B : Nat} (hB : 0 < B) {n X Y : Nat} (hX : X < B ^ n) (hY : Y < B ^ n) (h : ∀ i,i < n → dg B X i = dg B Y i) : X = Y:=by
 have:=zmf hB n h
 rwa [Nat.mod_eq_of_lt hX,Nat.mod_eq_of_lt hY] at this
theorem bw_zero (B X Y : Nat) : bw B X Y 0 = 0:=by simp [bw,Nat.mod_one]
theorem bw_le (B X Y i : Nat) : bw B X Y i ≤ 1:=by unfold bw; split <;> omega
theorem bw_succ {B : Nat} (hB : 0 < B) (X Y i : Nat) : bw B X Y (i + 1) = if dg B X i < dg B Y i + bw B X Y i then 1 else 0:=by
 have hp : 0 < B ^ i:=Nat.pow_pos hB
 have h1:=Nat.mod_lt X hp
 have h2:=Nat.mod_lt Y hp
 unfold bw
 rw [zca,zca]
 generalize dg B X i = x
 generalize dg B Y i = y
 generalize X % B ^ i = r at *
 generalize Y % B ^ i = s at *
 generalize B ^ i = P at *
 by_cases hxy : x < y
 ·
  have : P * x + P ≤ P * y:=by rw [← Nat.mul_succ]; exact Nat.mul_le_mul_left _ hxy
  rw [if_pos (by omega)]; split <;> rw [if_pos (by omega)]
 ·
  by_cases hyx : y < x
  ·
   have : P * y + P ≤ P * x:=by rw [← Nat.mul_succ]; exact Nat.mul_le_mul_left _ hyx
   rw [if_neg (by omega)]; split <;> rw [if_neg (by omega)]
  ·
   have hxy' : x = y:=by omega
   subst hxy'
   by_cases hrs : r < s
   ·
    rw [if_pos (by omega),if_pos hrs,if_pos (by omega)]
   ·
    rw [if_neg (by omega),if_neg hrs,if_neg (by omega)]
theorem dg_sub {B : Nat} (hB : 0 < B) (X Y n i : Nat) (hi : i < n) (hY : Y ≤ B ^ n) : dg B (X + B ^ n - Y) i = (dg B X i + B - dg B Y i - bw B X Y i) % B:=by
 obtain ⟨D,hD⟩ : ∃ D,X + B ^ n - Y = D:=⟨_,rfl⟩
 rw [hD]
 have hDY : D + Y = X + B ^ n:=by omega
 -- the digit of the sum D + Y
 have h1:=dg_add hB D Y i
 have h2 : dg B (D + Y) i = dg B X i:=by
  rw [hDY]
  unfold dg
  obtain ⟨d,rfl⟩ : ∃ d,n = i + (d + 1):=⟨n - i - 1,by omega⟩
  rw [Nat.pow_add,Nat.add_mul_div_left _ _ (Nat.pow_pos hB),Nat.pow_succ,Nat.add_mul_mod_self_right]
 have h3 : cy B D Y i = bw B X Y i:=by
  have hp : 0 < B ^ i:=Nat.pow_pos hB
  have e : (D + Y) % B ^ i = X % B ^ i:=by
   rw [hDY]
   obtain ⟨d,rfl⟩ : ∃ d,n = i + (d + 1):=⟨n - i - 1,by omega⟩
   rw [Nat.pow_add,Nat.add_mul_mod_self_left]
  rw [Nat.add_mod] at e
  have hd:=Nat.mod_lt D hp
  have hy:=Nat.mod_lt Y hp
  unfold cy bw
  rw [← e]
  generalize D % B ^ i = r at *
  generalize Y % B ^ i = s at *
  by_cases h : r + s < B ^ i
  ·
   rw [Nat.mod_eq_of_lt h,Nat.div_eq_of_lt h,if_neg (by omega)]
  ·
   rw [Nat.mod_eq_sub_mod (by omega),Nat.mod_eq_of_lt (by omega),if_pos (by omega)]
   apply Nat.le_antisymm
   ·
    have:=(Nat.div_lt_iff_lt_mul hp (x:=r + s) (y:=2)).2 (by omega)
    omega
   ·
    exact (Nat.le_div_iff_mul_le hp).2 (by omega)
 rw [h2,h3] at h1
 have b1:=dg_lt hB D i
 have b2:=dg_lt hB Y i
 have b3:=bw_le B X Y i
 have b4:=dg_lt hB X i
 generalize dg B D i = d at *
 generalize dg B Y i = y at *
 generalize dg B X i = x at *
 generalize bw B X Y i = b at *
 by_cases h : d + y + b < B
 ·
  rw [Nat.mod_eq_of_lt h] at h1
  rw [Nat.mod_eq_sub_mod (by omega),Nat.mod_eq_of_lt (by omega)]
  omega
 ·
  rw [Nat.mod_eq_sub_mod (by omega),Nat.mod_eq_of_lt (by omega)] at h1
  rw [Nat.mod_eq_of_lt (by omega)]
  omega
theorem bw_top {B X Y n : Nat} (hX : X < B ^ n) (hY : Y < B ^ n) : bw B X Y n = if X < Y then 1 else 0:=by
 unfold bw
 rw [Nat.mod_eq_of_lt hX,Nat.mod_eq_of_lt hY]
/-! ### words of 64 bits,parts of 16 -/
def w64 : Nat:=18446744073709551616
def w16 : Nat:=65536
def top : Nat:=w64 ^ 4
theorem zaq : 0 < w64:=by unfold w64; omega
theorem zif : 0 < w16:=by unfold w16; omega
theorem zbm : 0 < top:=Nat.pow_pos zaq
def wd (n i : Nat) : Int:=(dg w64 n i : Nat)
theorem wd_lo (n i : Nat) : 0 ≤ wd n i:=Int.natCast_nonneg _
theorem wd_lt (n i : Nat) : wd n i < 18446744073709551616:=by
 have:=dg_lt zaq n i
 unfold wd; unfold w64 at *; omega
theorem wd_le (n i : Nat) : wd n i ≤ 18446744073709551615:=by have:=wd_lt n i; omega
def ofWords (a b c d : Int) : Nat:=a.toNat + w64 * (b.toNat + w64 * (c.toNat + w64 * d.toNat))
theorem ofWords_lt {a b c d : Int} (ha : a < 18446744073709551616) (hb : b < 18446744073709551616) (hc : c < 18446744073709551616) (hd : d < 18446744073709551616) : ofWords a b c d < top:=by
 unfold ofWords top w64
 omega
theorem wd_ofWords {a b c d : Int} (ha0 : 0 ≤ a) (ha : a < 18446744073709551616) (hb0 : 0 ≤ b) (hb : b < 18446744073709551616) (hc0 : 0 ≤ c) (hc : c < 18446744073709551616) (hd0 : 0 ≤ d) (hd : d < 18446744073709551616) :
  wd (ofWords a b c d) 0 = a ∧ wd (ofWords a b c d) 1 = b ∧ wd (ofWords a b c d) 2 = c ∧ wd (ofWords a b c d) 3 = d:=by
 unfold wd dg ofWords w64
 refine ⟨?_,?_,?_,?_⟩ <;> simp <;> omega
theorem zec (n i : Nat) (h : i < 4) : wd (n % top) i = wd n i:=by
 unfold wd top
 rw [zcr n 4 i h]
def pt (n i : Nat) : Int:=(dg w16 n i : Nat)
theorem pt_lo (n i : Nat) : 0 ≤ pt n i:=Int.natCast_nonneg _
theorem pt_lt (n i : Nat) : pt n i < 65536:=by
 have:=dg_lt zif n i
 unfold pt; unfold w16 at *; omega
def wk (X i k : Nat) : Int:=((dg w64 X i / w16 ^ k : Nat) : Int)
theorem wk_lo (X i k : Nat) : 0 ≤ wk X i k:=Int.natCast_nonneg _
theorem wk_le (X i k : Nat) : wk X i k ≤ 18446744073709551615:=by
 have h:=dg_lt zaq X i
 have h2 : dg w64 X i / w16 ^ k ≤ dg w64 X i:=Nat.div_le_self _ _
 have h3 : dg w64 X i / w16 ^ k < w64:=by omega
 unfold wk; unfold w64 at h3 ⊢; omega
theorem wk_zero (X i : Nat) : wk X i 0 = wd X i:=by simp [wk,wd]
theorem wk_succ (X i k : Nat) : wk X i (k + 1) = wk X i k / 65536:=by
 unfold wk
 rw [Nat.pow_succ,← Nat.div_div_eq_div_mul,Int.natCast_ediv]
 rfl
theorem w64_w16 : w64 = w16 ^ 4:=by decide
theorem dg_w16 (X i k : Nat) (hk : k < 4) : dg w64 X i / w16 ^ k % w16 = dg w16 X (4 * i + k):=by
 have h : dg w64 X i = X / w16 ^ (4 * i) % w16 ^ 4:=by rw [dg,w64_w16,Nat.pow_mul]
 rw [h]
 show dg w16 (X / w16 ^ (4 * i) % w16 ^ 4) k = _
 rw [zcr _ 4 k hk,dg,dg,Nat.div_div_eq_div_mul,← Nat.pow_add]
theorem wk_pt (X i k : Nat) (hk : k < 4) : wk X i k % 65536 = pt X (4 * i + k):=by
 unfold wk pt
 rw [← dg_w16 X i k hk]
 rfl
theorem wd_pt (X q : Nat) : wd X q = pt X (4 * q) + 65536 * pt X (4 * q + 1) + 4294967296 * pt X (4 * q + 2) + 281474976710656 * pt X (4 * q + 3):=by
 have h0:=dg_w16 X q 0 (by omega)
 have h1:=dg_w16 X q 1 (by omega)
 have h2:=dg_w16 X q 2 (by omega)
 have h3:=dg_w16 X q 3 (by omega)
 have hl:=dg_lt zaq X q
 unfold wd pt
 simp only [Nat.add_zero] at h0
 rw [← h0,← h1,← h2,← h3]
 generalize dg w64 X q = D at *
 unfold w16 w64 at *
 simp only [Nat.pow_zero,Nat.div_one,Nat.reducePow] at *
 omega
end Go.Proofs.YtihophdbkjhopaaGreatDoor
namespace Go.Proofs.YtihophdbkjhopaaGreatDoor
open Go.RowKit
open Go.Value renaming int → vI
open Go.IntKind renaming u64 → vU
open Go.Act renaming put → aP
open List renaming setIfInBounds_toArray → lA, set_cons_zero → lZ, set_cons_succ → lS
theorem veil {p : Prop} (h : p) : Hid p:=h
section
variable {w w' : World} {b b' t n i B : Nat} {f g : Nat → Value} {cs : Array Value}
theorem zaj (hb : b = w.heap.size) (hn : cs.size = n) (h : ∀ i,i < n → cs[i]? = some (f i)) : (w.alloc (.cells cs t)).rowIs b t n f:=by
 subst hb; subst hn
 exact World.rowIs_alloc w cs t f h
theorem zat (h : w.rowIs b t n f) (hne : b ≠ b') (v : Value) : (w.setCell ⟨b',i,none⟩ v).rowIs b t n f:=h.setOther hne v
theorem zad (h : w.rowIs b t n f) (hb : Below B w w') (hlt : b < B) : w'.rowIs b t n f:=h.of_block (hb.block b hlt)
theorem zbs (h : w.rowIs b t n f) (k : Nat) : (w.drewN k).rowIs b t n f:=h
theorem zai {a : World} (h : Below B a w) (hb : B ≤ b) (v : Value) : Below B a (w.setCell ⟨b,i,none⟩ v):=h.setCell hb v
theorem zaz {a : World} (h : Below B a w) (k : Nat) : Below B a (w.drewN k):=⟨h.os,h.tape,h.output,h.size,h.block⟩
theorem arr4 (f : Nat → Value) : ∀ i,i < 4 → (#[f 0,f 1,f 2,f 3] : Array Value)[i]? = some (f i)
 | 0,_ => rfl
 | 1,_ => rfl
 | 2,_ => rfl
 | 3,_ => rfl
 | n + 4,h => by omega
theorem arr8 (f : Nat → Value) : ∀ i,i < 8 → (#[f 0,f 1,f 2,f 3,f 4,f 5,f 6,f 7] : Array Value)[i]? = some (f i)
 | 0,_ => rfl
 | 1,_ => rfl
 | 2,_ => rfl
 | 3,_ => rfl
 | 4,_ => rfl
 | 5,_ => rfl
 | 6,_ => rfl
 | 7,_ => rfl
 | n + 8,h => by omega
theorem zap (h : w.rowIs b t 4 f) : w.cell? ⟨b,0,none⟩ = some (f 0) ∧ w.cell? ⟨b,1,none⟩ = some (f 1) ∧ w.cell? ⟨b,2,none⟩ = some (f 2) ∧ w.cell? ⟨b,3,none⟩ = some (f 3) :=
 ⟨h.cell (by omega),h.cell (by omega),h.cell (by omega),h.cell (by omega)⟩
theorem row_c8 (h : w.rowIs b t 8 f) : w.cell? ⟨b,0,none⟩ = some (f 0) ∧ w.cell? ⟨b,1,none⟩ = some (f 1) ∧ w.cell? ⟨b,2,none⟩ = some (f 2) ∧ w.cell? ⟨b,3,none⟩ = some (f 3) ∧
  w.cell? ⟨b,4,none⟩ = some (f 4) ∧ w.cell? ⟨b,5,none⟩ = some (f 5) ∧ w.cell? ⟨b,6,none⟩ = some (f 6) ∧ w.cell? ⟨b,7,none⟩ = some (f 7) :=
 ⟨h.cell (by omega),h.cell (by omega),h.cell (by omega),h.cell (by omega),h.cell (by omega),h.cell (by omega),h.cell (by omega),h.cell (by omega)⟩
theorem zbq (h : w.rowIs b t n f) : w.frozen? ⟨b,0,none⟩ = false ∧ w.frozen? ⟨b,1,none⟩ = false ∧ w.frozen? ⟨b,2,none⟩ = false ∧ w.frozen? ⟨b,3,none⟩ = false :=
 ⟨h.frozen _,h.frozen _,h.frozen _,h.frozen _⟩
theorem row_f8 (h : w.rowIs b t n f) : w.frozen? ⟨b,0,none⟩ = false ∧ w.frozen? ⟨b,1,none⟩ = false ∧ w.frozen? ⟨b,2,none⟩ = false ∧ w.frozen? ⟨b,3,none⟩ = false ∧
  w.frozen? ⟨b,4,none⟩ = false ∧ w.frozen? ⟨b,5,none⟩ = false ∧ w.frozen? ⟨b,6,none⟩ = false ∧ w.frozen? ⟨b,7,none⟩ = false :=
 ⟨h.frozen _,h.frozen _,h.frozen _,h.frozen _,h.frozen _,h.frozen _,h.frozen _,h.frozen _⟩
theorem arr_eq {c : Array Value} : ∀ {l : List Value},c.size = l.length → (∀ i,i < l.length → c[i]? = l[i]?) → c = l.toArray:=by
 intro l hs h
 apply Array.ext_getElem?
 intro i
 by_cases hi : i < l.length
 ·
  rw [h i hi]; simp
 ·
  rw [Array.getElem?_eq_none (by omega),Array.getElem?_eq_none (by simp; omega)]
theorem blk4 (h : w.rowIs b t 4 f) : w.heap[b]? = some (.cells #[f 0,f 1,f 2,f 3] t (0,0)):=by
 obtain ⟨c,hb,hn,hc⟩:=h
 rw [hb,arr_eq (c:=c) (l:=[f 0,f 1,f 2,f 3]) (by simpa using hn) (fun i hi => by
  have hi4 : i < 4:=by simpa using hi
  rw [hc i hi4]
  exact (by simpa using arr4 f i hi4 : [f 0,f 1,f 2,f 3][i]? = some (f i)).symm)]
theorem blk8 (h : w.rowIs b t 8 f) : w.heap[b]? = some (.cells #[f 0,f 1,f 2,f 3,f 4,f 5,f 6,f 7] t (0,0)):=by
 obtain ⟨c,hb,hn,hc⟩:=h
 rw [hb,arr_eq (c:=c) (l:=[f 0,f 1,f 2,f 3,f 4,f 5,f 6,f 7]) (by simpa using hn) (fun i hi => by
  have hi8 : i < 8:=by simpa using hi
  rw [hc i hi8]
  exact (by simpa using arr8 f i hi8 : [f 0,f 1,f 2,f 3,f 4,f 5,f 6,f 7][i]? = some (f i)).symm)]
theorem put4 (h : w.rowIs b t 4 f) (g : Nat → Value) : ((((w.setCell ⟨b,0,none⟩ (g 0)).setCell ⟨b,1,none⟩ (g 1)).setCell ⟨b,2,none⟩ (g 2)).setCell ⟨b,3,none⟩ (g 3)).rowIs b t 4 g :=
 ((((h.set 0 (g 0)).set 1 (g 1)).set 2 (g 2)).set 3 (g 3)).congr fun i hi => by
  have : i = 0 ∨ i = 1 ∨ i = 2 ∨ i = 3:=by omega
  rcases this with rfl | rfl | rfl | rfl <;> rfl
theorem put8 (h : w.rowIs b t 8 f) (g : Nat → Value) : ((((((((w.setCell ⟨b,0,none⟩ (g 0)).setCell ⟨b,1,none⟩ (g 1)).setCell ⟨b,2,none⟩ (g 2)).setCell ⟨b,3,none⟩ (g 3)).setCell ⟨b,4,none⟩ (g 4)).setCell ⟨b,5,none⟩ (g 5)).setCell ⟨b,6,none⟩ (g 6)).setCell ⟨b,7,none⟩ (g 7)).rowIs b t 8 g :=
 ((((((((h.set 0 (g 0)).set 1 (g 1)).set 2 (g 2)).set 3 (g 3)).set 4 (g 4)).set 5 (g 5)).set 6 (g 6)).set 7 (g 7)).congr fun i hi => by
  have : i = 0 ∨ i = 1 ∨ i = 2 ∨ i = 3 ∨ i = 4 ∨ i = 5 ∨ i = 6 ∨ i = 7:=by omega
  rcases this with rfl | rfl | rfl | rfl | rfl | rfl | rfl | rfl <;> rfl
theorem row_far4 (h : w.rowIs b t n f) (hne : b ≠ b') (v0 v1 v2 v3 : Value) : ((((w.setCell ⟨b',0,none⟩ v0).setCell ⟨b',1,none⟩ v1).setCell ⟨b',2,none⟩ v2).setCell ⟨b',3,none⟩ v3).rowIs b t n f :=
 zat (zat (zat (zat h hne _) hne _) hne _) hne _
theorem zbb {a : World} (h : Below B a w) (hb : B ≤ b) (v0 v1 v2 v3 : Value) : Below B a ((((w.setCell ⟨b,0,none⟩ v0).setCell ⟨b,1,none⟩ v1).setCell ⟨b,2,none⟩ v2).setCell ⟨b,3,none⟩ v3) :=
 zai (zai (zai (zai h hb _) hb _) hb _) hb _
theorem below_put8 {a : World} (h : Below B a w) (hb : B ≤ b) (v0 v1 v2 v3 v4 v5 v6 v7 : Value) :
  Below B a ((((((((w.setCell ⟨b,0,none⟩ v0).setCell ⟨b,1,none⟩ v1).setCell ⟨b,2,none⟩ v2).setCell ⟨b,3,none⟩ v3).setCell ⟨b,4,none⟩ v4).setCell ⟨b,5,none⟩ v5).setCell ⟨b,6,none⟩ v6).setCell ⟨b,7,none⟩ v7) :=
 zai (zai (zai (zai (zai (zai (zai (zai h hb _) hb _) hb _) hb _) hb _) hb _) hb _) hb _
end
theorem row_step {X : Nat} {k : Nat} (hk : k < 4) : ∀ i,i < 4 → (if i = k then Value.int .u64 (wd X k) else Value.int .u64 (if i < k then wd X i else 0)) = Value.int .u64 (if i < k + 1 then wd X i else 0):=by
 intro i _
 by_cases h : i = k
 ·
  subst h; simp
 ·
  rw [if_neg h]; by_cases h2 : i < k
  ·
   rw [if_pos h2,if_pos (by omega)]
  ·
   rw [if_neg h2,if_neg (by omega)]
def Pre (w : World) (g t n : Nat) (f : Nat → Value) : Prop:=∃ c : Array Value,w.heap[g]? = some (.cells c t (0,0)) ∧ ∀ i,i < n → c[i]? = some (f i)
section
variable {w w' : World} {g t n B : Nat} {f h : Nat → Value}
theorem Pre.cell (p : Pre w g t n f) {i : Nat} (hi : i < n) : w.cell? ⟨g,i,none⟩ = some (f i):=by
 obtain ⟨c,hb,hc⟩:=p
 simp [World.cell?,hb,hc i hi]
theorem Pre.frozen (p : Pre w g t n f) (i : Nat) : w.frozen? ⟨g,i,none⟩ = false:=by
 obtain ⟨c,hb,_⟩:=p
 simp [World.frozen?,hb]
theorem Pre.lt (p : Pre w g t n f) : g < w.heap.size:=by
 obtain ⟨c,hb,_⟩:=p
 obtain ⟨hlt,_⟩:=Array.getElem?_eq_some_iff.1 hb
 exact hlt
theorem Pre.congr (p : Pre w g t n f) (e : ∀ i,i < n → f i = h i) : Pre w g t n h:=by
 obtain ⟨c,hb,hc⟩:=p
 exact ⟨c,hb,fun i hi => by rw [hc i hi,e i hi]⟩
theorem Pre.of_block (p : Pre w g t n f) (e : w'.heap[g]? = w.heap[g]?) : Pre w' g t n f:=by
 obtain ⟨c,hb,hc⟩:=p
 exact ⟨c,e.trans hb,hc⟩
theorem Pre.set (p : Pre w g t n f) (i : Nat) (v : Value) : Pre (w.setCell ⟨g,i,none⟩ v) g t n (fun j => if j = i then v else f j):=by
 obtain ⟨c,hb,hc⟩:=p
 refine ⟨c.setIfInBounds i v,?_,fun j hj => ?_⟩
 ·
  simp [World.setCell,Array.getElem?_modify,hb]
 ·
  rw [Array.getElem?_setIfInBounds]
  have hlt : j < c.size:=(Array.getElem?_eq_some_iff.1 (hc j hj)).1
  by_cases e : j = i
  ·
   subst e; simp [hlt]
  ·
   rw [if_neg (fun h => e h.symm)]
   show c[j]? = some (if j = i then v else f j)
   rw [if_neg e,hc j hj]
theorem Pre.far {b i : Nat} (p : Pre w g t n f) (hne : g ≠ b) (v : Value) : Pre (w.setCell ⟨b,i,none⟩ v) g t n f:=p.of_block (Below.heap_setCell _ _ _ _ hne)
theorem Pre.alloc (p : Pre w g t n f) (o : Obj) : Pre (w.alloc o) g t n f:=p.of_block (Below.heap_alloc _ _ _ p.lt)
theorem Pre.drew (p : Pre w g t n f) : Pre w.drew g t n f:=p
theorem Pre.drewN (p : Pre w g t n f) (k : Nat) : Pre (w.drewN k) g t n f:=p
theorem Pre.below (p : Pre w g t n f) (hb : Below B w w') (hlt : g < B) : Pre w' g t n f:=p.of_block (hb.block g hlt)
theorem Pre.of_row (r : w.rowIs g t n f) : Pre w g t n f:=by
 obtain ⟨c,hb,_,hc⟩:=r
 exact ⟨c,hb,hc⟩
theorem Pre.of_own {base m : Nat} {v : Value} (hown : w.ownsRow base t 1 v m ((List.range m).map f)) (hm : 0 < m) :
  ∃ g cap,v = .slice (some ⟨g,0,none⟩) m cap ∧ m ≤ cap ∧ base ≤ g ∧ Pre w g t m f:=by
 obtain ⟨_,⟨_,h0⟩ | ⟨g,cap,cur,rfl,hbg,hh,hnc,_,_,ht⟩⟩:=hown
 ·
  omega
 ·
  refine ⟨g,cap,rfl,hnc,hbg,cur,hh,fun i hi => ?_⟩
  have e : cur.toList[i]? = (cur.toList.take (m * 1))[i]?:=by rw [List.getElem?_take_of_lt (by omega)]
  have : cur[i]? = cur.toList[i]?:=by simp
  rw [this,e,ht]
  simp [hi]
theorem zir {b : Nat} {row : Option Nat} (r : w.rowIs b t n f) (hg : w.grownBy w' row) (hne : some b ≠ row) : w'.rowIs b t n f:=r.of_block (hg.block b r.lt hne)
end
theorem quiet_more {P : Program} {fid : FuncId} {args : Array Value} {w : World} {a n : Nat} {v : Value} (h : Calls P fid args (w.drewN (a + n)) fun e w' => e = .returned v ∧ w' = w.drewN (a + n)) :
  Calls P fid args (w.drewN (a + n)) fun e w' => e = .returned v ∧ ∃ m,w' = w.drewN (a + m) :=
 h.mono fun _ _ ⟨he,hm⟩ => ⟨he,n,hm⟩
theorem zge {wz W w' : World} (hb : Below W.heap.size W w') (h : (∀ b o,b < wz.heap.size → W.cell? ⟨b,o,none⟩ = wz.cell? ⟨b,o,none⟩) ∧ Below wz.heap.size wz W) :
  (∀ b o,b < wz.heap.size → w'.cell? ⟨b,o,none⟩ = wz.cell? ⟨b,o,none⟩) ∧ Below wz.heap.size wz w' :=
 ⟨fun b o hlt => (hb.cell (p:=⟨b,o,none⟩) (Nat.lt_of_lt_of_le hlt h.2.size)).trans (h.1 b o hlt),h.2.trans (hb.mono h.2.size)⟩
theorem ziv (wz : World) : (∀ b o,b < wz.heap.size → wz.drew.cell? ⟨b,o,none⟩ = wz.cell? ⟨b,o,none⟩) ∧ Below wz.heap.size wz wz.drew :=
 ⟨fun _ _ _ => rfl,(Below.refl _ _).drew⟩
theorem zcn {P : Program} {fn : Func} {p s : Tmp} {ty : TypeId} (h : fn.results = #[.cell p ty,.tmp s]) (tmps : Array Value) (w : World) (g : Nat) (t : TypeId) (cs : Array Value) (fr : Nat × Nat) (n : Nat) (e : TypeId)
  (hp : tmps.getD p undef = .pointer (some ⟨g,0,none⟩)) (hg : w.heap[g]? = some (.cells cs t fr)) (hu : P.underlying ty = some (.array n e)) (hi : (P.info? ty).map (·.size) = some cs.size) :
  (results fn tmps).run P w = .ok (.tuple #[.agg cs,tmps.getD s undef]) w:=by
 have hp' : tmps[p]?.getD undef = .pointer (some ⟨g,0,none⟩):=by simpa using hp
 simp [results,h,hp',asAddr,run_loadVar_row w g t ty cs fr _ hg hu rfl hi]
def arrOf (n : Nat) (f : Nat → Value) : Array Value:=((List.range n).map f).toArray
theorem zan (n : Nat) (f : Nat → Value) : (arrOf n f).size = n:=by simp [arrOf]
theorem zbt {n : Nat} (f : Nat → Value) {i : Nat} (hi : i < n) : (arrOf n f)[i]? = some (f i):=by simp [arrOf,hi]
theorem zhx {n : Nat} {f : Nat → Value} {cs : Array Value} (hn : cs.size = n) (h : ∀ i,i < n → cs[i]? = some (f i)) : cs = arrOf n f:=by
 apply Array.ext_getElem?
 intro i
 by_cases hi : i < n
 ·
  rw [h i hi,zbt f hi]
 ·
  rw [Array.getElem?_eq_none (by omega),Array.getElem?_eq_none (by rw [zan]; omega)]
theorem arrOf_congr {n : Nat} {f g : Nat → Value} (h : ∀ i,i < n → f i = g i) : arrOf n f = arrOf n g :=
 zhx (zan n f) fun i hi => by rw [zbt f hi,h i hi]
theorem zau {n : Nat} {f : Nat → Value} (h : ∀ i,i < n → (f i).oneCell' = true) : (arrOf n f).all (·.oneCell') = true:=by
 rw [Array.all_eq_true_iff_forall_mem]
 intro v hv
 simp [arrOf] at hv
 obtain ⟨i,hi,rfl⟩:=hv
 exact h i hi
section
variable {w w' : World} {b t n B : Nat} {f : Nat → Value}
theorem blkOf (h : w.rowIs b t n f) : w.heap[b]? = some (.cells (arrOf n f) t (0,0)):=by
 obtain ⟨c,hb,hn,hc⟩:=h
 rw [hb,zhx hn hc]
theorem zav (w : World) (n t : Nat) (f : Nat → Value) {g : Nat} (hg : g = w.heap.size) : (w.alloc (.cells (arrOf n f) t)).rowIs g t n f :=
 zaj hg (zan n f) fun _ hi => zbt f hi
theorem row_setRow {a : Array Value} (h : w.rowIs b t n f) (hn : a.size = n) {g : Nat → Value} (hg : ∀ i,i < n → a[i]? = some (g i)) : (w.setRow b a).rowIs b t n g:=by
 obtain ⟨c,hb,_,_⟩:=h
 exact ⟨a,setRow_heap w b c a t (0,0) hb,hn,hg⟩
theorem zar (w : World) {b b' : Nat} (a : Array Value) (hne : b ≠ b') : (w.setRow b' a).heap[b]? = w.heap[b]?:=by
 simp only [World.setRow,Array.getElem?_modify]
 rw [if_neg (by omega)]
end
theorem zcx {P : Program} {t e n i : Nat} {cs : Array Value} {v : Value} (hu : P.underlying t = some (.array n e)) (hs : (P.info? e).map (·.size) = some 1)
  (hp : ∀ w,(part e cs i).run P w = .ok v w) (hi : i < n) (k : IntKind) (w : World) : (Instr.index t (.agg cs) (.int k (i : Int))).run P w = .ok v w:=by
 cases hq : P.info? e with
 | none => simp [hq] at hs
 | some inf =>
  have hz : inf.size = 1:=by simpa [hq] using hs
  simp [Instr.index,asIntOf,Sem.run_bind,run_underlying hu w,hi,sizeOf,typeInfo,hq,hz,hp,Result.andThen_ok]
theorem zac (n : Nat) {P : Program} {ops : Array Oper} {Q : Exit → Act → World → Prop} {rest : List Oper} {a : Act} {w : World} {op : Op} {ty : TypeId} {pos : String} {af : Array Edge} {g : Option (Tmp × Bool)}
  (h : wpList P ops Q (⟨some n,op,ty,pos,af,g⟩ :: rest) a w) : wpList P ops Q (⟨some n,op,ty,pos,af,g⟩ :: rest) a w:=h
theorem zak {P : Program} {ops : Array Oper} {Q : Exit → Act → World → Prop} {rest : List Oper} {a : Act} {w : World} {op : Op} {ty : TypeId} {pos : String} {af : Array Edge} {g : Option (Tmp × Bool)}
  (h : wpList P ops Q (⟨none,op,ty,pos,af,g⟩ :: rest) a w) : wpList P ops Q (⟨none,op,ty,pos,af,g⟩ :: rest) a w:=h
theorem zcc {B b : Nat} {a w : World} (h : Below B a w) (hb : B ≤ b) (cs : Array Value) : Below B a (w.setRow b cs) :=
 ⟨h.os,h.tape,h.output,by simpa [World.setRow] using h.size,fun k hk => (zar w cs (by omega)).trans (h.block k hk)⟩
abbrev But (r : Nat) (w w' : World) : Prop:=w.grownBy w' (some r)
section
variable {w w' w'' : World} {r : Nat}
theorem But.refl (r : Nat) (w : World) : But r w w:=⟨rfl,rfl,rfl,Nat.le_refl _,fun _ _ _ => rfl⟩
theorem But.trans (h : But r w w') (k : But r w' w'') : But r w w'' :=
 ⟨k.os.trans h.os,k.tape.trans h.tape,k.output.trans h.output,Nat.le_trans h.size k.size,fun i hi hne => (k.block i (Nat.lt_of_lt_of_le hi h.size) hne).trans (h.block i hi hne)⟩
theorem But.below (h : But r w w') (k : Below w'.heap.size w' w'') : But r w w'' :=
 h.trans ⟨k.os,k.tape,k.output,k.size,fun i hi _ => k.block i hi⟩
theorem But.of_below (k : Below w.heap.size w w') : But r w w':=(But.refl r w).below k
theorem But.set (h : But r w w') (i : Nat) (v : Value) : But r w (w'.setCell ⟨r,i,none⟩ v) :=
 h.trans ⟨rfl,rfl,rfl,by simp [World.setCell],fun k _ hne => Below.heap_setCell _ _ _ _ (by simpa using hne)⟩
theorem But.alloc (h : But r w w') (o : Obj) : But r w (w'.alloc o):=h.below ((Below.refl _ _).alloc (Nat.le_refl _) o)
theorem But.drew (h : But r w w') : But r w w'.drew:=⟨h.os,h.tape,h.output,h.size,h.block⟩
theorem But.drewN (h : But r w w') (k : Nat) : But r w (w'.drewN k):=⟨h.os,h.tape,h.output,h.size,h.block⟩
theorem But.far {b i : Nat} (h : But r w w') (hb : w.heap.size ≤ b) (v : Value) : But r w (w'.setCell ⟨b,i,none⟩ v) :=
 ⟨h.os,h.tape,h.output,by simpa [World.setCell] using h.size,fun k hk hne => (Below.heap_setCell _ _ _ _ (by show k ≠ b; omega)).trans (h.block k hk hne)⟩
theorem But.new {B : Nat} (h : But r w w') (hr : B ≤ r) (hB : B ≤ w.heap.size) : Below B w w' :=
 ⟨h.os,h.tape,h.output,h.size,fun k hk => h.block k (by omega) (by simp; omega)⟩
theorem zef {b t n : Nat} {f : Nat → Value} (h : w.rowIs b t n f) (k : But r w w') (hne : b ≠ r) : w'.rowIs b t n f:=h.of_block (k.block b h.lt (by simpa using hne))
end
/-! ### steps of a region that draws its order -/
theorem at_slotR (n : Nat) {P : Program} {ops : Array Oper} {K : Act → World → Prop} {Q : Exit → Act → World → Prop} {E : Prop} {a : Act} {w : World} {op : Op} {ty : TypeId} {pos : String} {af : Array Edge} {g : Option (Tmp × Bool)}
  (h : if Region.wanted { dst:=some n,op:=op,type:=ty,pos:=pos,after:=af,guard:=g } (yielded ops a.tmps) = true then Oper.wp P { dst:=some n,op:=op,type:=ty,pos:=pos,after:=af,guard:=g } a w K Q else E) :
  if Region.wanted { dst:=some n,op:=op,type:=ty,pos:=pos,after:=af,guard:=g } (yielded ops a.tmps) = true then Oper.wp P { dst:=some n,op:=op,type:=ty,pos:=pos,after:=af,guard:=g } a w K Q else E:=h
/-! ### what such a region keeps: a range of cells,and all blocks but one -/
theorem zhj {W W' : World} {g : Nat} {L : List Value} (h : W.rangeAt g 0 L) (e : W'.heap[g]? = W.heap[g]?) : W'.rangeAt g 0 L:=fun j v hv => (World.cell?_of_block (a:=⟨g,0 + j,none⟩) e).trans (h j v hv)
theorem keepC {w5 W W' : World} {g gR : Nat} {L : List Value} (hb : Below W.heap.size W W') (hg : g < W.heap.size) (h : W.rangeAt g 0 L ∧ But gR w5 W) : W'.rangeAt g 0 L ∧ But gR w5 W' :=
 ⟨zhj h.1 (hb.block g hg),h.2.below hb⟩
theorem keepA {w5 W : World} {g gR : Nat} {L : List Value} {o : Obj} (hg : g < W.heap.size) (h : W.rangeAt g 0 L ∧ But gR w5 W) : (W.alloc o).rangeAt g 0 L ∧ But gR w5 (W.alloc o) :=
 ⟨zhj h.1 (Below.heap_alloc _ _ _ hg),h.2.alloc o⟩
theorem keepD {w5 W : World} {g gR : Nat} {L : List Value} (h : W.rangeAt g 0 L ∧ But gR w5 W) : W.drew.rangeAt g 0 L ∧ But gR w5 W.drew:=⟨h.1,h.2.drew⟩
theorem zcs {b t n : Nat} : ∀ (vs : List Value) (o : Nat) (w : World) (f : Nat → Value),w.rowIs b t n f → (w.setCells b o vs).rowIs b t n (fun j => if o ≤ j ∧ j < o + vs.length then vs.getD (j - o) undef else f j)
 | [],o,w,f,h => h.congr fun j _ => by rw [if_neg (by simp only [List.length_nil]; omega)]
 | v :: r,o,w,f,h => (zcs r (o + 1) _ _ (h.set o v)).congr fun j _ => by
  simp only [List.length_cons]
  by_cases h1 : j = o
  ·
   subst h1
   rw [if_neg (by omega),if_pos rfl,if_pos (by omega),Nat.sub_self]; rfl
  ·
   rw [if_neg h1]
   by_cases h2 : o + 1 ≤ j ∧ j < o + 1 + r.length
   ·
    rw [if_pos h2,if_pos (by omega),show j - o = (j - (o + 1)) + 1 by omega]; rfl
   ·
    rw [if_neg h2,if_neg (by omega)]
theorem zmm {w : World} {b t n : Nat} {f : Nat → Value} (h : w.rowIs b t n f) {F : Array Value} (hF : F.size = n) : (w.setCells b 0 F.toList).heap[b]? = some (.cells F t (0,0)):=by
 rw [blkOf (zcs F.toList 0 w f h)]
 congr 2
 refine (zhx hF fun i hi => ?_).symm
 have hi' : i < F.size:=by omega
 rw [if_pos ⟨by omega,by simp; omega⟩,Nat.sub_zero,List.getD_eq_getElem?_getD]
 simp [hi']
theorem But.setCells {r : Nat} {w0 : World} : ∀ (vs : List Value) (o : Nat) (w : World),But r w0 w → But r w0 (w.setCells r o vs)
 | [],_,_,h => h
 | v :: l,o,_,h => But.setCells l (o + 1) _ (h.set o v)
theorem keepS {w5 W : World} {g gR : Nat} {L cs : List Value} (hne : g ≠ gR) (h : W.rangeAt g 0 L ∧ But gR w5 W) : (W.setCells gR 0 cs).rangeAt g 0 L ∧ But gR w5 (W.setCells gR 0 cs) :=
 ⟨World.rangeAt_setCells_apart h.1 gR 0 cs (.inl hne),But.setCells cs 0 W h.2⟩
theorem there_row {w : World} {b t n m : Nat} {f : Nat → Value} (h : w.rowIs b t n f) (hm : m = n) : w.there b 0 m:=fun j hj => by
 rw [Nat.zero_add,h.cell (by omega)]
 exact ⟨rfl,h.frozen j⟩
/-! ### what a region keeps that stores into one block in the end -/
def Bt (r t n : Nat) (wz W : World) : Prop:=But r wz W ∧ ∃ f,W.rowIs r t n f
section
variable {r t n : Nat} {wz W W' : World}
theorem Bt.of {f : Nat → Value} (h : W.rowIs r t n f) (hb : But r wz W) : Bt r t n wz W:=⟨hb,f,h⟩
theorem Bt.call (h : Bt r t n wz W) (hb : Below W.heap.size W W') : Bt r t n wz W':=by
 obtain ⟨h1,f,h2⟩:=h
 exact ⟨h1.below hb,f,zad h2 hb h2.lt⟩
theorem Bt.alloc (h : Bt r t n wz W) (o : Obj) : Bt r t n wz (W.alloc o):=by
 obtain ⟨h1,f,h2⟩:=h
 exact ⟨h1.alloc o,f,h2.alloc o⟩
theorem Bt.drew (h : Bt r t n wz W) : Bt r t n wz W.drew:=⟨h.1.drew,h.2⟩
theorem Bt.set (h : Bt r t n wz W) (i : Nat) (v : Value) : Bt r t n wz (W.setCell ⟨r,i,none⟩ v):=by
 obtain ⟨h1,f,h2⟩:=h
 exact ⟨h1.set i v,_,h2.set i v⟩
theorem Bt.far (h : Bt r t n wz W) {b i : Nat} (hb : wz.heap.size ≤ b) (hne : r ≠ b) (v : Value) : Bt r t n wz (W.setCell ⟨b,i,none⟩ v):=by
 obtain ⟨h1,f,h2⟩:=h
 exact ⟨h1.far hb v,f,zat h2 hne v⟩
theorem Bt.setCells (h : Bt r t n wz W) (o : Nat) (vs : List Value) : Bt r t n wz (W.setCells r o vs):=by
 obtain ⟨h1,f,h2⟩:=h
 exact ⟨But.setCells vs o W h1,_,zcs vs o W f h2⟩
theorem Bt.setRow (h : Bt r t n wz W) {cs : Array Value} (hs : cs.size = n) : Bt r t n wz (W.setRow r cs):=by
 obtain ⟨h1,f,h2⟩:=h
 exact ⟨⟨h1.os,h1.tape,h1.output,by simpa [World.setRow] using h1.size,fun k hk hne' => (zar W cs (by simpa using hne')).trans (h1.block k hk hne')⟩,fun i => (cs[i]?).getD undef,row_setRow h2 hs fun i hi => by
  have : i < cs.size:=by omega
  simp [this]⟩
theorem Bt.cell (h : Bt r t n wz W) {b o : Nat} (hb : b < wz.heap.size) (hne : b ≠ r) : W.cell? ⟨b,o,none⟩ = wz.cell? ⟨b,o,none⟩:=World.cell?_of_block (a:=⟨b,o,none⟩) (h.1.block b hb (by simpa using hne))
theorem Bt.range (h : Bt r t n wz W) {b : Nat} {L : List Value} (hb : b < wz.heap.size) (hne : b ≠ r) (hl : wz.rangeAt b 0 L) : W.rangeAt b 0 L:=zhj hl (h.1.block b hb (by simpa using hne))
theorem Bt.there (h : Bt r t n wz W) {m : Nat} (hm : m = n) : W.there r 0 m:=by
 obtain ⟨_,f,h2⟩:=h
 exact there_row h2 hm
theorem Bt.frozen (h : Bt r t n wz W) (i : Nat) : W.frozen? ⟨r,i,none⟩ = false:=by
 obtain ⟨_,f,h2⟩:=h
 exact h2.frozen i
theorem Bt.below {B : Nat} (h : Bt r t n wz W) (hr : B ≤ r) (hB : B ≤ wz.heap.size) : Below B wz W:=h.1.new hr hB
end
end Go.Proofs.YtihophdbkjhopaaGreatDoor
