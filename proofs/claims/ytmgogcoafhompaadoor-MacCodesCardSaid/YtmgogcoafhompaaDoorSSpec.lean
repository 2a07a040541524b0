/-
  The sum of a text, as the document says it, in numbers. No Go in sight.
-/
import Derived.Test.YtmgogcoafhompaaDoorSMath
namespace Go.Proofs.YtmgogcoafhompaaDoor

/-- K0 to K63. -/
def kList : List Nat := [1116352408, 1899447441, 3049323471, 3921009573, 961987163, 1508970993, 2453635748, 2870763221, 3624381080, 310598401, 607225278, 1426881987, 1925078388, 2162078206, 2614888103, 3248222580, 3835390401, 4022224774, 264347078, 604807628, 770255983, 1249150122, 1555081692, 1996064986, 2554220882, 2821834349, 2952996808, 3210313671, 3336571891, 3584528711, 113926993, 338241895, 666307205, 773529912, 1294757372, 1396182291, 1695183700, 1986661051, 2177026350, 2456956037, 2730485921, 2820302411, 3259730800, 3345764771, 3516065817, 3600352804, 4094571909, 275423344, 430227734, 506948616, 659060556, 883997877, 958139571, 1322822218, 1537002063, 1747873779, 1955562222, 2024104815, 2227730452, 2361852424, 2428436474, 2756734187, 3204031479, 3329325298]
def kc (t : Nat) : Nat := kList.getD t 0
/-- The state at first. -/
def hList : List Nat := [1779033703, 3144134277, 1013904242, 2773480762, 1359893119, 2600822924, 528734635, 1541459225]
def ad (x y : Nat) : Nat := (x + y) % 4294967296
def sg0 (x : Nat) : Nat := rot x 7 ^^^ rot x 18 ^^^ (x / 2 ^ 3)
def sg1 (x : Nat) : Nat := rot x 17 ^^^ rot x 19 ^^^ (x / 2 ^ 10)
def bs0 (x : Nat) : Nat := rot x 2 ^^^ rot x 13 ^^^ rot x 22
def bs1 (x : Nat) : Nat := rot x 6 ^^^ rot x 11 ^^^ rot x 25
def chN (x y z : Nat) : Nat := (x &&& y) ^^^ ((4294967295 - x) &&& z)
def majN (x y z : Nat) : Nat := (x &&& y) ^^^ (x &&& z) ^^^ (y &&& z)
theorem getD_lo (l r : List Nat) {t : Nat} (h : t < l.length) : (l ++ r).getD t 0 = l.getD t 0 := by simp [List.getD, List.getElem?_append_left h]
theorem getD_at (l : List Nat) (x : Nat) {t : Nat} (h : l.length = t) : (l ++ [x]).getD t 0 = x := by subst h; simp [List.getD]
/-- The words of a block: m its first 16. -/
def sched (m : Nat → Nat) : Nat → List Nat
  | 0 => []
  | t + 1 => let l := sched m t
    l ++ [if t < 16 then m t else ad (ad (ad (sg1 (l.getD (t - 2) 0)) (l.getD (t - 7) 0)) (sg0 (l.getD (t - 15) 0))) (l.getD (t - 16) 0)]
theorem sched_len (m : Nat → Nat) : ∀ t, (sched m t).length = t
  | 0 => rfl
  | t + 1 => by simp [sched, sched_len m t]
/-- Word t of them. -/
def wt (m : Nat → Nat) (t : Nat) : Nat := (sched m (t + 1)).getD t 0
theorem sched_getD (m : Nat → Nat) (t : Nat) : ∀ n, t < n → (sched m n).getD t 0 = wt m t
  | 0, h => by omega
  | n + 1, h => by
    by_cases e : t = n
    · subst e; rfl
    · have ih := sched_getD m t n (by omega)
      rw [← ih]
      show (sched m n ++ _).getD t 0 = _
      rw [getD_lo _ _ (by rw [sched_len]; omega)]
theorem wt_lo (m : Nat → Nat) {t : Nat} (h : t < 16) : wt m t = m t := by
  unfold wt
  show (sched m t ++ _).getD t 0 = _
  rw [getD_at _ _ (sched_len m t), if_pos h]
theorem wt_hi (m : Nat → Nat) {t : Nat} (h : ¬ t < 16) : wt m t = ad (ad (ad (sg1 (wt m (t - 2))) (wt m (t - 7))) (sg0 (wt m (t - 15)))) (wt m (t - 16)) := by
  conv => lhs; unfold wt
  show (sched m t ++ _).getD t 0 = _
  rw [getD_at _ _ (sched_len m t), if_neg h, sched_getD m _ t (by omega), sched_getD m _ t (by omega), sched_getD m _ t (by omega), sched_getD m _ t (by omega)]

/-- a to h. -/
structure St where
  a : Nat
  b : Nat
  c : Nat
  d : Nat
  e : Nat
  f : Nat
  g : Nat
  h : Nat
def t1N (s : St) (k w : Nat) : Nat := ad (ad (ad (ad s.h (bs1 s.e)) (chN s.e s.f s.g)) k) w
def t2N (s : St) : Nat := ad (bs0 s.a) (majN s.a s.b s.c)
def stepN (s : St) (k w : Nat) : St := ⟨ad (t1N s k w) (t2N s), s.a, s.b, s.c, ad s.d (t1N s k w), s.e, s.f, s.g⟩
def roundsN (m : Nat → Nat) (s : St) : Nat → St
  | 0 => s
  | t + 1 => stepN (roundsN m s t) (kc t) (wt m t)
def addSt (x y : St) : St := ⟨ad x.a y.a, ad x.b y.b, ad x.c y.c, ad x.d y.d, ad x.e y.e, ad x.f y.f, ad x.g y.g, ad x.h y.h⟩
def blockN (m : Nat → Nat) (s : St) : St := addSt s (roundsN m s 64)
/-- Word t of the block that begins at byte 'at' of a text. -/
def word (text : Nat → Nat) (i : Nat) : Nat := text i * 16777216 + text (i + 1) * 65536 + text (i + 2) * 256 + text (i + 3)
def blocksN (text : Nat → Nat) : Nat → St
  | 0 => ⟨1779033703, 3144134277, 1013904242, 2773480762, 1359893119, 2600822924, 528734635, 1541459225⟩
  | n + 1 => blockN (fun t => word text (64 * n + 4 * t)) (blocksN text n)
/-- How many bytes 0 stand behind the byte 128, and how many blocks there are. -/
def nBlocks (len : Nat) : Nat := (len + 9 + 63) / 64
/-- The text, padded. -/
def padded (b : Nat → Nat) (len : Nat) : Nat → Nat := fun i =>
  if i < len then b i else if i = len then 128 else if i < 64 * nBlocks len - 8 then 0 else 8 * len / 256 ^ (64 * nBlocks len - 1 - i) % 256
/-- The sum: its word i. -/
def shaSt (b : Nat → Nat) (len : Nat) : St := blocksN (padded b len) (nBlocks len)
end Go.Proofs.YtmgogcoafhompaaDoor
