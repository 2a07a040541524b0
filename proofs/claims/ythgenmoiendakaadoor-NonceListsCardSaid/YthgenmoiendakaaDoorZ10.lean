/-
  Merged: NE NU FrameN ArgD.
-/
import Derived.Lib.SmallJoins
import Derived.WalkKit
import Derived.ProofKit
import Derived.Laws.IdiomArrays
import Derived.OpenShut
import Derived.Test.YthgenmoiendakaaDoorZ8
import Derived.Test.YthgenmoiendakaaDoorZ9
import Derived.Test.YthgenmoiendakaaDoorRows
import Derived.Test.YthgenmoiendakaaDoorZ1

/-
  The document's example of candidates, reckoned.
-/
namespace Go.Proofs.YthgenmoiendakaaDoor

theorem shaSt_same {b b' : Nat → Nat} {n : Nat} (h : ∀ i, i < n → b i = b' i) : shaSt b n = shaSt b' n := by
  unfold shaSt
  refine blocksN_congr _ fun i _ => ?_
  unfold padded
  by_cases c : i < n
  · rw [if_pos c, if_pos c, h i c]
  · rw [if_neg c, if_neg c]
/-- The sum of bytes in a list. -/
def sumL (l : List Nat) (n : Nat) : List Nat := (List.range 32).map fun i => dByte (shaSt (fun j => l.getD j 0) n) i
theorem sumL_at (l : List Nat) (n : Nat) {j : Nat} (hj : j < 32) : (sumL l n).getD j 0 = dByte (shaSt (fun j => l.getD j 0) n) j := by simp [sumL, List.getD, hj]
/-- A code's steps, all as lists: the inner text, its sum, the outer text, its sum. -/
structure MacL (kL tL iL jL oL rL : List Nat) (m : Nat) : Prop where
  i : ((List.range 64).map fun j => kL.getD j 0 ^^^ 54) ++ tL = iL
  j : sumL iL (64 + m) = jL
  o : ((List.range 64).map fun j => kL.getD j 0 ^^^ 92) ++ jL = oL
  r : sumL oL 96 = rL
theorem kb_lit {k : Nat → Nat} {kL : List Nat} (hl : kL.length = 32) (hk : ∀ j, j < 32 → k j = kL.getD j 0) (j : Nat) (hj : j < 64) : kb k 32 j = kL.getD j 0 := by
  unfold kb
  rw [if_neg (by decide)]
  unfold upTo
  split
  · exact hk j (by assumption)
  · rw [List.getD_eq_getElem?_getD, List.getElem?_eq_none (by omega)]; rfl
theorem app_lit {l : List Nat} {x : Nat → Nat} {k : Nat → Nat} {c n m : Nat} (f : Nat → Nat) (hf : ∀ j, j < c → x j = f j) (hk : ∀ j, j < m → k j = l.getD j 0) (hn : n = c + m) : ∀ j, j < n → cat x c k j = (((List.range c).map f) ++ l).getD j 0 := fun j hj => by
  unfold cat
  by_cases h : j < c
  · rw [if_pos h, hf j h, List.getD_eq_getElem?_getD, List.getElem?_append_left (by simpa using h)]
    simp [h]
  · rw [if_neg h, hk _ (by omega), List.getD_eq_getElem?_getD, List.getD_eq_getElem?_getD, List.getElem?_append_right (by simpa using Nat.le_of_not_lt h)]
    simp
theorem nb_lit {k t : Nat → Nat} {m : Nat} {kL tL iL jL oL rL : List Nat} (hl : kL.length = 32) (hk : ∀ j, j < 32 → k j = kL.getD j 0) (ht : ∀ j, j < m → t j = tL.getD j 0) (h : MacL kL tL iL jL oL rL m) : ∀ j, j < 32 → nb k 32 t m j = rL.getD j 0 := fun j hj => by
  have h1 : ∀ i, i < 64 + m → macIn k 32 t i = iL.getD i 0 := fun i hi => by
    rw [← h.i]
    exact app_lit _ (fun j hj => by rw [kb_lit hl hk j hj]) ht rfl i hi
  have h2 : ∀ i, i < 32 → dByte (shaSt (macIn k 32 t) (64 + m)) i = jL.getD i 0 := fun i hi => by
    rw [shaSt_same h1, ← h.j, sumL_at _ _ hi]
  have h3 : ∀ i, i < 96 → macOut k 32 t m i = oL.getD i 0 := fun i hi => by
    rw [← h.o]
    exact app_lit _ (fun j hj => by rw [kb_lit hl hk j hj]) h2 rfl i hi
  unfold nb
  rw [shaSt_same h3, ← h.r, sumL_at _ _ hj]
theorem tx_lit {v t : Nat → Nat} {m b : Nat} {vL tL : List Nat} (hl : vL.length = 32) (hv : ∀ j, j < 32 → v j = vL.getD j 0) (ht : ∀ j, j < m → t j = tL.getD j 0) : ∀ j, j < 33 + m → tx v b t j = (vL ++ b :: tL).getD j 0 := fun j hj => by
  unfold tx cat
  by_cases h : j < 32
  · rw [if_pos h, hv j h, List.getD_eq_getElem?_getD, List.getD_eq_getElem?_getD, List.getElem?_append_left (by omega)]
  · rw [if_neg h, List.getD_eq_getElem?_getD, List.getElem?_append_right (by omega), hl]
    by_cases h2 : j - 32 < 1
    · rw [if_pos h2, show j - 32 = 0 by omega]; rfl
    · rw [if_neg h2, ht _ (by omega), List.getD_eq_getElem?_getD, show j - 32 = (j - 32 - 1) + 1 by omega]; simp
/-- K and V, as lists. -/
structure KVL (s : KV) (kL vL : List Nat) : Prop where
  k : ∀ j, j < 32 → s.k j = kL.getD j 0
  v : ∀ j, j < 32 → s.v j = vL.getD j 0
  kl : kL.length = 32
  vl : vL.length = 32
theorem KVL.mix {s : KV} {kL vL k2 v2 tL a b c d e f : List Nat} {t : Nat → Nat} {m x : Nat} (h : KVL s kL vL) (ht : ∀ j, j < m → t j = tL.getD j 0) (h1 : MacL kL (vL ++ x :: tL) a b c k2 (33 + m)) (h2 : MacL k2 vL d e f v2 32) : KVL (s.mix x t m) k2 v2 := by
  have hk : ∀ j, j < 32 → nb s.k 32 (tx s.v x t) (33 + m) j = k2.getD j 0 := nb_lit h.kl h.k (tx_lit h.vl h.v ht) h1
  have hkl : k2.length = 32 := by rw [← h1.r]; simp [sumL]
  exact ⟨hk, nb_lit hkl hk h.v h2, hkl, by rw [← h2.r]; simp [sumL]⟩
def exK0 : List Nat := [0, 0, 0, 0, 0, 0, 0, 0, 0, 0, 0, 0, 0, 0, 0, 0, 0, 0, 0, 0, 0, 0, 0, 0, 0, 0, 0, 0, 0, 0, 0, 0]
def exV0 : List Nat := [1, 1, 1, 1, 1, 1, 1, 1, 1, 1, 1, 1, 1, 1, 1, 1, 1, 1, 1, 1, 1, 1, 1, 1, 1, 1, 1, 1, 1, 1, 1, 1]
def exT : List Nat := [201, 175, 169, 216, 69, 186, 117, 22, 107, 92, 33, 87, 103, 177, 214, 147, 78, 80, 195, 219, 54, 232, 155, 18, 123, 138, 98, 43, 18, 15, 103, 33, 175, 43, 219, 225, 170, 155, 110, 193, 226, 173, 225, 214, 148, 244, 31, 199, 26, 131, 29, 2, 104, 233, 137, 21, 98, 17, 61, 138, 98, 173, 209, 191]
def exK1I : List Nat := [54, 54, 54, 54, 54, 54, 54, 54, 54, 54, 54, 54, 54, 54, 54, 54, 54, 54, 54, 54, 54, 54, 54, 54, 54, 54, 54, 54, 54, 54, 54, 54, 54, 54, 54, 54, 54, 54, 54, 54, 54, 54, 54, 54, 54, 54, 54, 54, 54, 54, 54, 54, 54, 54, 54, 54, 54, 54, 54, 54, 54, 54, 54, 54, 1, 1, 1, 1, 1, 1, 1, 1, 1, 1, 1, 1, 1, 1, 1, 1, 1, 1, 1, 1, 1, 1, 1, 1, 1, 1, 1, 1, 1, 1, 1, 1, 0, 201, 175, 169, 216, 69, 186, 117, 22, 107, 92, 33, 87, 103, 177, 214, 147, 78, 80, 195, 219, 54, 232, 155, 18, 123, 138, 98, 43, 18, 15, 103, 33, 175, 43, 219, 225, 170, 155, 110, 193, 226, 173, 225, 214, 148, 244, 31, 199, 26, 131, 29, 2, 104, 233, 137, 21, 98, 17, 61, 138, 98, 173, 209, 191]
def exK1J : List Nat := [125, 230, 0, 215, 33, 227, 144, 105, 112, 79, 21, 150, 126, 237, 140, 79, 30, 0, 233, 186, 253, 177, 107, 176, 159, 35, 154, 203, 177, 114, 169, 7]
def exK1O : List Nat := [92, 92, 92, 92, 92, 92, 92, 92, 92, 92, 92, 92, 92, 92, 92, 92, 92, 92, 92, 92, 92, 92, 92, 92, 92, 92, 92, 92, 92, 92, 92, 92, 92, 92, 92, 92, 92, 92, 92, 92, 92, 92, 92, 92, 92, 92, 92, 92, 92, 92, 92, 92, 92, 92, 92, 92, 92, 92, 92, 92, 92, 92, 92, 92, 125, 230, 0, 215, 33, 227, 144, 105, 112, 79, 21, 150, 126, 237, 140, 79, 30, 0, 233, 186, 253, 177, 107, 176, 159, 35, 154, 203, 177, 114, 169, 7]
def exK1 : List Nat := [18, 45, 177, 222, 152, 218, 228, 223, 163, 63, 45, 168, 233, 132, 148, 200, 11, 255, 128, 123, 71, 159, 215, 146, 97, 179, 126, 37, 242, 103, 238, 88]
theorem exK1_mac : MacL exK0 (exV0 ++ 0 :: exT) exK1I exK1J exK1O exK1 97 := ⟨by decide +kernel, by decide +kernel, by decide +kernel, by decide +kernel⟩
def exV1I : List Nat := [36, 27, 135, 232, 174, 236, 210, 233, 149, 9, 27, 158, 223, 178, 162, 254, 61, 201, 182, 77, 113, 169, 225, 164, 87, 133, 72, 19, 196, 81, 216, 110, 54, 54, 54, 54, 54, 54, 54, 54, 54, 54, 54, 54, 54, 54, 54, 54, 54, 54, 54, 54, 54, 54, 54, 54, 54, 54, 54, 54, 54, 54, 54, 54, 1, 1, 1, 1, 1, 1, 1, 1, 1, 1, 1, 1, 1, 1, 1, 1, 1, 1, 1, 1, 1, 1, 1, 1, 1, 1, 1, 1, 1, 1, 1, 1]
def exV1J : List Nat := [88, 16, 220, 226, 184, 65, 116, 76, 208, 1, 60, 178, 211, 216, 27, 220, 151, 159, 225, 50, 22, 231, 99, 163, 96, 8, 16, 198, 57, 219, 248, 69]
def exV1O : List Nat := [78, 113, 237, 130, 196, 134, 184, 131, 255, 99, 113, 244, 181, 216, 200, 148, 87, 163, 220, 39, 27, 195, 139, 206, 61, 239, 34, 121, 174, 59, 178, 4, 92, 92, 92, 92, 92, 92, 92, 92, 92, 92, 92, 92, 92, 92, 92, 92, 92, 92, 92, 92, 92, 92, 92, 92, 92, 92, 92, 92, 92, 92, 92, 92, 88, 16, 220, 226, 184, 65, 116, 76, 208, 1, 60, 178, 211, 216, 27, 220, 151, 159, 225, 50, 22, 231, 99, 163, 96, 8, 16, 198, 57, 219, 248, 69]
def exV1 : List Nat := [201, 148, 120, 3, 167, 71, 252, 96, 194, 53, 53, 253, 204, 19, 181, 202, 86, 107, 72, 34, 28, 166, 125, 73, 100, 210, 45, 170, 72, 39, 88, 68]
theorem exV1_mac : MacL exK1 (exV0) exV1I exV1J exV1O exV1 32 := ⟨by decide +kernel, by decide +kernel, by decide +kernel, by decide +kernel⟩
def exK2I : List Nat := [36, 27, 135, 232, 174, 236, 210, 233, 149, 9, 27, 158, 223, 178, 162, 254, 61, 201, 182, 77, 113, 169, 225, 164, 87, 133, 72, 19, 196, 81, 216, 110, 54, 54, 54, 54, 54, 54, 54, 54, 54, 54, 54, 54, 54, 54, 54, 54, 54, 54, 54, 54, 54, 54, 54, 54, 54, 54, 54, 54, 54, 54, 54, 54, 201, 148, 120, 3, 167, 71, 252, 96, 194, 53, 53, 253, 204, 19, 181, 202, 86, 107, 72, 34, 28, 166, 125, 73, 100, 210, 45, 170, 72, 39, 88, 68, 1, 201, 175, 169, 216, 69, 186, 117, 22, 107, 92, 33, 87, 103, 177, 214, 147, 78, 80, 195, 219, 54, 232, 155, 18, 123, 138, 98, 43, 18, 15, 103, 33, 175, 43, 219, 225, 170, 155, 110, 193, 226, 173, 225, 214, 148, 244, 31, 199, 26, 131, 29, 2, 104, 233, 137, 21, 98, 17, 61, 138, 98, 173, 209, 191]
def exK2J : List Nat := [43, 67, 202, 155, 90, 142, 168, 8, 18, 251, 105, 237, 111, 46, 85, 127, 104, 211, 127, 224, 43, 64, 199, 25, 19, 107, 218, 227, 92, 85, 110, 155]
def exK2O : List Nat := [78, 113, 237, 130, 196, 134, 184, 131, 255, 99, 113, 244, 181, 216, 200, 148, 87, 163, 220, 39, 27, 195, 139, 206, 61, 239, 34, 121, 174, 59, 178, 4, 92, 92, 92, 92, 92, 92, 92, 92, 92, 92, 92, 92, 92, 92, 92, 92, 92, 92, 92, 92, 92, 92, 92, 92, 92, 92, 92, 92, 92, 92, 92, 92, 43, 67, 202, 155, 90, 142, 168, 8, 18, 251, 105, 237, 111, 46, 85, 127, 104, 211, 127, 224, 43, 64, 199, 25, 19, 107, 218, 227, 92, 85, 110, 155]
def exK2 : List Nat := [182, 212, 249, 142, 186, 231, 10, 161, 90, 34, 56, 173, 228, 226, 10, 179, 35, 252, 30, 119, 125, 34, 240, 197, 130, 216, 239, 46, 107, 167, 53, 105]
theorem exK2_mac : MacL exK1 (exV1 ++ 1 :: exT) exK2I exK2J exK2O exK2 97 := ⟨by decide +kernel, by decide +kernel, by decide +kernel, by decide +kernel⟩
def exV2I : List Nat := [128, 226, 207, 184, 140, 209, 60, 151, 108, 20, 14, 155, 210, 212, 60, 133, 21, 202, 40, 65, 75, 20, 198, 243, 180, 238, 217, 24, 93, 145, 3, 95, 54, 54, 54, 54, 54, 54, 54, 54, 54, 54, 54, 54, 54, 54, 54, 54, 54, 54, 54, 54, 54, 54, 54, 54, 54, 54, 54, 54, 54, 54, 54, 54, 201, 148, 120, 3, 167, 71, 252, 96, 194, 53, 53, 253, 204, 19, 181, 202, 86, 107, 72, 34, 28, 166, 125, 73, 100, 210, 45, 170, 72, 39, 88, 68]
def exV2J : List Nat := [184, 206, 113, 35, 205, 184, 19, 154, 104, 15, 34, 43, 43, 131, 243, 74, 55, 231, 233, 175, 227, 20, 244, 122, 220, 1, 223, 228, 146, 77, 213, 5]
def exV2O : List Nat := [234, 136, 165, 210, 230, 187, 86, 253, 6, 126, 100, 241, 184, 190, 86, 239, 127, 160, 66, 43, 33, 126, 172, 153, 222, 132, 179, 114, 55, 251, 105, 53, 92, 92, 92, 92, 92, 92, 92, 92, 92, 92, 92, 92, 92, 92, 92, 92, 92, 92, 92, 92, 92, 92, 92, 92, 92, 92, 92, 92, 92, 92, 92, 92, 184, 206, 113, 35, 205, 184, 19, 154, 104, 15, 34, 43, 43, 131, 243, 74, 55, 231, 233, 175, 227, 20, 244, 122, 220, 1, 223, 228, 146, 77, 213, 5]
def exV2 : List Nat := [186, 229, 127, 226, 86, 222, 45, 232, 6, 177, 6, 53, 73, 114, 55, 231, 186, 233, 103, 84, 88, 37, 102, 56, 76, 71, 198, 195, 65, 100, 148, 209]
theorem exV2_mac : MacL exK2 (exV1) exV2I exV2J exV2O exV2 32 := ⟨by decide +kernel, by decide +kernel, by decide +kernel, by decide +kernel⟩
def exV3I : List Nat := [128, 226, 207, 184, 140, 209, 60, 151, 108, 20, 14, 155, 210, 212, 60, 133, 21, 202, 40, 65, 75, 20, 198, 243, 180, 238, 217, 24, 93, 145, 3, 95, 54, 54, 54, 54, 54, 54, 54, 54, 54, 54, 54, 54, 54, 54, 54, 54, 54, 54, 54, 54, 54, 54, 54, 54, 54, 54, 54, 54, 54, 54, 54, 54, 186, 229, 127, 226, 86, 222, 45, 232, 6, 177, 6, 53, 73, 114, 55, 231, 186, 233, 103, 84, 88, 37, 102, 56, 76, 71, 198, 195, 65, 100, 148, 209]
def exV3J : List Nat := [220, 7, 25, 109, 50, 98, 156, 228, 4, 109, 141, 115, 212, 90, 239, 255, 19, 109, 209, 10, 88, 242, 183, 100, 111, 68, 181, 82, 25, 151, 55, 12]
def exV3O : List Nat := [234, 136, 165, 210, 230, 187, 86, 253, 6, 126, 100, 241, 184, 190, 86, 239, 127, 160, 66, 43, 33, 126, 172, 153, 222, 132, 179, 114, 55, 251, 105, 53, 92, 92, 92, 92, 92, 92, 92, 92, 92, 92, 92, 92, 92, 92, 92, 92, 92, 92, 92, 92, 92, 92, 92, 92, 92, 92, 92, 92, 92, 92, 92, 92, 220, 7, 25, 109, 50, 98, 156, 228, 4, 109, 141, 115, 212, 90, 239, 255, 19, 109, 209, 10, 88, 242, 183, 100, 111, 68, 181, 82, 25, 151, 55, 12]
def exV3 : List Nat := [166, 227, 197, 125, 208, 26, 190, 144, 8, 101, 56, 57, 131, 85, 221, 76, 59, 23, 170, 135, 51, 130, 176, 242, 77, 97, 41, 73, 61, 138, 173, 96]
theorem exV3_mac : MacL exK2 (exV2) exV3I exV3J exV3O exV3 32 := ⟨by decide +kernel, by decide +kernel, by decide +kernel, by decide +kernel⟩
/-- The example's secret, the bytes of its text, and its digest. -/
def exD : Nat := 91225253027397101270059260515990221874496108017261222445699397644687913215777
def exM : Nat := 79232240492262066599341792208678897019497196617930543451364792016062498329023
def exX : Nat := 75486370184466523516702714224272210659255809472406410223340475427961162083680
def smpL : List Nat := [115, 97, 109, 112, 108, 101]
def smp : Nat → Nat := fun j => smpL.getD j 0
def exH : Nat → Nat := fun j => dByte (shaSt smp 6) j
def exHL : List Nat := [175, 43, 219, 225, 170, 155, 110, 193, 226, 173, 225, 214, 148, 244, 31, 199, 26, 131, 29, 2, 104, 233, 137, 21, 98, 17, 61, 138, 98, 173, 209, 191]
theorem exH_lt (j : Nat) : exH j < 256 := dByte_lt _ j
theorem exH_lit : ∀ j, j < 32 → exH j = exHL.getD j 0 := fun j hj => by
  have h : sumL smpL 6 = exHL := by decide +kernel
  rw [← h, sumL_at _ _ hj]; rfl
theorem num32_same {y y' : Nat → Nat} (h : ∀ j, j < 32 → y j = y' j) : num32 y = num32 y' := by
  unfold num32
  have : ∀ n, n ≤ 32 → lev (fun k => y (32 - 1 - k)) n = lev (fun k => y' (32 - 1 - k)) n := by
    intro n
    induction n with
    | zero => intro _; rfl
    | succ n ih =>
      intro hn
      show lev _ n + _ = lev _ n + _
      rw [ih (by omega), show (fun k => y (32 - 1 - k)) n = (fun k => y' (32 - 1 - k)) n from h (32 - 1 - n) (by omega)]
  exact this 32 (Nat.le_refl _)
theorem ex_mod : num32 exH % Pt.nn = exM := by
  rw [num32_same exH_lit]
  decide +kernel
theorem ex_two : ∀ j, j < 64 → two exD exM j = exT.getD j 0 := by
  have h : (List.range 64).all (fun j => two exD exM j == exT.getD j 0) = true := by decide +kernel
  exact fun j hj => eq_of_beq (List.all_eq_true.1 h j (by simpa using hj))
theorem ex_kv0 : KVL kv0 exK0 exV0 := by
  have h : (List.range 32).all (fun j => exK0.getD j 0 == 0 && exV0.getD j 0 == 1) = true := by decide +kernel
  refine ⟨fun j hj => ?_, fun j hj => ?_, rfl, rfl⟩
  · have := List.all_eq_true.1 h j (by simpa using hj)
    simp only [Bool.and_eq_true, beq_iff_eq] at this
    exact this.1.symm
  · have := List.all_eq_true.1 h j (by simpa using hj)
    simp only [Bool.and_eq_true, beq_iff_eq] at this
    exact this.2.symm
theorem ex_kvS : KVL (kvS exD exM) exK2 exV2 := (ex_kv0.mix ex_two exK1_mac exV1_mac).mix ex_two exK2_mac exV2_mac
theorem ex_num : numN exD exM 0 = exX := by
  show num32 (nb (kvS exD exM).k 32 (kvS exD exM).v 32) = _
  rw [num32_same (nb_lit ex_kvS.kl ex_kvS.k ex_kvS.v exV3_mac)]
  decide +kernel
theorem ex_may : mayB exX = true := by decide +kernel
theorem ex_mayD : mayB exD = true := by decide +kernel
theorem ex_top : exD < top ∧ exX < top := by decide +kernel
theorem ex_out : outN exD exM 1 = [exX] := by
  show (if mayB (numN exD exM 0) = true then [] ++ [numN exD exM 0] else []) = _
  rw [ex_num, if_pos ex_may]; rfl
theorem ex_ends : Ends exD exM 1 1 := ⟨by decide, fun j hj => by obtain rfl : j = 0 := by omega
                                                                 exact Nat.zero_lt_one, .inr (by rw [ex_out]; decide)⟩
theorem ex_words : wd exD 0 = 8902035550577321761 ∧ wd exD 1 = 5643225679381699346 ∧ wd exD 2 = 7736094919201248915 ∧ wd exD 3 = 14533021268895757590 := by decide +kernel
theorem ex_wordsX : wd exX 0 = 5575783208203234656 ∧ wd exX 1 = 4258059470363603186 ∧ wd exX 2 = 604951544618933580 ∧ wd exX 3 = 12025672574162353808 := by decide +kernel
end Go.Proofs.YthgenmoiendakaaDoor


/-
  clapperlaw06.up: the document's example.
-/
namespace Go.Proofs.YthgenmoiendakaaDoor
open Go.RowKit

set_option maxRecDepth 100000 in
set_option maxHeartbeats 1000000 in
theorem secret_is (w : World) : Calls Tryd.prog 9 #[] w fun e w' => e = .returned (nv exD) ∧ Ext w w' := by
  obtain ⟨l0, l1, l2, l3⟩ := ex_words
  unfold nv nc
  rw [l0, l1, l2, l3]
  clear l0 l1 l2 l3
  go_enter Tryd.func9, Tryd.ntmps9
  go_wp2
  exact bodyPost_ret (results_cell_row rfl _ _ w.heap.size 24 #[.int .u64 8902035550577321761, .int .u64 5643225679381699346, .int .u64 7736094919201248915, .int .u64 14533021268895757590] (0, 0) _ rfl (heap_alloc_last w _) Tryd.underlying24 rfl (by kernel_rfl)) rfl ⟨rfl, (Below.refl _ _).alloc (Nat.le_refl _) _⟩
theorem smp_lt (j : Nat) : smp j < 256 := by
  unfold smp
  rw [List.getD_eq_getElem?_getD]
  cases e : smpL[j]? with
  | none => simp
  | some v =>
    have h : smpL.all (· < 256) = true := by decide
    have := List.all_eq_true.1 h v (List.mem_of_getElem? e)
    simpa using this
theorem ex_list (w : World) (hK : KT w) : Calls Tryd.prog 6 #[nv exD, .agg (dgst smp 6), .int .i64 1] w fun e w' => ∃ g cap, e = .returned (.tuple #[.slice (some ⟨g, 0, none⟩) 1 cap, .nilIface]) ∧ w'.rangeAt g 0 (nc exX).toList ∧ Ext w w' := by
  refine (list_good exD ex_top.1 exH exH_lt 1 (by decide) ex_mayD w hK).mono ?_
  rintro e w4 ⟨v, ev, rfl, ⟨s, hE, h⟩, hE4⟩
  rw [ex_mod] at hE h
  obtain rfl := hE.same ex_ends
  rw [ex_out] at h
  rcases h with ⟨_, rfl, hO⟩ | ⟨h, _⟩
  · obtain ⟨g, cap, rfl, _, _, hr⟩ := hO.at (i := 0) (by decide)
    exact ⟨g, cap, rfl, hr, hE4⟩
  · exact absurd h (by decide)
set_option maxRecDepth 100000 in
set_option maxHeartbeats 8000000 in
theorem up6_calls (w : World) (hK : KT w) : Calls Tryd.prog 5 #[] w fun e w' => e = .returned (.bool true) ∧ Ext w w' := by
  have HK := veil hK
  clear hK
  go_enter Tryd.func5, Tryd.ntmps5
  go_wp2_with fail
  refine (secret_is w).mono ?_
  rintro e w1 ⟨rfl, hE1⟩
  have kc0 := Joins.run_convert_bytes_const_at (P := Tryd.prog) w1 40 5 #[.int .u8 115, .int .u8 97, .int .u8 109, .int .u8 112, .int .u8 108, .int .u8 101] 6 6 w1.heap.size rfl Tryd.underlying40 Tryd.underlying5
  have hsz0 : (#[.int .u8 115, .int .u8 97, .int .u8 109, .int .u8 112, .int .u8 108, .int .u8 101] : Array Value).size = 6 := rfl
  rw [hsz0] at kc0
  clear hsz0
  go_wp2_with fail
  clear kc0
  have hS : Src (w1.alloc (.cells #[.int .u8 115, .int .u8 97, .int .u8 109, .int .u8 112, .int .u8 108, .int .u8 101] 5 (6, 7))) (some ⟨w1.heap.size, 0, none⟩) 6 smp (w1.alloc (.cells #[.int .u8 115, .int .u8 97, .int .u8 109, .int .u8 112, .int .u8 108, .int .u8 101] 5 (6, 7))).heap.size := .inr ⟨_, 0, rfl, by simp, by simp, fun j hj => by
    rw [Nat.zero_add, World.cell?_alloc_mark, show (#[.int .u8 115, .int .u8 97, .int .u8 109, .int .u8 112, .int .u8 108, .int .u8 101] : Array Value) = arrOf 6 (fun j => .int .u8 (smp j : Nat)) from rfl]
    exact arrOf_get _ hj⟩
  have hE2 := hE1.trans (Ext.alloc w1 (.cells #[.int .u8 115, .int .u8 97, .int .u8 109, .int .u8 112, .int .u8 108, .int .u8 101] 5 (6, 7)))
  generalize w1.alloc (.cells #[.int .u8 115, .int .u8 97, .int .u8 109, .int .u8 112, .int .u8 108, .int .u8 101] 5 (6, 7)) = w2 at *
  refine (sum_calls (some ⟨w1.heap.size, 0, none⟩) 6 6 smp smp_lt (by decide) (by decide) w2 (HK.out.call hE2) hS).mono ?_
  rintro e w3 ⟨rfl, hb3⟩
  have hE3 : Ext w w3 := hE2.trans hb3
  have HL := veil (ex_list w3 (HK.out.call hE3))
  clear hS hE2 hb3 hE1
  go_upto_region 2 with (go_at_call 6; refine HL.out.mono ?_; rintro e w4 ⟨g, cap, rfl, hr, hE4⟩)
  obtain ⟨l0, l1, l2, l3⟩ := ex_wordsX
  have c0 : w4.cell? ⟨g, 0, none⟩ = some (.int .u64 5575783208203234656) := by rw [← l0]; exact hr 0 _ rfl
  have c1 : w4.cell? ⟨g, 1, none⟩ = some (.int .u64 4258059470363603186) := by rw [← l1]; exact hr 1 _ rfl
  have c2 : w4.cell? ⟨g, 2, none⟩ = some (.int .u64 604951544618933580) := by rw [← l2]; exact hr 2 _ rfl
  have c3 : w4.cell? ⟨g, 3, none⟩ = some (.int .u64 12025672574162353808) := by rw [← l3]; exact hr 3 _ rfl
  have he := eql_lit 5575783208203234656 4258059470363603186 604951544618933580 12025672574162353808 w4
  rw [run_eql_struct] at he
  clear hr l0 l1 l2 l3 HL
  go_wp2
  go_ret
  exact ⟨rfl, hE3.trans hE4⟩
end Go.Proofs.YthgenmoiendakaaDoor


/-
  How a number by value is read ahead of a law's call and behind it.
-/
namespace Go.Proofs.YthgenmoiendakaaDoor
open Go.ChangeShapes Go.WideShapes Go.ChangeAt Go.RowKit

theorem cellsWord : Tryd.prog.cellsOf 22 = 1 := by kernel_rfl
theorem cellsNum : Tryd.prog.cellsOf 24 = 4 := by kernel_rfl

/-- A number, as data. -/
def numD {H : Type} (X : Nat) : DataW H := .agg [.lit (.int .u64 (wd X 0)), .lit (.int .u64 (wd X 1)), .lit (.int .u64 (wd X 2)), .lit (.int .u64 (wd X 3))]

theorem wf_u64 {x : Int} (h : (Lit.int .u64 x).wf = true) : 0 ≤ x ∧ x < 18446744073709551616 := by
  simp only [Lit.wf, Bool.and_eq_true, decide_eq_true_eq] at h
  have e1 : IntKind.u64.min = 0 := rfl
  have e2 : IntKind.u64.max = 18446744073709551615 := rfl
  omega
theorem wf_wd (X i : Nat) : (Lit.int .u64 (wd X i)).wf = true := WalkArith.wf_u64 ⟨wd_lo X i, wd_le X i⟩

section
variable {H : Type} {enc : TypeId × Value → H}
set_option maxRecDepth 100000 in
theorem shut_num (W : World) (base : Nat) (sp : Nat → Bool) (hd : Bool) (X : Nat) : DataW.Trod enc Tryd.prog W base sp hd 24 (.agg #[.int .u64 (wd (X) 0), .int .u64 (wd (X) 1), .int .u64 (wd (X) 2), .int .u64 (wd (X) 3)]) (numD X) [] :=
  ⟨2, by simp [numD, DataW.trod, Value.cells, Tryd.underlying24, Tryd.underlying22, cellsNum, cellsWord, wf_wd, show List.range 4 = [0, 1, 2, 3] from rfl]⟩

set_option maxRecDepth 100000 in
theorem open_num {W : World} {base : Nat} {v : Value} {d : DataW H} {p : List MemPlace} (hv : Value.okWide Tryd.prog W .any base 24 v) (h : DataW.Trod enc Tryd.prog W 0 (fun _ => true) true 24 v d p) :
    ∃ X, X < top ∧ v = .agg #[.int .u64 (wd (X) 0), .int .u64 (wd (X) 1), .int .u64 (wd (X) 2), .int .u64 (wd (X) 3)] ∧ d = numD X ∧ p = [] := by
  obtain ⟨cs, rfl, hsz, _⟩ : ∃ cs, v = .agg cs ∧ cs.size = Tryd.prog.cellsOf 24 ∧ Row.okWide Tryd.prog W .any base 24 cs := by
    simpa [Value.okWide, Tryd.underlying24] using hv
  rw [cellsNum] at hsz
  obtain ⟨c0, c1, c2, c3, rfl⟩ := Joins.array4 hsz
  obtain ⟨fuel, hf⟩ := h
  obtain ⟨y0, y1, y2, y3, m, hx, hy0, hy1, hy2, hy3⟩ := trod_array4 Tryd.underlying24 cellsWord hf
  obtain ⟨x0, e0, rfl, w0⟩ := DataW.trod_int Tryd.underlying22 hy0
  obtain ⟨x1, e1, rfl, w1⟩ := DataW.trod_int Tryd.underlying22 hy1
  obtain ⟨x2, e2, rfl, w2⟩ := DataW.trod_int Tryd.underlying22 hy2
  obtain ⟨x3, e3, rfl, w3⟩ := DataW.trod_int Tryd.underlying22 hy3
  simp at e0 e1 e2 e3
  subst e0 e1 e2 e3
  simp only [Prod.mk.injEq] at hx
  obtain ⟨rfl, rfl⟩ := hx
  obtain ⟨a0, b0⟩ := wf_u64 w0
  obtain ⟨a1, b1⟩ := wf_u64 w1
  obtain ⟨a2, b2⟩ := wf_u64 w2
  obtain ⟨a3, b3⟩ := wf_u64 w3
  obtain ⟨g0, g1, g2, g3⟩ := wd_ofWords a0 b0 a1 b1 a2 b2 a3 b3
  refine ⟨ofWords x0 x1 x2 x3, ofWords_lt b0 b1 b2 b3, ?_, ?_, rfl⟩
  · rw [g0, g1, g2, g3]
  · unfold numD
    rw [g0, g1, g2, g3]
end
end Go.Proofs.YthgenmoiendakaaDoor


/-
  How a digest by value is read ahead of a law's call.
-/
namespace Go.Proofs.YthgenmoiendakaaDoor
open Go.ChangeShapes Go.WideShapes Go.ChangeAt Go.RowKit

theorem cellsDig : Tryd.prog.cellsOf 26 = 32 := by kernel_rfl
theorem cellsB : Tryd.prog.cellsOf 5 = 1 := by kernel_rfl
def byteOf : Option Value → Nat
  | some (.int _ x) => x.toNat % 256
  | _ => 0
theorem byteOf_lt (v : Option Value) : byteOf v < 256 := by
  unfold byteOf
  split
  · exact Nat.mod_lt _ (by decide)
  · decide
section
variable {H : Type} {enc : TypeId × Value → H}
set_option maxRecDepth 100000 in
theorem open_dig {W : World} {base : Nat} {v : Value} {d : DataW H} {p : List MemPlace} (hv : Value.okWide Tryd.prog W .any base 26 v) (h : DataW.Trod enc Tryd.prog W 0 (fun _ => true) true 26 v d p) :
    ∃ y : Nat → Nat, (∀ j, y j < 256) ∧ v = .agg (arrOf 32 fun i => .int .u8 (y i : Nat)) ∧ p = [] := by
  obtain ⟨cs, rfl, hsz, _⟩ : ∃ cs, v = .agg cs ∧ cs.size = Tryd.prog.cellsOf 26 ∧ Row.okWide Tryd.prog W .any base 26 cs := by
    simpa [Value.okWide, Tryd.underlying26] using hv
  rw [cellsDig] at hsz
  obtain ⟨fuel, hf⟩ := h
  obtain ⟨xs, m, _, hx, _, hn, hi⟩ := DataW.trod_array Tryd.underlying26 hf
  have hi : ∀ i, i < 32 → DataW.trod enc Tryd.prog W 0 (fun _ => true) true m 5 ((cs.toList.drop i).take 1) = xs[i]? := fun i h => by
    have h1 := hi i h
    rw [cellsB, Nat.mul_one] at h1
    exact h1
  have each : ∀ i, i < 32 → cs[i]? = some (.int .u8 (byteOf cs[i]? : Nat)) ∧ ∀ z, xs[i]? = some z → z.2 = [] := fun i h => by
    have hc : cs[i]? = some (cs[i]'(by omega)) := Array.getElem?_eq_getElem (by omega)
    have hl : (cs.toList.drop i).take 1 = [cs[i]'(by omega)] := by
      rw [List.drop_eq_getElem_cons (by simpa using (by omega : i < cs.size))]
      simp
    have hxi : xs[i]? = some (xs[i]'(by omega)) := List.getElem?_eq_getElem (by omega)
    have h1 := hi i h
    rw [hl, hxi] at h1
    obtain ⟨x, e, hz, wf⟩ := DataW.trod_int Tryd.underlying5 h1
    simp at e
    simp only [Lit.wf, Bool.and_eq_true, decide_eq_true_eq] at wf
    have e1 : IntKind.u8.min = 0 := rfl
    have e2 : IntKind.u8.max = 255 := rfl
    refine ⟨?_, fun z hz' => ?_⟩
    · rw [hc, e]
      show some (Value.int .u8 x) = some (.int .u8 ((x.toNat % 256 : Nat) : Int))
      have : ((x.toNat % 256 : Nat) : Int) = x := by omega
      rw [this]
    · rw [hxi] at hz'
      obtain rfl := Option.some.inj hz'
      rw [hz]
  refine ⟨fun i => byteOf cs[i]?, fun i => byteOf_lt _, ?_, ?_⟩
  · congr 1
    exact eq_arrOf hsz fun i h => (each i h).1
  · simp only [Prod.mk.injEq] at hx
    rw [hx.2]
    refine List.flatMap_eq_nil_iff.2 fun z hz => ?_
    obtain ⟨i, hi', rfl⟩ := List.getElem_of_mem hz
    exact (each i (by omega)).2 _ (List.getElem?_eq_getElem hi')
end
end Go.Proofs.YthgenmoiendakaaDoor
