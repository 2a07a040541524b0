/-
  The document's example of a code, reckoned.
-/
import Derived.Test.YtmgogcoafhompaaDoorMDef
namespace Go.Proofs.YtmgogcoafhompaaDoor

def jefeL : List Nat := [74, 101, 102, 101]
def upL0 : List Nat := [119, 104, 97, 116, 32, 100, 111, 32, 121, 97, 32, 119, 97, 110, 116, 32]
def upL1 : List Nat := [102, 111, 114, 32, 110, 111, 116, 104, 105, 110, 103, 63]
def jefeT : Nat → Nat := fun j => jefeL.getD j 0
def upY : Nat → Nat → Nat := fun r j => if r = 0 then upL0.getD j 0 else upL1.getD j 0
def upL : Nat → Nat := fun r => if r = 0 then 16 else 12
def inL : List Nat := [124, 83, 80, 83, 54, 54, 54, 54, 54, 54, 54, 54, 54, 54, 54, 54, 54, 54, 54, 54, 54, 54, 54, 54, 54, 54, 54, 54, 54, 54, 54, 54, 54, 54, 54, 54, 54, 54, 54, 54, 54, 54, 54, 54, 54, 54, 54, 54, 54, 54, 54, 54, 54, 54, 54, 54, 54, 54, 54, 54, 54, 54, 54, 54, 119, 104, 97, 116, 32, 100, 111, 32, 121, 97, 32, 119, 97, 110, 116, 32, 102, 111, 114, 32, 110, 111, 116, 104, 105, 110, 103, 63]
def innL : List Nat := [162, 228, 133, 134, 61, 39, 249, 216, 100, 172, 141, 128, 36, 50, 161, 237, 71, 125, 140, 76, 111, 52, 157, 22, 212, 231, 233, 23, 198, 41, 202, 215]
def outL : List Nat := [22, 57, 58, 57, 92, 92, 92, 92, 92, 92, 92, 92, 92, 92, 92, 92, 92, 92, 92, 92, 92, 92, 92, 92, 92, 92, 92, 92, 92, 92, 92, 92, 92, 92, 92, 92, 92, 92, 92, 92, 92, 92, 92, 92, 92, 92, 92, 92, 92, 92, 92, 92, 92, 92, 92, 92, 92, 92, 92, 92, 92, 92, 92, 92, 162, 228, 133, 134, 61, 39, 249, 216, 100, 172, 141, 128, 36, 50, 161, 237, 71, 125, 140, 76, 111, 52, 157, 22, 212, 231, 233, 23, 198, 41, 202, 215]
theorem in_up : ∀ j, j < 92 → macIn jefeT 4 (textN upL upY 2) j = inL.getD j 0 := by
  have h : (List.range 92).all (fun j => macIn jefeT 4 (textN upL upY 2) j == inL.getD j 0) = true := by decide +kernel
  intro j hj
  exact eq_of_beq (List.all_eq_true.1 h j (by simpa using hj))
theorem shaSt_congr {b b' : Nat → Nat} {n : Nat} (h : ∀ i, i < n → b i = b' i) : shaSt b n = shaSt b' n := by
  unfold shaSt
  refine blocksN_congr _ fun i _ => ?_
  unfold padded
  by_cases c : i < n
  · rw [if_pos c, if_pos c, h i c]
  · rw [if_neg c, if_neg c]
theorem inn_up : ∀ j, j < 32 → dByte (shaSt (macIn jefeT 4 (textN upL upY 2)) (64 + lenN upL 2)) j = innL.getD j 0 := by
  intro j hj
  have e : 64 + lenN upL 2 = 92 := rfl
  rw [e, shaSt_congr in_up]
  have h : (List.range 32).map (fun i => dByte (shaSt (fun j => inL.getD j 0) 92) i) = innL := by decide +kernel
  rw [← h]; simp [hj]
theorem out_up : ∀ j, j < 96 → macOut jefeT 4 (textN upL upY 2) (lenN upL 2) j = outL.getD j 0 := by
  have h : (List.range 64).all (fun j => kb jefeT 4 j ^^^ 92 == outL.getD j 0) = true := by decide +kernel
  have h2 : (List.range 32).all (fun j => innL.getD j 0 == outL.getD (64 + j) 0) = true := by decide +kernel
  intro j hj
  unfold macOut cat
  by_cases c : j < 64
  · rw [if_pos c]
    exact eq_of_beq (List.all_eq_true.1 h j (by simpa using c))
  · rw [if_neg c]
    refine (inn_up (j - 64) (by omega)).trans ?_
    have h3 := eq_of_beq (List.all_eq_true.1 h2 (j - 64) (by simp; omega))
    rw [h3]; congr 1; omega
theorem up_bytes : ∃ D, D = macD jefeT 4 (textN upL upY 2) (lenN upL 2) ∧ D[0]? = some (.int .u8 91) ∧ D[1]? = some (.int .u8 220) ∧ D[31]? = some (.int .u8 67) := by
  obtain ⟨e0, e1, e31⟩ : dByte (shaSt (fun j => outL.getD j 0) 96) 0 = 91 ∧ dByte (shaSt (fun j => outL.getD j 0) 96) 1 = 220 ∧ dByte (shaSt (fun j => outL.getD j 0) 96) 31 = 67 := by decide +kernel
  refine ⟨_, rfl, ?_, ?_, ?_⟩
  · unfold macD dgst; rw [shaSt_congr out_up, arrOf_get _ (by decide), e0]; rfl
  · unfold macD dgst; rw [shaSt_congr out_up, arrOf_get _ (by decide), e1]; rfl
  · unfold macD dgst; rw [shaSt_congr out_up, arrOf_get _ (by decide), e31]; rfl
end Go.Proofs.YtmgogcoafhompaaDoor
