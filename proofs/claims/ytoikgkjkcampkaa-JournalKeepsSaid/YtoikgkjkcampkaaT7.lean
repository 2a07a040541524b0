/-
  clapperref08.Same: are two rows of fields the same?
-/
import Derived.Test.YtoikgkjkcampkaaT6
namespace Go.Proofs.Ytoikgkjkcampkaa
open Go.RowKit

theorem fd_eq {fs gs : List Fd} (hl : fs.length = gs.length) (h : ∀ i, i < fs.length → tgF fs i = tgF gs i ∧ bsF fs i = bsF gs i) : fs = gs := by
  apply List.ext_getElem hl
  intro i h1 h2
  have h3 := h i h1
  unfold tgF bsF at h3
  simp only [List.getD_eq_getElem?_getD, List.getElem?_eq_getElem h1, List.getElem?_eq_getElem h2, Option.getD_some] at h3
  exact Prod.ext h3.1 h3.2

end Go.Proofs.Ytoikgkjkcampkaa
