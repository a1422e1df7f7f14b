/- What the document's functions on layer 13's tables answer: the next state, the act. Its condition: a state and an event of the table. -/
import Derived.Test.YthghedlgeceepaaJtab
import Derived.BigQuiet
namespace Go.Proofs.Ythghedlgeceepaa
open Go.ChangeShapes Go.WideShapes Go.ChangeAt Go.RowKit
set_option maxRecDepth 100000

def docT : Bool → Tb
  | true => appT
  | false => regT
def docN : Bool → Nat
  | true => 5
  | false => 3
def docK : Bool → Nat
  | true => 6
  | false => 5
theorem doc_len (b : Bool) : (docT b).length = docN b := by cases b <;> rfl
theorem doc_row {b : Bool} {s : Nat} (h : s < docN b) : ((docT b).getD s []).length = docK b := by
  cases b
  · have : s = 0 ∨ s = 1 ∨ s = 2 := by simp only [docN] at h; omega
    rcases this with rfl | rfl | rfl <;> rfl
  · have : s = 0 ∨ s = 1 ∨ s = 2 ∨ s = 3 ∨ s = 4 := by simp only [docN] at h; omega
    rcases this with rfl | rfl | rfl | rfl | rfl <;> rfl
theorem doc_good (b : Bool) : goodT (docT b) = true := by cases b <;> decide +kernel
end Go.Proofs.Ythghedlgeceepaa
