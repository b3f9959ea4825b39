/- package name: what a parse answers. Nothing of the program. -/
import Derived.Test.YtpmkcjgndljhgaaDoorNameMath
import Derived.Test.YtpmkcjgndljhgaaDoorBuilt
import Derived.Test.YtpmkcjgndljhgaaDoorWords
import Derived.Test.YtpmkcjgndljhgaaDoorBaStr
namespace Go.Proofs.YtpmkcjgndljhgaaDoor
open Go.ChangeShapes Go.WideShapes Go.ChangeAt Go.RowKit

/-- P7.2: what a parse answers -/
def Parsed (l : List UInt8) (k n : Nat) (b : Bool) : Prop := (b = true ∧ IsName l k n) ∨ (b = false ∧ k = 0 ∧ n = 0 ∧ ∀ k n, ¬ IsName l k n)
theorem Parsed.once {l : List UInt8} {k n k' n' : Nat} {b b' : Bool} (h : Parsed l k n b) (h' : Parsed l k' n' b') : k = k' ∧ n = n' ∧ b = b' := by
  rcases h with ⟨rfl, h⟩ | ⟨rfl, rfl, rfl, h⟩ <;> rcases h' with ⟨rfl, h'⟩ | ⟨rfl, rfl, rfl, h'⟩
  · obtain ⟨h1, h2⟩ := h.once h'
    exact ⟨h1, h2, rfl⟩
  · exact absurd h (h' _ _)
  · exact absurd h' (h _ _)
  · exact ⟨rfl, rfl, rfl⟩

def ParsedR (l : List UInt8) (e : Ending) : Prop := ∃ (k n : Nat) (b : Bool), e = .returned (.tuple #[.int .u8 k, .int .u64 n, .bool b]) ∧ Parsed l k n b

end Go.Proofs.YtpmkcjgndljhgaaDoor
