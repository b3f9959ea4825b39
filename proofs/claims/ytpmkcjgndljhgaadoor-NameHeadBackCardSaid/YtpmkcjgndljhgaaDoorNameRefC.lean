/- package name, the document's: which heads are right -/
import Derived.Test.YtpmkcjgndljhgaaDoorNameRefB
import Derived.Test.YtpmkcjgndljhgaaDoorRefRd
import Derived.Test.YtpmkcjgndljhgaaDoorNameRefH
namespace Go.Proofs.YtpmkcjgndljhgaaDoor
open Go.ChangeShapes Go.WideShapes Go.ChangeAt Go.RowKit

set_option maxRecDepth 100000 in
theorem refRight_any (h : Hd) (w : World) : Calls Tryd.prog 18 #[.agg (hdCells h).toArray] w fun e w' => e = .returned (.bool (hdRight h)) ∧ Fr Non w w' := by
  obtain ⟨k, l, g, e, n⟩ := h
  have E : hdRight ⟨k, l, g, e, n⟩ = if k = 2 then decide (l < 5) else (decide (k = 1) || decide (k = 3)) && decide (l = 0) && decide (g = 0) := rfl
  have hc : (hdCells ⟨k, l, g, e, n⟩).toArray = #[.int .u8 k, .int .u8 l, .int .u64 g, .int .u64 e, .int .u64 n] := rfl
  rw [hc]
  clear hc
  have HE := Lib.hid E
  clear E
  go_enter Tryd.func18, Tryd.ntmps18
  by_cases h2 : k = 2
  · have r : hdRight ⟨k, l, g, e, n⟩ = decide ((l : Int) < 5) := by rw [HE.out, if_pos h2]; simp only [decide_eq_decide]; omega
    have HR := Lib.hid r
    clear r HE
    subst h2
    go_wp2
    go_ret
    exact ⟨by rw [HR.out]; rfl, Fr.alloc _ _⟩
  · have i2 : ((k : Int) == 2) = false := by simp; omega
    by_cases h13 : k = 1 ∨ k = 3
    · by_cases hl : l = 0
      · subst hl
        by_cases hg : g = 0
        · subst hg
          rcases h13 with rfl | rfl
          · go_wp2
            go_ret
            exact ⟨by rw [HE.out]; rfl, Fr.alloc _ _⟩
          · go_wp2
            go_ret
            exact ⟨by rw [HE.out]; rfl, Fr.alloc _ _⟩
        · have ig : ((g : Int) == 0) = false := by simp; omega
          have r : hdRight ⟨k, 0, g, e, n⟩ = false := by rw [HE.out, if_neg h2]; simp [hg]
          have HR := Lib.hid r
          clear r hg h2
          rcases h13 with rfl | rfl
          · go_wp2
            go_ret
            exact ⟨by rw [HR.out]; rfl, Fr.alloc _ _⟩
          · go_wp2
            go_ret
            exact ⟨by rw [HR.out]; rfl, Fr.alloc _ _⟩
      · have il : ((l : Int) == 0) = false := by simp; omega
        have r : hdRight ⟨k, l, g, e, n⟩ = false := by rw [HE.out, if_neg h2]; simp [hl]
        have HR := Lib.hid r
        clear r hl h2
        rcases h13 with rfl | rfl
        · go_wp2
          go_ret
          exact ⟨by rw [HR.out]; rfl, Fr.alloc _ _⟩
        · go_wp2
          go_ret
          exact ⟨by rw [HR.out]; rfl, Fr.alloc _ _⟩
    · have i1 : ((k : Int) == 1) = false := by simp; omega
      have i3 : ((k : Int) == 3) = false := by simp; omega
      have r : hdRight ⟨k, l, g, e, n⟩ = false := by rw [HE.out, if_neg h2]; simp [show ¬ k = 1 by omega, show ¬ k = 3 by omega]
      have HR := Lib.hid r
      clear r h2 h13
      go_wp2
      go_ret
      exact ⟨by rw [HR.out]; rfl, Fr.alloc _ _⟩
end Go.Proofs.YtpmkcjgndljhgaaDoor
