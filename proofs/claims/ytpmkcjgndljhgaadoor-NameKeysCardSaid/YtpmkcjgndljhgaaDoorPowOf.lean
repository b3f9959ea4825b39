/- the library's powers of ten: what the rows' condition gives the walks -/
import Derived.Test.YtpmkcjgndljhgaaDoorPow

namespace Go.Proofs.YtpmkcjgndljhgaaDoor
open Go.ChangeShapes Go.WideShapes Go.ChangeAt Go.RowKit

theorem pow_of {W : World} {n1 n2 : String} {d1 d2 : DataW Unit} {rest : List (String × DataW Unit)} {ps : List MemPlace} (h : DataW.LaidVars Tryd.prog W ((n1, d1) :: (n2, d2) :: ("internal/strconv.uint64pow10", Rows.laid_internal_strconv_uint64pow10) :: rest) ps) : PowT W := by
  obtain ⟨⟨q1, h1⟩, -⟩ := laid_cons h
  obtain ⟨⟨q2, h2⟩, -⟩ := laid_cons h1
  exact laid_tab (g := 0) (k := .u64) (zs := Lib.pow10Tab) (t := 120) (n := 20) (e := 22) (by kernel_rfl) (by kernel_rfl) (by kernel_rfl) (by kernel_rfl) Tryd.underlying22 (by kernel_rfl) (by kernel_rfl) h2
end Go.Proofs.YtpmkcjgndljhgaaDoor
