/- package stream: a word; the words of a block -/
import Derived.Test.YtcooibfnnjgjkaaDoorStreamOpA
import Derived.Test.YtcooibfnnjgjkaaDoorStreamMathB
import Derived.Laws.Cover3
namespace Go.Proofs.YtcooibfnnjgjkaaDoor
open Go.ChangeShapes Go.WideShapes Go.ChangeAt Go.RowKit

theorem orLe4 (x0 x1 x2 x3 : Nat) (h0 : x0 < 256) (h1 : x1 < 256) (h2 : x2 < 256) (h3 : x3 < 256) :
    bits BinOp.or IntKind.u32 (bits BinOp.or IntKind.u32 (bits BinOp.or IntKind.u32 (x0 : Int) ((x1 : Int) * 256)) ((x2 : Int) * 65536)) ((x3 : Int) * 16777216) = ((x0 + x1 * 256 + x2 * 65536 + x3 * 16777216 : Nat) : Int) := by
  rw [show (x1 : Int) * 256 = ((x1 * 256 : Nat) : Int) by omega, show (x2 : Int) * 65536 = ((x2 * 65536 : Nat) : Int) by omega, show (x3 : Int) * 16777216 = ((x3 * 16777216 : Nat) : Int) by omega]
  have a1 : x0 ||| x1 * 256 = x1 * 256 + x0 := by
    have := Nat.two_pow_add_eq_or_of_lt (i := 8) (b := x0) (by omega) x1
    rw [Nat.mul_comm] at this; rw [Nat.or_comm]; exact this.symm
  have a2 : x1 * 256 + x0 ||| x2 * 65536 = x2 * 65536 + (x1 * 256 + x0) := by
    have := Nat.two_pow_add_eq_or_of_lt (i := 16) (b := x1 * 256 + x0) (by omega) x2
    rw [Nat.mul_comm] at this; rw [Nat.or_comm]; exact this.symm
  have a3 : x2 * 65536 + (x1 * 256 + x0) ||| x3 * 16777216 = x3 * 16777216 + (x2 * 65536 + (x1 * 256 + x0)) := by
    have := Nat.two_pow_add_eq_or_of_lt (i := 24) (b := x2 * 65536 + (x1 * 256 + x0)) (by omega) x3
    rw [Nat.mul_comm] at this; rw [Nat.or_comm]; exact this.symm
  rw [u32_or_nat _ _ (by omega) (by omega), a1, u32_or_nat _ _ (by omega) (by omega), a2, u32_or_nat _ _ (by omega) (by omega), a3]
  omega
set_option maxRecDepth 100000 in
set_option maxHeartbeats 1000000 in
theorem wordS_any (x0 x1 x2 x3 : Nat) (w : World) (g0 : x0 < 256) (g1 : x1 < 256) (g2 : x2 < 256) (g3 : x3 < 256) :
    Calls Tryd.prog 18 #[.agg #[.int .u8 x0, .int .u8 x1, .int .u8 x2, .int .u8 x3]] w fun e w' => e = .returned (.int .u32 ((x0 + x1 * 256 + x2 * 65536 + x3 * 16777216 : Nat) : Int)) ∧ Fr Non w w' := by
  go_enter Tryd.func18, Tryd.ntmps18
  go_wp2
  go_ret
  exact ⟨retInt (orLe4 x0 x1 x2 x3 g0 g1 g2 g3), Fr.alloc _ _⟩
end Go.Proofs.YtcooibfnnjgjkaaDoor
