/- the document's stream: a word -/
import Derived.Test.YtcooibfnnjgjkaaDoorStreamRefB
import Derived.Test.YtcooibfnnjgjkaaDoorStreamMathB
namespace Go.Proofs.YtcooibfnnjgjkaaDoor
open Go.ChangeShapes Go.WideShapes Go.ChangeAt Go.RowKit

set_option maxRecDepth 100000 in
set_option maxHeartbeats 1000000 in
theorem wordL_any (v : Value) (l : List UInt8) (i : Nat) (w : World) (hv : Row w v (bs l)) (hi : i + 4 ≤ l.length) :
    Calls Tryd.prog 16 #[v, .int .i64 i] w fun e w' => e = .returned (.int .u32 (le4 l i : Nat)) ∧ ∃ n, w' = w.drewN n := by
  obtain ⟨a, c, rfl, _⟩ := id hv
  obtain ⟨hn, hlc, hm, h1⟩ := hv.bytes
  rw [bs_length] at *
  clear hn
  unfold maxLen at hm
  have hbo : ∃ b off, a = some ⟨b, off, none⟩ := by obtain ⟨b, off, e, _⟩ := h1 0 (by omega); exact ⟨b, off, e⟩
  obtain ⟨b, off, rfl⟩ := hbo
  have hc : ∀ j, j < l.length → w.cell? ⟨b, off + j, none⟩ = some (.int .u8 ((l[j]!).toNat : Int)) := by
    intro j hj
    obtain ⟨b', off', e, h⟩ := h1 j hj
    injection e with e
    injection e with e1 e2
    subst e1 e2
    exact h
  have c0 := hc i (by omega)
  have c1 := hc (i + 1) (by omega)
  have c2 := hc (i + 2) (by omega)
  have c3 := hc (i + 3) (by omega)
  have g0 := l[i]!.toNat_lt
  have g1 := l[i + 1]!.toNat_lt
  have g2 := l[i + 2]!.toNat_lt
  have g3 := l[i + 3]!.toNat_lt
  have E : Hid (le4 l i = l[i]!.toNat + l[i + 1]!.toNat * 256 + l[i + 2]!.toNat * 65536 + l[i + 3]!.toNat * 16777216) := Lib.hid rfl
  generalize l[i]!.toNat = x0 at c0 g0 E
  generalize l[i + 1]!.toNat = x1 at c1 g1 E
  generalize l[i + 2]!.toNat = x2 at c2 g2 E
  generalize l[i + 3]!.toNat = x3 at c3 g3 E
  have hz : (0 : Int) ≤ (i : Int) := by omega
  have hz1 : (0 : Int) ≤ (i : Int) + 1 := by omega
  have hz2 : (0 : Int) ≤ (i : Int) + 2 := by omega
  have hz3 : (0 : Int) ≤ (i : Int) + 3 := by omega
  have hy : (i : Int) < (l.length : Int) := by omega
  have hy1 : (i : Int) + 1 < (l.length : Int) := by omega
  have hy2 : (i : Int) + 2 < (l.length : Int) := by omega
  have hy3 : (i : Int) + 3 < (l.length : Int) := by omega
  have t1 : ((i : Int) + 1).toNat = i + 1 := by omega
  have t2 : ((i : Int) + 2).toNat = i + 2 := by omega
  have t3 : ((i : Int) + 3).toNat = i + 3 := by omega
  have e1 : IntKind.i64.wrap ((i : Int) + 1) = (i : Int) + 1 := IntWalk.i64_in _ (by omega)
  have e2 : IntKind.i64.wrap ((i : Int) + 2) = (i : Int) + 2 := IntWalk.i64_in _ (by omega)
  have e3 : IntKind.i64.wrap ((i : Int) + 3) = (i : Int) + 3 := IntWalk.i64_in _ (by omega)
  clear hc h1 hv
  go_enter Tryd.func16, Tryd.ntmps16
  go_wp2
  go_quiet (fail)
  go_wp2
  go_ret
  exact ⟨retInt (by rw [E.out]; omega), _, rfl⟩
end Go.Proofs.YtcooibfnnjgjkaaDoor
