/- the document's stream: turn, quarter, word -/
import Derived.Test.YtcooibfnnjgjkaaDoorStreamMath
import Derived.Test.YtcooibfnnjgjkaaDoorWords
import Derived.Test.YtcooibfnnjgjkaaDoorBlk
import Derived.Test.YtcooibfnnjgjkaaDoorWhole
import Derived.Test.YtcooibfnnjgjkaaDoorStep
import Derived.StillTailTactics
import Derived.Deep.RegionWith
import Derived.Deep.DeepCutAuto
namespace Go.Proofs.YtcooibfnnjgjkaaDoor
open Go.ChangeShapes Go.WideShapes Go.ChangeAt Go.RowKit

theorem orTurnL (x : Nat) (k : Int) (hx : x < 4294967296) (hk : 0 < k) (hk2 : k < 32) : bits BinOp.or IntKind.u32 ((x : Int) * 2 ^ k.toNat % 4294967296) ((x : Int) / 2 ^ (32 - k).toNat) = ((rotl k.toNat x : Nat) : Int) := by
  obtain ⟨n, rfl⟩ := Int.eq_ofNat_of_zero_le (show 0 ≤ k by omega)
  rw [show (32 - (n : Int)).toNat = 32 - n by omega, Int.toNat_natCast]
  have e1 : (x : Int) / 2 ^ (32 - n) = ((x / 2 ^ (32 - n) : Nat) : Int) := by rw [Int.natCast_ediv, Int.natCast_pow]; rfl
  have e2 : (x : Int) * 2 ^ n % 4294967296 = ((x * 2 ^ n % 4294967296 : Nat) : Int) := by rw [Int.natCast_emod, Int.natCast_mul, Int.natCast_pow]; rfl
  have h1 : x / 2 ^ (32 - n) ≤ x := Nat.div_le_self _ _
  rw [e1, e2, u32_or_nat _ _ (Nat.mod_lt _ (by omega)) (by omega), rotl_or (by omega) hx]
theorem turnL_any (x : Nat) (k : Int) (w : World) (hx : x < 4294967296) (hk : 0 < k) (hk2 : k < 32) :
    Calls Tryd.prog 20 #[.int .u32 x, .int .i64 k] w fun e w' => e = .returned (.int .u32 (rotl k.toNat x : Nat)) ∧ ∃ n, w' = w.drewN n := by
  go_enter Tryd.func20, Tryd.ntmps20
  go_wp2
  go_quiet (fail)
  go_wp2
  go_ret
  exact ⟨retInt (orTurnL x k hx hk hk2), _, rfl⟩

/-- block B holds sixteen words, four of them known -/
structure QB (w : World) (B t : Nat) (L : List Nat) (a b c d : Nat) (q : Qu) : Prop where
  blk : Blk w B t (us (put4 L a b c d q))
theorem QB.cells {w : World} {B t : Nat} {L : List Nat} {a b c d : Nat} {q : Qu} (h : QB w B t L a b c d q) (hf : Four a b c d) (hL : L.length = 16) :
    w.cell? ⟨B, a, none⟩ = some (.int .u32 (q.a : Int)) ∧ w.cell? ⟨B, b, none⟩ = some (.int .u32 (q.b : Int)) ∧ w.cell? ⟨B, c, none⟩ = some (.int .u32 (q.c : Int)) ∧ w.cell? ⟨B, d, none⟩ = some (.int .u32 (q.d : Int)) ∧
    w.frozen? ⟨B, a, none⟩ = false ∧ w.frozen? ⟨B, b, none⟩ = false ∧ w.frozen? ⟨B, c, none⟩ = false ∧ w.frozen? ⟨B, d, none⟩ = false := by
  obtain ⟨h1, k1⟩ := h.blk.at a _ (us_at? _ _ _ (put4_a hf hL q))
  obtain ⟨h2, k2⟩ := h.blk.at b _ (us_at? _ _ _ (put4_b hf hL q))
  obtain ⟨h3, k3⟩ := h.blk.at c _ (us_at? _ _ _ (put4_c hf hL q))
  obtain ⟨h4, k4⟩ := h.blk.at d _ (us_at? _ _ _ (put4_d hf hL q))
  exact ⟨h1, h2, h3, h4, k1, k2, k3, k4⟩
theorem QB.frame {w w' : World} {B t : Nat} {L : List Nat} {a b c d : Nat} {q : Qu} (h : QB w B t L a b c d q) {S : Nat → Prop} (f : Fr S w w') (hn : ¬ S B) : QB w' B t L a b c d q := ⟨h.blk.frame f hn⟩
section
variable {w : World} {B t : Nat} {L : List Nat} {a b c d : Nat} {q : Qu} (h : QB w B t L a b c d q) (hf : Four a b c d)
include h hf
theorem QB.setA (x : Nat) : QB (w.setCell ⟨B, a, none⟩ (.int .u32 (x : Int))) B t L a b c d ⟨x, q.b, q.c, q.d⟩ := ⟨by have := h.blk.set a (.int .u32 (x : Int)); rwa [us_set, put4_setA hf] at this⟩
theorem QB.setB (x : Nat) : QB (w.setCell ⟨B, b, none⟩ (.int .u32 (x : Int))) B t L a b c d ⟨q.a, x, q.c, q.d⟩ := ⟨by have := h.blk.set b (.int .u32 (x : Int)); rwa [us_set, put4_setB hf] at this⟩
theorem QB.setC (x : Nat) : QB (w.setCell ⟨B, c, none⟩ (.int .u32 (x : Int))) B t L a b c d ⟨q.a, q.b, x, q.d⟩ := ⟨by have := h.blk.set c (.int .u32 (x : Int)); rwa [us_set, put4_setC hf] at this⟩
omit hf in
theorem QB.setD (x : Nat) : QB (w.setCell ⟨B, d, none⟩ (.int .u32 (x : Int))) B t L a b c d ⟨q.a, q.b, q.c, x⟩ := ⟨by have := h.blk.set d (.int .u32 (x : Int)); rwa [us_set, put4_setD] at this⟩
end
end Go.Proofs.YtcooibfnnjgjkaaDoor
