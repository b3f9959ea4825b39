/- words as cells, and small things that several packages' walks share. Nothing of the program. -/
import Derived.Test.YteokfgdennjjiaaBuilt
import Derived.Laws.BitsAllLaws
namespace Go.Proofs.Yteokfgdennjjiaa
open Go.ChangeShapes Go.WideShapes Go.ChangeAt Go.RowKit

theorem u64_wrap (x : Int) : IntKind.wrap .u64 x = x % 18446744073709551616 := rfl
theorem retInt {k : IntKind} {a b : Int} (h : a = b) : Ending.returned (.int k a) = .returned (.int k b) := by rw [h]
theorem Fr.drewN (w : World) (n : Nat) : Fr Non w (w.drewN n) := ⟨rfl, rfl, rfl, Nat.le_refl _, fun _ _ _ => rfl⟩
/-- words as cells -/
def us (l : List Nat) : List Value := l.map fun x : Nat => .int .u32 (x : Int)
theorem us_length (l : List Nat) : (us l).length = l.length := by simp [us]
theorem us_append (l m : List Nat) : us (l ++ m) = us l ++ us m := by simp [us]
theorem us_at (l : List Nat) (i : Nat) (h : i < l.length) : (us l)[i]? = some (.int .u32 (l[i]! : Int)) := by simp [us, h]
theorem us_at? (l : List Nat) (i x : Nat) (h : l[i]? = some x) : (us l)[i]? = some (.int .u32 (x : Int)) := by simp [us, h]
theorem us_set (l : List Nat) (i x : Nat) : (us l).set i (.int .u32 (x : Int)) = us (l.set i x) := by simp [us, List.map_set]
theorem us_one (l : List Nat) : ∀ v ∈ us l, v.oneCell' = true := by
  intro v hv
  simp only [us, List.mem_map] at hv
  obtain ⟨c, _, rfl⟩ := hv
  rfl
theorem all_one {l : List Value} (h : ∀ v ∈ l, v.oneCell' = true) : (l.toArray.all fun v => v.oneCell') = true := by
  rw [Array.all_eq_true_iff_forall_mem]; intro v hv; exact h v (by simpa using hv)
theorem bs_snoc (l : List UInt8) (c : UInt8) : bs (l ++ [c]) = bs l ++ [.int .u8 (c.toNat : Int)] := by rw [bs_append]; rfl
theorem u8xor (a b : UInt8) : bits BinOp.xor IntKind.u8 (a.toNat : Int) (b.toNat : Int) = ((a ^^^ b).toNat : Int) := by
  rw [u8_xor_nat _ _ a.toNat_lt b.toNat_lt, UInt8.toNat_xor]
end Go.Proofs.Yteokfgdennjjiaa
