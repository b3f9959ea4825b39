/- a number's bytes, the lowest first. Nothing of the program. -/
import Derived.Test.YteokfgdennjjiaaBuilt
namespace Go.Proofs.Yteokfgdennjjiaa
open Go.ChangeShapes Go.WideShapes Go.ChangeAt Go.RowKit

theorem bs_single (c : UInt8) : bs [c] = [Value.int .u8 (c.toNat : Int)] := rfl
def fixF : Nat → Nat → List UInt8
  | 0, _ => []
  | k + 1, n => UInt8.ofNat (n % 256) :: fixF k (n / 256)
theorem fixF_length (k n : Nat) : (fixF k n).length = k := by
  induction k generalizing n with
  | zero => rfl
  | succ k ih => simp [fixF, ih]
def unfix : List UInt8 → Nat
  | [] => 0
  | c :: r => c.toNat + 256 * unfix r
theorem unfix_snoc (l : List UInt8) (c : UInt8) : unfix (l ++ [c]) = unfix l + c.toNat * 256 ^ l.length := by
  induction l with
  | nil => simp [unfix]
  | cons d r ih => simp only [List.cons_append, unfix, ih, List.length_cons, Nat.pow_succ]; rw [Nat.mul_add, Nat.add_assoc]; congr 2; rw [Nat.mul_left_comm, Nat.mul_comm 256]
theorem unfix_lt (l : List UInt8) : unfix l < 256 ^ l.length := by
  induction l with
  | nil => simp [unfix]
  | cons d r ih =>
    have := d.toNat_lt
    simp only [unfix, List.length_cons, Nat.pow_succ]
    omega
theorem unfix_fixF : ∀ k n, unfix (fixF k n) = n % 256 ^ k
  | 0, n => by simp [unfix, fixF, Nat.mod_one]
  | k + 1, n => by
    have h := unfix_fixF k (n / 256)
    have h1 : (UInt8.ofNat (n % 256)).toNat = n % 256 := by rw [UInt8.toNat_ofNat']; exact Nat.mod_eq_of_lt (Nat.mod_lt _ (by omega))
    simp only [fixF, unfix, h, h1]
    rw [Nat.pow_succ, Nat.mul_comm (256 ^ k) 256, Nat.mod_mul]
theorem fixF_unfix : ∀ l : List UInt8, fixF l.length (unfix l) = l
  | [] => rfl
  | c :: r => by
    have h := fixF_unfix r
    have hc := c.toNat_lt
    have h1 : (unfix (c :: r)) % 256 = c.toNat := by simp only [unfix]; omega
    have h2 : (unfix (c :: r)) / 256 = unfix r := by simp only [unfix]; omega
    simp only [List.length_cons, fixF, h1, h2, h, UInt8.ofNat_toNat]
theorem fixF_back {k n : Nat} (h : n < 256 ^ k) : unfix (fixF k n) = n := by rw [unfix_fixF, Nat.mod_eq_of_lt h]
theorem fixF_inj {k m n : Nat} (hm : m < 256 ^ k) (hn : n < 256 ^ k) (h : fixF k m = fixF k n) : m = n := by rw [← fixF_back hm, h, fixF_back hn]
def clamp8 (m : Int) : Nat := if m < 0 then 0 else if 8 < m then 8 else m.toNat

end Go.Proofs.Yteokfgdennjjiaa
