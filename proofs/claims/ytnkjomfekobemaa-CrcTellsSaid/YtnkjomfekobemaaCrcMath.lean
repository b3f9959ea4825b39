/- package crc, plain: the sum on numbers -/
import Derived.Test.YtnkjomfekobemaaRows
import Derived.Laws.BitsAllLaws
namespace Go.Proofs.Ytnkjomfekobemaa

/-- one bit on -/
def cHalf (x : Nat) : Nat := if x % 2 = 1 then (x / 2) ^^^ 2197175160 else x / 2
def cHalves : Nat → Nat → Nat
  | 0, x => x
  | k + 1, x => cHalves k (cHalf x)
/-- one byte on -/
def cByte (x c : Nat) : Nat := cHalves 8 (x ^^^ c)
def cOn (x : Nat) (l : List UInt8) : Nat := l.foldl (fun x c => cByte x c.toNat) x
/-- the sum of bytes behind others that have a sum -/
def cMore (s : Nat) (l : List UInt8) : Nat := 4294967295 - cOn (4294967295 - s) l

theorem cHalf_lt {x : Nat} (h : x < 4294967296) : cHalf x < 4294967296 := by
  unfold cHalf
  split
  · exact Nat.xor_lt_two_pow (n := 32) (by omega) (by omega)
  · omega
theorem cHalves_lt (k : Nat) {x : Nat} (h : x < 4294967296) : cHalves k x < 4294967296 := by
  induction k generalizing x with
  | zero => exact h
  | succ k ih => exact ih (cHalf_lt h)
theorem cHalves_snoc (k x : Nat) : cHalves (k + 1) x = cHalf (cHalves k x) := by
  induction k generalizing x with
  | zero => rfl
  | succ k ih => rw [cHalves, ih]; rfl
theorem cByte_lt {x c : Nat} (h : x < 4294967296) (hc : c < 256) : cByte x c < 4294967296 := cHalves_lt 8 (Nat.xor_lt_two_pow (n := 32) h (by omega))
theorem cOn_lt {x : Nat} (h : x < 4294967296) (l : List UInt8) : cOn x l < 4294967296 := by
  induction l generalizing x with
  | nil => exact h
  | cons c l ih => exact ih (cByte_lt h c.toNat_lt)
theorem cMore_lt (s : Nat) (l : List UInt8) : cMore s l < 4294967296 := by unfold cMore; omega
theorem cOn_append (x : Nat) (l m : List UInt8) : cOn x (l ++ m) = cOn (cOn x l) m := List.foldl_append
theorem cMore_append {s : Nat} (hs : s < 4294967296) (l m : List UInt8) : cMore s (l ++ m) = cMore (cMore s l) m := by
  unfold cMore
  rw [cOn_append]
  have := cOn_lt (x := 4294967295 - s) (by omega) l
  rw [show 4294967295 - (4294967295 - cOn (4294967295 - s) l) = cOn (4294967295 - s) l from by omega]
theorem cMore_nil {s : Nat} (hs : s < 4294967296) : cMore s [] = s := by
  show 4294967295 - (4294967295 - s) = s
  omega

theorem cHalf_top {x : Nat} (h : x < 4294967296) : (cHalf x).testBit 31 = (x % 2 == 1) := by
  have h2 : (x / 2).testBit 31 = false := Nat.testBit_lt_two_pow (by omega)
  have h3 : (2197175160 : Nat).testBit 31 = true := by decide
  unfold cHalf
  split
  · rename_i h1
    rw [Nat.testBit_xor, h2, h3, h1]; rfl
  · rename_i h1
    rw [h2]; simp; omega
theorem xor_inj_left {a b c : Nat} (h : a ^^^ c = b ^^^ c) : a = b := by
  have := congrArg (· ^^^ c) h
  simpa [Nat.xor_assoc] using this
theorem cHalf_inj {x y : Nat} (hx : x < 4294967296) (hy : y < 4294967296) (h : cHalf x = cHalf y) : x = y := by
  have ht : (x % 2 == 1) = (y % 2 == 1) := by rw [← cHalf_top hx, ← cHalf_top hy, h]
  unfold cHalf at h
  by_cases h1 : x % 2 = 1
  · have h2 : y % 2 = 1 := by rw [h1] at ht; simpa using ht.symm
    rw [if_pos h1, if_pos h2] at h
    have := xor_inj_left h
    omega
  · have h2 : ¬ y % 2 = 1 := by intro h2; rw [h2] at ht; simp at ht; exact h1 ht
    rw [if_neg h1, if_neg h2] at h
    omega
theorem cHalves_inj (k : Nat) {x y : Nat} (hx : x < 4294967296) (hy : y < 4294967296) (h : cHalves k x = cHalves k y) : x = y := by
  induction k generalizing x y with
  | zero => exact h
  | succ k ih => exact cHalf_inj hx hy (ih (cHalf_lt hx) (cHalf_lt hy) h)
theorem cByte_inj {x y c : Nat} (hx : x < 4294967296) (hy : y < 4294967296) (hc : c < 256) (h : cByte x c = cByte y c) : x = y :=
  xor_inj_left (cHalves_inj 8 (Nat.xor_lt_two_pow (n := 32) hx (by omega)) (Nat.xor_lt_two_pow (n := 32) hy (by omega)) h)
theorem cByte_inj2 {x c d : Nat} (hx : x < 4294967296) (hc : c < 256) (hd : d < 256) (h : cByte x c = cByte x d) : c = d := by
  have := cHalves_inj 8 (Nat.xor_lt_two_pow (n := 32) hx (by omega)) (Nat.xor_lt_two_pow (n := 32) hx (by omega)) h
  rw [Nat.xor_comm x, Nat.xor_comm x] at this
  exact xor_inj_left this
theorem cOn_inj {x y : Nat} (hx : x < 4294967296) (hy : y < 4294967296) (l : List UInt8) (h : cOn x l = cOn y l) : x = y := by
  induction l generalizing x y with
  | nil => exact h
  | cons c l ih => exact cByte_inj hx hy c.toNat_lt (ih (cByte_lt hx c.toNat_lt) (cByte_lt hy c.toNat_lt) h)
/-- one byte more keeps like sums alike, and unlike ones unlike -/
theorem cMore_inj {x y : Nat} (hx : x < 4294967296) (hy : y < 4294967296) (l : List UInt8) : cMore x l = cMore y l ↔ x = y := by
  refine ⟨fun h => ?_, fun h => by rw [h]⟩
  unfold cMore at h
  have h1 := cOn_lt (x := 4294967295 - x) (by omega) l
  have h2 := cOn_lt (x := 4294967295 - y) (by omega) l
  have := cOn_inj (x := 4294967295 - x) (y := 4294967295 - y) (by omega) (by omega) l (by omega)
  omega
theorem cOn_cons (x : Nat) (c : UInt8) (l : List UInt8) : cOn x (c :: l) = cOn (cByte x c.toNat) l := rfl
/-- bytes of which one is another one have another sum -/
theorem cMore_tells {s : Nat} (hs : s < 4294967296) (l : List UInt8) (k : Nat) (hk : k < l.length) (c : UInt8) : cMore s (l.set k c) = cMore s l ↔ c = l[k] := by
  refine ⟨fun h => ?_, fun h => by rw [h, List.set_getElem_self]⟩
  have e1 : l = l.take k ++ l[k] :: l.drop (k + 1) := by simp
  have e2 : l.set k c = l.take k ++ c :: l.drop (k + 1) := by rw [List.set_eq_take_append_cons_drop, if_pos hk]
  have h1 := cOn_lt (x := 4294967295 - s) (by omega) l
  have h2 := cOn_lt (x := 4294967295 - s) (by omega) (l.set k c)
  have h' : cOn (4294967295 - s) (l.set k c) = cOn (4294967295 - s) l := by unfold cMore at h; omega
  rw [e2] at h'
  conv at h' => rhs; rw [e1]
  rw [cOn_append, cOn_append, cOn_cons, cOn_cons] at h'
  have hy : cOn (4294967295 - s) (l.take k) < 4294967296 := cOn_lt (by omega) _
  have := cOn_inj (cByte_lt hy c.toNat_lt) (cByte_lt hy l[k].toNat_lt) _ h'
  exact UInt8.toNat_inj.1 (cByte_inj2 hy c.toNat_lt l[k].toNat_lt this)
end Go.Proofs.Ytnkjomfekobemaa
