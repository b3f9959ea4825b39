/- package stream, plain: words that are laid one by one -/
import Derived.Test.YtcooibfnnjgjkaaDoorStreamMath
namespace Go.Proofs.YtcooibfnnjgjkaaDoor
/-- m of sixteen words are there -/
def fillTo (b : List Nat) (m : Nat) : List Nat := b.take m ++ List.replicate (16 - m) 0
theorem fillTo_length (b : List Nat) (hb : b.length = 16) (m : Nat) (hm : m ≤ 16) : (fillTo b m).length = 16 := by simp [fillTo]; omega
theorem fillTo_0 (b : List Nat) : fillTo b 0 = List.replicate 16 0 := by simp [fillTo]
theorem fillTo_16 (b : List Nat) (hb : b.length = 16) : fillTo b 16 = b := by simp [fillTo, List.take_of_length_le (Nat.le_of_eq hb)]
theorem fillTo_set (b : List Nat) (hb : b.length = 16) (m : Nat) (hm : m < 16) : (fillTo b m).set m b[m]! = fillTo b (m + 1) := by
  unfold fillTo
  rw [show 16 - m = (16 - (m + 1)) + 1 by omega, List.replicate_succ, List.set_append_right _ _ (by simp; omega), List.length_take, Nat.min_eq_left (by omega), Nat.sub_self, List.set_cons_zero, List.take_succ_eq_append_getElem (by omega), List.append_assoc, getElem!_pos b m (by omega)]
  rfl
theorem leWords_at (l : List UInt8) (k i : Nat) (h : i < k) : (leWords l k)[i]? = some (le4 l (4 * i)) := by
  induction k with
  | zero => omega
  | succ k ih =>
    have hl := leWords_length l k
    rw [leWords]
    by_cases hi : i < k
    · rw [List.getElem?_append_left (by omega)]; exact ih hi
    · obtain rfl : i = k := by omega
      rw [List.getElem?_append_right (by omega), hl, Nat.sub_self]
      rfl
theorem get!_of? {l : List Nat} {i x : Nat} (h : l[i]? = some x) : l[i]! = x := by
  obtain ⟨h1, h2⟩ := List.getElem?_eq_some_iff.1 h
  rw [getElem!_pos l i h1, h2]
theorem begun_start (key nonce : List UInt8) (count k : Nat) (h : k < 4) : (begun key nonce count)[k]! = streamStart[k]! := by
  have h4 : streamStart.length = 4 := rfl
  refine get!_of? ?_
  unfold begun
  rw [List.append_assoc, List.append_assoc, List.getElem?_append_left (by omega), List.getElem?_eq_getElem (by omega), getElem!_pos streamStart k (by omega)]
theorem begun_key (key nonce : List UInt8) (count k : Nat) (h : k < 8) : (begun key nonce count)[4 + k]! = le4 key (4 * k) := by
  have h4 : streamStart.length = 4 := rfl
  have h8 := leWords_length key 8
  refine get!_of? ?_
  unfold begun
  rw [List.append_assoc, List.append_assoc, List.getElem?_append_right (by omega), List.getElem?_append_left (by omega), h4, Nat.add_sub_cancel_left]
  exact leWords_at key 8 k h
theorem begun_count (key nonce : List UInt8) (count : Nat) : (begun key nonce count)[12]! = count := by
  have h4 : streamStart.length = 4 := rfl
  have h8 := leWords_length key 8
  refine get!_of? ?_
  unfold begun
  rw [List.append_assoc, List.append_assoc, List.getElem?_append_right (by omega), List.getElem?_append_right (by omega), h4, h8]
  rfl
theorem begun_nonce (key nonce : List UInt8) (count k : Nat) (h : k < 3) : (begun key nonce count)[13 + k]! = le4 nonce (4 * k) := by
  have h4 : streamStart.length = 4 := rfl
  have h8 := leWords_length key 8
  have h3 := leWords_at nonce 3 k h
  refine get!_of? ?_
  unfold begun
  rw [List.append_assoc, List.append_assoc, List.getElem?_append_right (by omega), List.getElem?_append_right (by omega), h4, h8, List.getElem?_append_right (by simp; omega), ← h3]
  congr 1
  simp; omega
theorem plusTo_16 (y x : List Nat) (j : Nat) (h : j < 16) : (plusTo y x 16)[j]! = (y[j]! + x[j]!) % 4294967296 := by
  refine get!_of? ?_
  unfold plusTo
  rw [List.getElem?_append_left (by simpa using h), List.getElem?_map, List.getElem?_range h]
  rfl
theorem wordByte_nat (y : List Nat) (i : Nat) : (wordByte y i).toNat = y[i / 4]! / 2 ^ (8 * (i % 4)) % 256 := by
  unfold wordByte
  simp
end Go.Proofs.YtcooibfnnjgjkaaDoor
