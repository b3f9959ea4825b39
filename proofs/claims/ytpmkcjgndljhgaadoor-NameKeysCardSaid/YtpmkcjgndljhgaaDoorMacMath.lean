/- package mac, plain: keyed digests on lists of bytes -/
import Derived.Test.YtpmkcjgndljhgaaDoorShaMath

namespace Go.Proofs.YtpmkcjgndljhgaaDoor

/-- the key's 64 bytes -/
def macKey (key : List UInt8) : List UInt8 := (if 64 < key.length then sha key else key) ++ List.replicate (64 - (if 64 < key.length then sha key else key).length) 0
theorem macKey_length (key : List UInt8) : (macKey key).length = 64 := by
  unfold macKey
  split
  · rw [List.length_append, List.length_replicate, sha_length]
  · rw [List.length_append, List.length_replicate]; omega
def macCross (key : List UInt8) (by_ : UInt8) : List UInt8 := (macKey key).map (· ^^^ by_)
theorem macCross_length (key : List UInt8) (b : UInt8) : (macCross key b).length = 64 := by rw [macCross, List.length_map, macKey_length]
/-- P4.1 -/
def macSum (key b : List UInt8) : List UInt8 := sha (macCross key 92 ++ sha (macCross key 54 ++ b))
theorem macSum_length (key b : List UInt8) : (macSum key b).length = 32 := sha_length _
/-- t1, t2, ..: the last one, and all so far -/
def macLast (key use : List UInt8) : Nat → List UInt8
  | 0 => []
  | k + 1 => macSum key (macLast key use k ++ use ++ [UInt8.ofNat (k + 1)])
def macAll (key use : List UInt8) : Nat → List UInt8
  | 0 => []
  | k + 1 => macAll key use k ++ macLast key use (k + 1)
theorem macAll_length (key use : List UInt8) (k : Nat) : (macAll key use k).length = 32 * k := by
  induction k with
  | zero => rfl
  | succ k ih => rw [macAll, List.length_append, ih, macLast, macSum_length]; omega
theorem macAll_add (key use : List UInt8) (k j : Nat) : ∃ m, macAll key use (k + j) = macAll key use k ++ m := by
  induction j with
  | zero => exact ⟨[], by simp⟩
  | succ j ih =>
    obtain ⟨m, hm⟩ := ih
    exact ⟨m ++ macLast key use (k + j + 1), by rw [show k + (j + 1) = (k + j) + 1 from rfl, macAll, hm, List.append_assoc]⟩
/-- how many there must be -/
def macRounds (n : Nat) : Nat := (n + 31) / 32
/-- P4.2 -/
def macExpand (key use : List UInt8) (n : Nat) : List UInt8 := (macAll key use (macRounds n)).take n
theorem macExpand_length (key use : List UInt8) (n : Nat) : (macExpand key use n).length = n := by
  rw [macExpand, List.length_take, macAll_length, macRounds]; omega
theorem macExpand_less (key use : List UInt8) (m n : Nat) (h : m ≤ n) : (macExpand key use n).take m = macExpand key use m := by
  unfold macExpand
  have hr : macRounds m ≤ macRounds n := by unfold macRounds; omega
  obtain ⟨r, hr2⟩ := macAll_add key use (macRounds m) (macRounds n - macRounds m)
  rw [show macRounds m + (macRounds n - macRounds m) = macRounds n by omega] at hr2
  rw [List.take_take, Nat.min_eq_left h, hr2, List.take_append_of_le_length (by rw [macAll_length, macRounds]; omega)]
theorem macKey_more (key : List UInt8) (h : key.length ≤ 64) : macKey (key ++ List.replicate (64 - key.length) 0) = macKey key := by
  have h1 : (key ++ List.replicate (64 - key.length) (0 : UInt8)).length = 64 := by rw [List.length_append, List.length_replicate]; omega
  unfold macKey
  rw [if_neg (by omega), if_neg (by omega), h1]
  simp
theorem macSum_more (key b : List UInt8) (h : key.length ≤ 64) : macSum (key ++ List.replicate (64 - key.length) 0) b = macSum key b := by
  unfold macSum macCross; rw [macKey_more key h]
theorem macKey_long (key : List UInt8) (h : 64 < key.length) : macKey (sha key) = macKey key := by
  unfold macKey
  rw [if_pos h, if_neg (by rw [sha_length]; omega)]
theorem macSum_long (key b : List UInt8) (h : 64 < key.length) : macSum (sha key) b = macSum key b := by
  unfold macSum macCross; rw [macKey_long key h]
end Go.Proofs.YtpmkcjgndljhgaaDoor
