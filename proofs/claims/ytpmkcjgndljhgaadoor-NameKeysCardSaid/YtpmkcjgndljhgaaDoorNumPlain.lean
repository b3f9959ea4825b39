/- package name, plain: the digits of a text, whatever stands among them; digits with 0 ahead; the bytes of a sign. Nothing of the program. -/
import Derived.Test.YtpmkcjgndljhgaaDoorGroundA
import Derived.Laws.RangeAny
import Derived.Lib.ItoaNum
import Derived.Lib.ItoaLen
import Derived.Lib.Repeat

namespace Go.Proofs.YtpmkcjgndljhgaaDoor

/-- what the digits of l tell behind the number a, whatever stands among them, round 2^64 -/
def numW : Nat → List UInt8 → Nat
  | a, [] => a
  | a, c :: r => numW (if isDig c then (10 * a + (c.toNat - 48)) % 18446744073709551616 else a) r
theorem numW_app (l m : List UInt8) : ∀ a, numW a (l ++ m) = numW (numW a l) m := by
  induction l with
  | nil => intro a; rfl
  | cons c r ih => intro a; simp only [List.cons_append, numW]; exact ih _
theorem numW_none (l : List UInt8) (h : ∀ c ∈ l, ¬ isDig c) : ∀ a, numW a l = a := by
  induction l with
  | nil => intro a; rfl
  | cons c r ih => intro a; simp only [numW, if_neg (h c (by simp))]; exact ih (fun d hd => h d (by simp [hd])) a
theorem numW_digs (l : List UInt8) (h : AllDig l) : ∀ a, a < 18446744073709551616 → numW a l = valP a l % 18446744073709551616 := by
  induction l with
  | nil => intro a ha; simp only [numW, valP, Nat.mod_eq_of_lt ha]
  | cons c r ih =>
    intro a _
    have hc : isDig c := h c (by simp)
    simp only [numW, valP, if_pos hc]
    rw [ih (fun d hd => h d (by simp [hd])) _ (Nat.mod_lt _ (by omega)), Nat.mul_comm 10 a]
    exact valP_mod r _ _ (Nat.mod_mod _ _)
theorem numW_lt (l : List UInt8) : ∀ a, a < 18446744073709551616 → numW a l < 18446744073709551616 := by
  induction l with
  | nil => intro a h; exact h
  | cons c r ih =>
    intro a h
    simp only [numW]
    refine ih _ ?_
    split
    · exact Nat.mod_lt _ (by omega)
    · exact h
/-- a name's digits are its number's -/
theorem IsName.num {s : List UInt8} {k n : Nat} (h : IsName s k n) : numW 0 s = n := by
  obtain ⟨h1, h5, hn, h0, hs⟩ := h
  have hd : numW 0 (digs 6 n) = n := by rw [numW_digs _ (digs_dig 6 n) 0 (by omega), val_digs, Nat.mod_eq_of_lt hn]
  have : k = 1 ∨ k = 2 ∨ k = 3 ∨ k = 4 ∨ k = 5 := by omega
  rcases this with rfl | rfl | rfl | rfl | rfl
  · subst hs
    rw [show nmName 1 n = digs 6 n ++ nmLog by simp [nmName], numW_app, hd]
    exact numW_none _ (by decide) _
  · subst hs
    rw [show nmName 2 n = digs 6 n ++ nmTab by simp [nmName], numW_app, hd]
    exact numW_none _ (by decide) _
  · subst hs
    rw [show nmName 3 n = nmMan ++ digs 6 n by simp [nmName], numW_app, numW_none nmMan (by decide), hd]
  · rw [h0 (by omega), ← hs]; exact numW_none nmCur (by decide) _
  · rw [h0 (by omega), ← hs]; exact numW_none nmTmp (by decide) _
/-- of a kind s is a name just if it is that of the number that its digits tell -/
theorem isName_num (s : List UInt8) (k : Nat) (h1 : 1 ≤ k) (h5 : k ≤ 5) : (∃ n, IsName s k n) ↔ nmName k (numW 0 s) = s := by
  constructor
  · rintro ⟨n, h⟩; rw [h.num]; exact h.2.2.2.2
  · intro h
    refine ⟨numW 0 s, h1, h5, numW_lt s 0 (by omega), fun hk => ?_, h⟩
    have : k = 4 ∨ k = 5 := by omega
    rcases this with rfl | rfl
    · rw [← h]; exact numW_none nmCur (by decide) _
    · rw [← h]; exact numW_none nmTmp (by decide) _
theorem isName_numIs {s : List UInt8} {k : Nat} (h1 : 1 ≤ k) (h5 : k ≤ 5) (h : nmName k (numW 0 s) = s) : IsName s k (numW 0 s) := by
  obtain ⟨n, hn⟩ := (isName_num s k h1 h5).mpr h
  rw [hn.num]
  exact hn

/-! digits with 0 ahead -/
theorem digs_pad (k n : Nat) : digs k n = List.replicate (k - (digs 0 n).length) 48 ++ digs 0 n := by
  induction k, n using digs.induct with
  | case1 k n h => obtain ⟨rfl, rfl⟩ := h; rw [digs_zero]; rfl
  | case2 k n h ih =>
    rw [digs_step (by omega), ih]
    by_cases hn : 0 < n
    · rw [show digs 0 n = digs 0 (n / 10) ++ [digC n] from digs_step (.inr hn), List.length_append, List.length_singleton, List.append_assoc, show k - ((digs 0 (n / 10)).length + 1) = k - 1 - (digs 0 (n / 10)).length by omega]
    · obtain rfl : n = 0 := by omega
      rw [show 0 / 10 = 0 from rfl, digs_zero, List.append_nil, List.append_nil, List.length_nil, Nat.sub_zero, Nat.sub_zero]
      obtain ⟨m, rfl⟩ : ∃ m, k = m + 1 := ⟨k - 1, by omega⟩
      rw [List.replicate_succ', show m + 1 - 1 = m by omega]
      rfl
theorem decDigits_digs (n : Nat) : Go.Lib.decDigits n = digs 1 n := by
  induction n using Nat.strongRecOn with
  | _ n ih =>
    rw [Go.Lib.decDigits, digs_step (.inl (by omega))]
    by_cases h : n < 10
    · rw [dif_pos h, show n / 10 = 0 by omega, show (1 - 1 : Nat) = 0 from rfl, digs_zero]
      show _ = [UInt8.ofNat (48 + n % 10)]
      rw [Nat.mod_eq_of_lt h]
    · rw [dif_neg h, ih (n / 10) (by omega), digs_step (k := 1) (n := n / 10) (.inl (by omega)), digs_step (k := 1 - 1) (n := n / 10) (.inr (by omega))]
      rfl
theorem digs_dec (n : Nat) : digs 6 n = Go.Lib.repeatL [48] (6 - (Go.Lib.decDigits n).length) ++ Go.Lib.decDigits n := by
  have e : ∀ c, Go.Lib.repeatL [48] c = List.replicate c 48 := fun c => by
    have h := Go.Lib.repeatL_replicate 48 1 c
    rwa [Nat.mul_one] at h
  rw [e, decDigits_digs]
  by_cases h : 0 < n
  · have h1 : digs 1 n = digs 0 n := by rw [digs_step (.inl (by omega)), digs_step (k := 0) (.inr h)]
    rw [h1]; exact digs_pad 6 n
  · obtain rfl : n = 0 := by omega
    rw [digs_pad 6 0, digs_pad 1 0, digs_zero]
    rfl
theorem decDigits_length_le (n : Nat) (h : n < 18446744073709551616) : (Go.Lib.decDigits n).length ≤ 20 := by
  rw [decDigits_digs]; exact digs_length_le 1 20 n (by omega) (by omega)

/-! the bytes of a sign that is no byte by itself -/
theorem get_in (s : ByteArray) (j : Nat) (h : j < s.size) : s.get! j = s[j]'h := by simpa using get_at s j h
theorem decode_bytes (s : ByteArray) (pos : Nat) (h : pos < s.size) (ha : 128 ≤ (s[pos]'h).toNat) :
    pos + (Utf8.decode s pos).2 ≤ s.size ∧ ∀ j (hj : j < s.size), pos ≤ j → j < pos + (Utf8.decode s pos).2 → 128 ≤ (s[j]'hj).toNat := by
  have hn : ¬ (s[pos]'h).toNat < 128 := by omega
  have one : pos + 1 ≤ s.size ∧ ∀ j (hj : j < s.size), pos ≤ j → j < pos + 1 → 128 ≤ (s[j]'hj).toNat := ⟨by omega, fun j hj h1 h2 => by
    obtain rfl : j = pos := by omega
    exact ha⟩
  have two (k : Nat) (hk : pos + k < s.size) (hc : (s.get! (pos + k)).toNat / 64 = 2) : 128 ≤ (s[pos + k]'hk).toNat := by rw [get_in s _ hk] at hc; omega
  simp only [Utf8.decode, get_at s pos h, hn, if_false, Bool.and_eq_true, decide_eq_true_eq, beq_iff_eq]
  split
  · rename_i h2
    split
    · refine ⟨by simp only []; omega, fun j hj h3 h4 => ?_⟩
      simp only [] at h4
      have : j = pos ∨ j = pos + 1 := by omega
      rcases this with rfl | rfl
      · exact ha
      · exact two 1 h2.2.1 h2.2.2
    · exact one
  · split
    · rename_i h2
      split
      · refine ⟨by simp only []; omega, fun j hj h3 h4 => ?_⟩
        simp only [] at h4
        have : j = pos ∨ j = pos + 1 ∨ j = pos + 2 := by omega
        rcases this with rfl | rfl | rfl
        · exact ha
        · exact two 1 h2.1.2.1 h2.1.2.2
        · exact two 2 h2.2.1 h2.2.2
      · exact one
    · split
      · rename_i h2
        split
        · refine ⟨by simp only []; omega, fun j hj h3 h4 => ?_⟩
          simp only [] at h4
          have : j = pos ∨ j = pos + 1 ∨ j = pos + 2 ∨ j = pos + 3 := by omega
          rcases this with rfl | rfl | rfl | rfl
          · exact ha
          · exact two 1 h2.1.1.2.1 h2.1.1.2.2
          · exact two 2 h2.1.2.1 h2.1.2.2
          · exact two 3 h2.2.1 h2.2.2
        · exact one
      · exact one
theorem numW_byte {s : ByteArray} {i : Nat} (h : i < s.size) : numW 0 (s.data.toList.take (i + 1)) = (if isDig (s[i]'h) then (10 * numW 0 (s.data.toList.take i) + ((s[i]'h).toNat - 48)) % 18446744073709551616 else numW 0 (s.data.toList.take i)) := by
  have e : s.data.toList.take (i + 1) = s.data.toList.take i ++ [s[i]'h] := List.take_succ_eq_append_getElem (show i < s.data.toList.length by rw [Array.length_toList]; exact h)
  rw [e, numW_app]
  rfl
theorem numW_skip {s : ByteArray} {i n : Nat} (hn : i + n ≤ s.size) (hh : ∀ j (hj : j < s.size), i ≤ j → j < i + n → 128 ≤ (s[j]'hj).toNat) : numW 0 (s.data.toList.take (i + n)) = numW 0 (s.data.toList.take i) := by
  induction n with
  | zero => rfl
  | succ n ih =>
    rw [← Nat.add_assoc, numW_byte (show i + n < s.size by omega), if_neg (fun hd => by
      have := hh (i + n) (by omega) (by omega) (by omega)
      have := hd.2
      omega)]
    exact ih (by omega) (fun j hj h1 h2 => hh j hj h1 (by omega))
end Go.Proofs.YtpmkcjgndljhgaaDoor
