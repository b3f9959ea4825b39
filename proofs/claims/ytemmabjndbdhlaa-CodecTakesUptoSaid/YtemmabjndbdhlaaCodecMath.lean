/- numbers there and back: plain mathematics -/
import Derived.Test.YtemmabjndbdhlaaCodecRead
namespace Go.Proofs.Ytemmabjndbdhlaa

theorem encF_mono : ∀ f a b, a ≤ b → (encF f a).length ≤ (encF f b).length := by
  intro f
  induction f with
  | zero => intro a b _; simp [encF]
  | succ f ih =>
    intro a b h
    simp only [encF]
    split
    · split
      · simp
      · simp
    · rw [if_neg (by omega)]
      simp only [List.length_cons]
      have := ih (a / 128) (b / 128) (Nat.div_le_div_right h)
      omega

theorem decF_zero (l : List UInt8) : ∀ k i n, (decF l k i n).2.2 ≠ 0 → (decF l k i n).1 = 0 ∧ (decF l k i n).2.1 = 0 := by
  intro k
  induction k with
  | zero => intro i n _; exact ⟨rfl, rfl⟩
  | succ k ih =>
    intro i n
    simp only [decF]
    cases l[i]? with
    | none => intro _; exact ⟨rfl, rfl⟩
    | some c =>
      simp only []
      split
      · split
        · intro _; exact ⟨rfl, rfl⟩
        · intro h; exact absurd rfl h
      · exact ih _ _
theorem dec_zero (l : List UInt8) (h : (dec l).2.2 ≠ 0) : (dec l).1 = 0 ∧ (dec l).2.1 = 0 := decF_zero l 10 0 0 h

theorem decF_enc (l : List UInt8) : ∀ k i n, k + i = 10 → (decF l k i n).2.2 = 0 → ∃ y, (decF l k i n).1 = n + y * 2 ^ (7 * i) ∧ i < (decF l k i n).2.1 ∧ (l.drop i).take ((decF l k i n).2.1 - i) = encF (k - 1) y ∧ (0 < i → 0 < y) := by
  intro k
  induction k with
  | zero => intro i n _ h; simp [decF] at h
  | succ k ih =>
    intro i n hk
    simp only [decF]
    cases hc : l[i]? with
    | none => intro h; simp at h
    | some c =>
      have hil : i < l.length := (List.getElem?_eq_some_iff.1 hc).1
      have hci : l[i] = c := (List.getElem?_eq_some_iff.1 hc).2
      have hdrop : l.drop i = c :: l.drop (i + 1) := by rw [List.drop_eq_getElem_cons hil, hci]
      have hc256 := c.toNat_lt
      simp only []
      split
      · split
        · intro h; simp at h
        · rename_i h128 hbad
          intro _
          refine ⟨c.toNat, rfl, by simp, ?_, fun h => by omega⟩
          simp only [Nat.add_sub_cancel_left, Nat.add_sub_cancel]
          rw [hdrop, encF_small _ _ h128]
          simp
      · rename_i h128
        intro h
        obtain ⟨y, h1, h2, h3, h4⟩ := ih (i + 1) _ (by omega) h
        have hy := h4 (by omega)
        refine ⟨(c.toNat - 128) + 128 * y, ?_, by omega, ?_, fun _ => by omega⟩
        · rw [h1, show 7 * (i + 1) = 7 * i + 7 by omega, Nat.pow_add, Nat.add_mul]
          have : y * (2 ^ (7 * i) * 2 ^ 7) = 128 * y * 2 ^ (7 * i) := by
            rw [show (2 : Nat) ^ 7 = 128 by rfl, Nat.mul_comm (2 ^ (7 * i)) 128, ← Nat.mul_assoc, Nat.mul_comm y 128]
          omega
        · match k, h1, h2, h3 with
          | 0, _, _, _ => simp [decF] at h
          | k + 1, h1, h2, h3 =>
            rw [hdrop]
            have e : (decF l (k + 1) (i + 1) (n + (c.toNat - 128) * 2 ^ (7 * i))).2.1 - i = ((decF l (k + 1) (i + 1) (n + (c.toNat - 128) * 2 ^ (7 * i))).2.1 - (i + 1)) + 1 := by omega
            rw [e, List.take_succ_cons, h3]
            simp only [Nat.add_sub_cancel, encF]
            rw [if_neg (by omega), show ((c.toNat - 128) + 128 * y) / 128 = y by omega, show ((c.toNat - 128) + 128 * y) % 128 + 128 = c.toNat by omega]
            congr 1
            exact (UInt8.ofNat_toNat).symm
theorem dec_enc (l : List UInt8) (h : (dec l).2.2 = 0) : enc (dec l).1 = l.take (dec l).2.1 := by
  obtain ⟨y, h1, h2, h3, _⟩ := decF_enc l 10 0 0 rfl h
  have e : (dec l).1 = y := by have : (dec l).1 = 0 + y * 2 ^ (7 * 0) := h1; simpa using this
  rw [e]
  have : (l.drop 0).take ((dec l).2.1 - 0) = encF 9 y := h3
  rw [List.drop_zero, Nat.sub_zero] at this
  exact this.symm

theorem decF_back (l rest : List UInt8) : ∀ k i n y, k + i = 10 → l.drop i = encF (k - 1) y ++ rest → y * 2 ^ (7 * i) < 18446744073709551616 → (0 < i → 0 < y) → 0 < k → decF l k i n = (n + y * 2 ^ (7 * i), i + (encF (k - 1) y).length, 0) := by
  intro k
  induction k with
  | zero => intro i n y _ _ _ _ h; omega
  | succ k ih =>
    intro i n y hk hl hy h0 _
    simp only [Nat.add_sub_cancel] at hl ⊢
    have hlt : y < 128 ∨ (128 ≤ y ∧ 0 < k) := by
      by_cases h : y < 128
      · exact .inl h
      · refine .inr ⟨by omega, ?_⟩
        apply Nat.pos_of_ne_zero
        intro hk0
        subst hk0
        obtain rfl : i = 9 := by omega
        omega
    rcases hlt with hlt | ⟨hge, hk0⟩
    · rw [encF_small _ _ hlt] at hl ⊢
      have hc : l[i]? = some (UInt8.ofNat y) := by
        have := List.getElem?_drop (xs := l) (i := i) (j := 0)
        rw [hl] at this
        simpa using this.symm
      simp only [decF, hc]
      have e : (UInt8.ofNat y).toNat = y := by rw [UInt8.toNat_ofNat', Nat.mod_eq_of_lt (by omega)]
      rw [e, if_pos hlt, if_neg]
      · simp
      · intro h
        rcases h with ⟨h1, h2⟩ | ⟨h1, h2⟩
        · have := h0 h1; omega
        · subst h1
          have : 2 * 2 ^ (7 * 9) ≤ y * 2 ^ (7 * 9) := Nat.mul_le_mul_right _ (by omega)
          omega
    · match k, hk0 with
      | k + 1, _ =>
        have he : encF (k + 1) y = UInt8.ofNat (y % 128 + 128) :: encF k (y / 128) := by simp only [encF]; rw [if_neg (by omega)]
        rw [he] at hl ⊢
        have hc : l[i]? = some (UInt8.ofNat (y % 128 + 128)) := by
          have := List.getElem?_drop (xs := l) (i := i) (j := 0)
          rw [hl] at this
          simpa using this.symm
        have e : (UInt8.ofNat (y % 128 + 128)).toNat = y % 128 + 128 := by rw [UInt8.toNat_ofNat', Nat.mod_eq_of_lt (by omega)]
        have e2 : y / 128 * 2 ^ (7 * (i + 1)) + y % 128 * 2 ^ (7 * i) = y * 2 ^ (7 * i) := by
          rw [show 7 * (i + 1) = 7 + 7 * i by omega, Nat.pow_add, ← Nat.mul_assoc, ← Nat.add_mul]
          congr 1
          omega
        rw [decF, hc]
        simp only []
        rw [e, if_neg (by omega), show y % 128 + 128 - 128 = y % 128 by omega, ih (i + 1) _ (y / 128) (by omega) ?_ (by omega) (fun _ => by omega) (by omega)]
        · simp only [Nat.add_sub_cancel, List.length_cons]
          rw [Nat.add_assoc, Nat.add_comm (y % 128 * _), e2, Nat.add_assoc, Nat.add_comm 1]
        · simp only [Nat.add_sub_cancel]
          rw [← List.drop_drop, hl]
          rfl
theorem dec_back (y : Nat) (rest : List UInt8) (h : y < 18446744073709551616) : dec (enc y ++ rest) = (y, (enc y).length, 0) := by
  have := decF_back (enc y ++ rest) rest 10 0 0 y rfl rfl (by simpa using h) (fun h => absurd h (by omega)) (by omega)
  simpa [dec, enc] using this

theorem decF_short (l : List UInt8) : ∀ k i n, k + i = 10 → l.length < 10 → i ≤ l.length → (∀ j, i ≤ j → (h : j < l.length) → 128 ≤ (l[j]).toNat) → decF l k i n = (0, 0, 10) := by
  intro k
  induction k with
  | zero => intro i n h1 h2 h3; omega
  | succ k ih =>
    intro i n h1 h2 h3 h4
    simp only [decF]
    by_cases hi : i < l.length
    · rw [List.getElem?_eq_getElem hi]
      simp only []
      rw [if_neg (by have := h4 i (Nat.le_refl _) hi; omega)]
      exact ih (i + 1) _ (by omega) h2 hi (fun j hj hjl => h4 j (by omega) hjl)
    · rw [List.getElem?_eq_none (by omega)]
theorem encF_high : ∀ f y j (h : j < (encF f y).length), j + 1 < (encF f y).length → 128 ≤ ((encF f y)[j]).toNat := by
  intro f
  induction f with
  | zero => intro y j h h2; simp [encF] at h2
  | succ f ih =>
    intro y j
    by_cases hy : y < 128
    · rw [encF_small _ _ hy]; intro h h2; simp at h2
    · have he : encF (f + 1) y = UInt8.ofNat (y % 128 + 128) :: encF f (y / 128) := by simp only [encF]; rw [if_neg hy]
      rw [he]
      intro h h2
      cases j with
      | zero =>
        simp only [List.getElem_cons_zero]
        rw [UInt8.toNat_ofNat', Nat.mod_eq_of_lt (by omega)]
        omega
      | succ j =>
        simp only [List.getElem_cons_succ]
        exact ih (y / 128) j (by simpa using h) (by simpa using h2)
theorem dec_short (y at' : Nat) (h : at' < (enc y).length) : dec ((enc y).take at') = (0, 0, 10) := by
  have hl := enc_length y
  refine decF_short _ 10 0 0 rfl (by rw [List.length_take]; omega) (Nat.zero_le _) (fun j _ hj => ?_)
  rw [List.length_take] at hj
  rw [List.getElem_take]
  exact encF_high 9 y j (by unfold enc at h; omega) (by unfold enc at h; omega)
theorem enc_pos (n : Nat) : 0 < (enc n).length := by
  unfold enc
  simp only [encF]
  split <;> simp
end Go.Proofs.Ytemmabjndbdhlaa
