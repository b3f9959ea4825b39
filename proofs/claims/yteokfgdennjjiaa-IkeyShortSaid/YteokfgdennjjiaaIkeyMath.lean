/- package ikey, plain: the order of texts and entries, inner keys, short keys. Nothing of the program. -/
import Derived.Test.YteokfgdennjjiaaFixMath
import Derived.Laws.Strings
namespace Go.Proofs.Yteokfgdennjjiaa

/-! the order of texts -/
theorem bLt_cons (a b : UInt8) (x y : List UInt8) : Op.bytesLess (a :: x) (b :: y) = (decide (a < b) || (a == b && Op.bytesLess x y)) := by rw [Op.bytesLess]
theorem bLt_nil (x : List UInt8) : Op.bytesLess x [] = false := by cases x <;> rfl
theorem bLt_irrefl : ∀ x : List UInt8, Op.bytesLess x x = false
  | [] => rfl
  | a :: x => by rw [bLt_cons, bLt_irrefl x]; simp
theorem u8_lt_irrefl {a : UInt8} : ¬ a < a := fun h => by have := UInt8.lt_iff_toNat_lt.mp h; omega
theorem bLt_trans : ∀ {x y z : List UInt8}, Op.bytesLess x y = true → Op.bytesLess y z = true → Op.bytesLess x z = true
  | _, [], _, h, _ => by rw [bLt_nil] at h; cases h
  | _, _ :: _, [], _, h => by rw [bLt_nil] at h; cases h
  | [], _ :: _, _ :: _, _, _ => rfl
  | a :: x, b :: y, c :: z, h1, h2 => by
    rw [bLt_cons] at h1 h2 ⊢
    simp only [Bool.or_eq_true, decide_eq_true_eq, Bool.and_eq_true, beq_iff_eq] at h1 h2 ⊢
    rcases h1 with h1 | ⟨rfl, h1⟩
    · rcases h2 with h2 | ⟨rfl, h2⟩
      · exact .inl (by rw [UInt8.lt_iff_toNat_lt] at h1 h2 ⊢; omega)
      · exact .inl h1
    · rcases h2 with h2 | ⟨rfl, h2⟩
      · exact .inl h2
      · exact .inr ⟨rfl, bLt_trans h1 h2⟩
theorem bLt_asymm {x y : List UInt8} (h : Op.bytesLess x y = true) : Op.bytesLess y x = false := by
  cases h2 : Op.bytesLess y x with
  | false => rfl
  | true => have := bLt_trans h h2; rw [bLt_irrefl] at this; cases this
theorem bLt_total : ∀ {x y : List UInt8}, Op.bytesLess x y = false → Op.bytesLess y x = false → x = y
  | [], [], _, _ => rfl
  | [], _ :: _, h, _ => by cases h
  | _ :: _, [], _, h => by cases h
  | a :: x, b :: y, h1, h2 => by
    rw [bLt_cons] at h1 h2
    simp only [Bool.or_eq_false_iff, decide_eq_false_iff_not, Bool.and_eq_false_iff, beq_eq_false_iff_ne] at h1 h2
    have hab : a = b := by
      apply UInt8.toNat_inj.mp
      have e1 := h1.1
      have e2 := h2.1
      rw [UInt8.lt_iff_toNat_lt] at e1 e2
      omega
    subst hab
    rw [bLt_total (h1.2.resolve_left (fun h => h rfl)) (h2.2.resolve_left (fun h => h rfl))]
/-- 'a > b' in the walk's words -/
theorem bLt_gtr (x y : List UInt8) : (!(Op.bytesLess x y || x == y)) = Op.bytesLess y x := by
  cases h1 : Op.bytesLess x y with
  | true => rw [bLt_asymm h1]; rfl
  | false =>
    cases h2 : Op.bytesLess y x with
    | true =>
      have : (x == y) = false := by
        simp only [beq_eq_false_iff_ne]
        rintro rfl
        rw [bLt_irrefl] at h2
        cases h2
      rw [this]; rfl
    | false =>
      have := bLt_total h1 h2
      subst this
      simp
theorem bLt_eq_false {x y : List UInt8} (h : Op.bytesLess x y = true) : (x == y) = false := by
  simp only [beq_eq_false_iff_ne]
  rintro rfl
  rw [bLt_irrefl] at h
  cases h
theorem bLt_prefix (p : List UInt8) (x y : List UInt8) : Op.bytesLess (p ++ x) (p ++ y) = Op.bytesLess x y := by
  induction p with
  | nil => rfl
  | cons a p ih => rw [List.cons_append, List.cons_append, bLt_cons, ih]; simp

/-! entries -/
structure Ent where
  user : ByteArray
  seq : Nat
  kind : Nat
  val : ByteArray
def Ent.ok (e : Ent) : Prop := e.seq < 18446744073709551616 ∧ e.kind < 256 ∧ e.user.size ≤ 140737488351232 ∧ e.val.size ≤ 140737488351232
def Ent.zero : Ent := ⟨⟨#[]⟩, 0, 0, ⟨#[]⟩⟩
def sLt (a b : ByteArray) : Bool := Op.bytesLess a.toList b.toList
theorem sLt_irrefl (a : ByteArray) : sLt a a = false := bLt_irrefl _
theorem sLt_total {a b : ByteArray} (h1 : sLt a b = false) (h2 : sLt b a = false) : a = b := by
  have := bLt_total h1 h2
  rw [ByteArray.toList_eq, ByteArray.toList_eq] at this
  exact ByteArray.ext (Array.toList_inj.mp this)
/-- P8.2 -/
def entCmp (a b : Ent) : Int :=
  if sLt a.user b.user = true then -1 else if sLt b.user a.user = true then 1 else if b.seq < a.seq then -1 else if a.seq < b.seq then 1 else if b.kind < a.kind then -1 else if a.kind < b.kind then 1 else 0
theorem entCmp_self (a : Ent) : entCmp a a = 0 := by unfold entCmp; rw [sLt_irrefl]; simp
theorem entCmp_range (a b : Ent) : entCmp a b = -1 ∨ entCmp a b = 0 ∨ entCmp a b = 1 := by
  unfold entCmp
  repeat' split
  all_goals simp
theorem entCmp_swap (a b : Ent) : entCmp b a = -entCmp a b := by
  unfold entCmp
  cases h1 : sLt a.user b.user with
  | true =>
    have h2 : sLt b.user a.user = false := bLt_asymm h1
    rw [h2]; simp
  | false =>
    cases h2 : sLt b.user a.user with
    | true => simp
    | false =>
      simp only [Bool.false_eq_true, if_false]
      repeat' split
      all_goals first | rfl | omega
/-- the entries of one place are of one user, seq and kind -/
theorem entCmp_zero (a b : Ent) : entCmp a b = 0 ↔ a.user = b.user ∧ a.seq = b.seq ∧ a.kind = b.kind := by
  constructor
  · intro h
    unfold entCmp at h
    cases h1 : sLt a.user b.user with
    | true => rw [h1] at h; simp at h
    | false =>
      cases h2 : sLt b.user a.user with
      | true => rw [h1, h2] at h; simp at h
      | false =>
        rw [h1, h2] at h
        simp only [Bool.false_eq_true, if_false] at h
        refine ⟨sLt_total h1 h2, ?_⟩
        repeat' split at h
        all_goals first | (exfalso; revert h; decide) | omega
  · rintro ⟨h1, h2, h3⟩
    unfold entCmp
    rw [h1, h2, h3, sLt_irrefl]
    simp
/-- 'ahead or at one place' as a fact on users, seqs and kinds -/
theorem entCmp_le (a b : Ent) : entCmp a b ≤ 0 ↔ sLt a.user b.user = true ∨ a.user = b.user ∧ (b.seq < a.seq ∨ a.seq = b.seq ∧ b.kind ≤ a.kind) := by
  unfold entCmp
  cases h1 : sLt a.user b.user with
  | true => simp
  | false =>
    cases h2 : sLt b.user a.user with
    | true =>
      simp only [Bool.false_eq_true, if_false, if_true, false_or]
      constructor
      · intro h; exact absurd h (by decide)
      · rintro ⟨h, _⟩
        rw [h, sLt_irrefl] at h2
        cases h2
    | false =>
      have hu := sLt_total h1 h2
      simp only [Bool.false_eq_true, if_false, false_or, hu, true_and]
      repeat' split
      all_goals constructor
      all_goals intro h
      all_goals first | omega | (exfalso; revert h; decide)
theorem sLt_trans {a b c : ByteArray} (h1 : sLt a b = true) (h2 : sLt b c = true) : sLt a c = true := bLt_trans h1 h2
theorem entCmp_trans {a b c : Ent} (h1 : entCmp a b ≤ 0) (h2 : entCmp b c ≤ 0) : entCmp a c ≤ 0 := by
  rw [entCmp_le] at h1 h2 ⊢
  rcases h1 with h1 | ⟨u1, h1⟩
  · rcases h2 with h2 | ⟨u2, h2⟩
    · exact .inl (sLt_trans h1 h2)
    · exact .inl (by rw [← u2]; exact h1)
  · rcases h2 with h2 | ⟨u2, h2⟩
    · exact .inl (by rw [u1]; exact h2)
    · exact .inr ⟨u1.trans u2, by omega⟩
/-- P8.5: what the law asks of the order -/
theorem entCmp_order (a b c : Ent) (h1 : entCmp a b ≤ 0) (h2 : entCmp b c ≤ 0) : entCmp a c ≤ 0 ∧ (entCmp a c = 0 → entCmp a b = 0 ∧ entCmp b c = 0) := by
  refine ⟨entCmp_trans h1 h2, fun h => ?_⟩
  have h3 : entCmp c a = 0 := by rw [entCmp_swap, h]; rfl
  have h4 : entCmp c b ≤ 0 := entCmp_trans (by omega) h1
  have h5 : entCmp b a ≤ 0 := entCmp_trans h2 (by omega)
  rw [entCmp_swap] at h4 h5
  omega
/-- P8.1 -/
def entRight (e : Ent) : Bool := decide (e.user.size ≤ 1024) && decide (e.seq ≤ 72057594037927935) && decide (e.kind ≤ 1) && decide (e.val.size ≤ 65536) && (e.kind == 1 || e.val.size == 0)
/-- P8.3 -/
def entNum (e : Ent) : Nat := (e.seq * 256 + e.kind) % 18446744073709551616
def entLay (e : Ent) : ByteArray := e.user ++ ⟨(fixF 8 (entNum e)).toArray⟩
def entOf (s : ByteArray) : Ent := ⟨s.extract 0 (s.size - 8), unfix (s.data.toList.drop (s.size - 8)) / 256, unfix (s.data.toList.drop (s.size - 8)) % 256, ⟨#[]⟩⟩
def entTake (s : ByteArray) : Ent × Nat := if s.size < 8 then (Ent.zero, 80) else if entRight (entOf s) then (entOf s, 0) else (Ent.zero, 80)
theorem fix8_size (n : Nat) : (⟨(fixF 8 n).toArray⟩ : ByteArray).size = 8 := by show (fixF 8 n).toArray.size = 8; simp [fixF_length]
theorem entLay_size (e : Ent) : (entLay e).size = e.user.size + 8 := by unfold entLay; rw [ByteArray.size_append, fix8_size]
theorem ba_ext {a b : ByteArray} (h : a.data.toList = b.data.toList) : a = b := ByteArray.ext (Array.toList_inj.mp h)
theorem ba_len (a : ByteArray) : a.data.toList.length = a.size := by rw [Array.length_toList]; rfl
theorem entOf_lay (e : Ent) : entOf (entLay e) = ⟨e.user, entNum e / 256, entNum e % 256, ⟨#[]⟩⟩ := by
  have hs := entLay_size e
  have hd : (entLay e).data.toList = e.user.data.toList ++ fixF 8 (entNum e) := by unfold entLay; rw [ByteArray.data_append, Array.toList_append]
  have hu : unfix ((entLay e).data.toList.drop ((entLay e).size - 8)) = entNum e := by
    rw [hs, Nat.add_sub_cancel, hd, List.drop_left' (ba_len _)]
    exact fixF_back (by have : (256 : Nat) ^ 8 = 18446744073709551616 := by decide
                        have h2 := Nat.mod_lt (e.seq * 256 + e.kind) (show 0 < 18446744073709551616 by omega)
                        unfold entNum; omega)
  have he : (entLay e).extract 0 ((entLay e).size - 8) = e.user := by
    apply ba_ext
    rw [ByteArray.data_extract, Array.toList_extract, List.extract_eq_take_drop, List.drop_zero, hs, hd]
    exact List.take_left' (by rw [ba_len]; omega)
  unfold entOf
  rw [hu, he]
theorem entNum_right {e : Ent} (h : entRight e = true) : entNum e = e.seq * 256 + e.kind ∧ entNum e / 256 = e.seq ∧ entNum e % 256 = e.kind := by
  unfold entRight at h
  simp only [Bool.and_eq_true, decide_eq_true_eq] at h
  have e1 : entNum e = e.seq * 256 + e.kind := Nat.mod_eq_of_lt (by omega)
  rw [e1]
  omega
/-- P8.6: an inner key leads back, but for the value -/
theorem entTake_lay {e : Ent} (h : entRight e = true) : entTake (entLay e) = (⟨e.user, e.seq, e.kind, ⟨#[]⟩⟩, 0) := by
  obtain ⟨_, h1, h2⟩ := entNum_right h
  have hr : entRight ⟨e.user, e.seq, e.kind, ⟨#[]⟩⟩ = true := by
    unfold entRight at h ⊢
    simp only [Bool.and_eq_true, decide_eq_true_eq] at h ⊢
    exact ⟨⟨h.1.1, by show (0 : Nat) ≤ 65536; omega⟩, by simp; right; rfl⟩
  unfold entTake
  rw [entLay_size, if_neg (by omega), entOf_lay, h1, h2, if_pos hr]
theorem entTake_err (s : ByteArray) : (entTake s).2 = 0 ∨ (entTake s = (Ent.zero, 80)) := by
  unfold entTake
  split
  · exact .inr rfl
  · split
    · exact .inl rfl
    · exact .inr rfl
/-- P8.6: right entries of one inner key are of one place -/
theorem entLay_once {a b : Ent} (ha : entRight a = true) (hb : entRight b = true) : entLay a = entLay b ↔ entCmp a b = 0 := by
  rw [entCmp_zero]
  constructor
  · intro h
    have h1 := entTake_lay ha
    rw [h, entTake_lay hb] at h1
    have h2 := (Prod.mk.inj h1).1
    injection h2 with e1 e2 e3
    exact ⟨e1.symm, e2.symm, e3.symm⟩
  · rintro ⟨h1, h2, h3⟩
    unfold entLay entNum
    rw [h1, h2, h3]
/-- P8.2: does an entry stand ahead, by user and seq? -/
def entAhead (a b : Ent) : Bool := sLt a.user b.user || ((a.user.toList == b.user.toList) && decide (b.seq < a.seq))
def entRises : List Ent → Bool
  | [] => true
  | [_] => true
  | a :: b :: l => entAhead a b && entRises (b :: l)

/-! short keys -/
/-- P8.4 -/
def kBetween : List UInt8 → List UInt8 → List UInt8
  | a :: x, b :: y => if a = b then a :: kBetween x y else if a.toNat + 2 ≤ b.toNat then [UInt8.ofNat (a.toNat + 1)] else a :: x
  | l, _ => l
def kAfter : List UInt8 → List UInt8
  | [] => []
  | a :: x => if a.toNat < 255 then [UInt8.ofNat (a.toNat + 1)] else a :: kAfter x
theorem kBetween_nil (l : List UInt8) : kBetween l [] = l := by cases l <;> rfl
theorem kBetween_cons (a b : UInt8) (x y : List UInt8) : kBetween (a :: x) (b :: y) = if a = b then a :: kBetween x y else if a.toNat + 2 ≤ b.toNat then [UInt8.ofNat (a.toNat + 1)] else a :: x := rfl
theorem ofNat_succ_lt {a : UInt8} (h : a.toNat < 255) : a < UInt8.ofNat (a.toNat + 1) := by
  rw [UInt8.lt_iff_toNat_lt, UInt8.toNat_ofNat']
  omega
theorem u8_not_lt {a b : UInt8} (h : ¬ a.toNat < b.toNat) : decide (a < b) = false := by simp [UInt8.lt_iff_toNat_lt]; omega
/-- P8.7 -/
theorem kBetween_ge : ∀ a b : List UInt8, Op.bytesLess (kBetween a b) a = false
  | [], _ => by simp [kBetween, bLt_nil]
  | a :: x, [] => by rw [kBetween_nil]; exact bLt_irrefl _
  | a :: x, b :: y => by
    rw [kBetween_cons]
    split
    · rw [bLt_cons, kBetween_ge x y]; simp
    · split
      · rename_i h
        have hb := b.toNat_lt
        have h1 := ofNat_succ_lt (a := a) (by omega)
        have h2 : (UInt8.ofNat (a.toNat + 1) == a) = false := by
          simp only [beq_eq_false_iff_ne]
          intro e
          rw [e] at h1
          exact u8_lt_irrefl h1
        rw [bLt_cons, h2]
        have h3 : decide (UInt8.ofNat (a.toNat + 1) < a) = false := by rw [UInt8.lt_iff_toNat_lt] at h1; exact u8_not_lt (by omega)
        rw [h3]; rfl
      · exact bLt_irrefl _
theorem kBetween_lt : ∀ a b : List UInt8, Op.bytesLess a b = true → Op.bytesLess (kBetween a b) b = true
  | [], [], h => by cases h
  | [], _ :: _, _ => by simp [kBetween, Op.bytesLess]
  | a :: x, [], h => by cases h
  | a :: x, b :: y, h => by
    rw [kBetween_cons]
    split
    · rename_i hab
      subst hab
      rw [bLt_cons] at h ⊢
      have h2 : Op.bytesLess x y = true := by simpa [u8_lt_irrefl] using h
      rw [kBetween_lt x y h2]; simp
    · split
      · rename_i h2
        have hb := b.toNat_lt
        rw [bLt_cons]
        have : UInt8.ofNat (a.toNat + 1) < b := by rw [UInt8.lt_iff_toNat_lt, UInt8.toNat_ofNat']; omega
        rw [decide_eq_true this]; rfl
      · exact h
theorem kBetween_len : ∀ a b : List UInt8, (kBetween a b).length ≤ a.length
  | [], _ => by simp [kBetween]
  | a :: x, [] => by rw [kBetween_nil]; exact Nat.le_refl _
  | a :: x, b :: y => by
    rw [kBetween_cons]
    split
    · have := kBetween_len x y; simp only [List.length_cons]; omega
    · split
      · simp
      · exact Nat.le_refl _
theorem kAfter_ge : ∀ a : List UInt8, Op.bytesLess (kAfter a) a = false
  | [] => rfl
  | a :: x => by
    rw [kAfter]
    split
    · rename_i h
      have h1 := ofNat_succ_lt h
      have h2 : (UInt8.ofNat (a.toNat + 1) == a) = false := by
        simp only [beq_eq_false_iff_ne]
        intro e
        rw [e] at h1
        exact u8_lt_irrefl h1
      rw [bLt_cons, h2]
      have h3 : decide (UInt8.ofNat (a.toNat + 1) < a) = false := by rw [UInt8.lt_iff_toNat_lt] at h1; exact u8_not_lt (by omega)
      rw [h3]; rfl
    · rw [bLt_cons, kAfter_ge x]; simp
theorem kAfter_len : ∀ a : List UInt8, (kAfter a).length ≤ a.length
  | [] => Nat.le_refl _
  | a :: x => by
    rw [kAfter]
    split
    · simp
    · have := kAfter_len x; simp only [List.length_cons]; omega
/-- one step more in common -/
theorem kBetween_step {a b : List UInt8} {i : Nat} (ha : i < a.length) (hb : i < b.length) (h : a[i] = b[i]) : a.take i ++ kBetween (a.drop i) (b.drop i) = a.take (i + 1) ++ kBetween (a.drop (i + 1)) (b.drop (i + 1)) := by
  rw [List.drop_eq_getElem_cons ha, List.drop_eq_getElem_cons hb, kBetween_cons, if_pos h, List.take_succ_eq_append_getElem ha, List.append_assoc]
  rfl
theorem kBetween_end {a b : List UInt8} {i : Nat} (h : ¬ i < a.length ∨ ¬ i < b.length) : a.take i ++ kBetween (a.drop i) (b.drop i) = a := by
  rcases h with h | h
  · rw [List.drop_eq_nil_of_le (by omega : a.length ≤ i), List.take_of_length_le (by omega)]
    simp [kBetween]
  · rw [List.drop_eq_nil_of_le (by omega : b.length ≤ i), kBetween_nil, List.take_append_drop]
theorem kBetween_cut {a b : List UInt8} {i : Nat} (ha : i < a.length) (hb : i < b.length) (h : a[i].toNat + 2 ≤ b[i].toNat) : a.take i ++ kBetween (a.drop i) (b.drop i) = a.take i ++ [UInt8.ofNat (a[i].toNat + 1)] := by
  rw [List.drop_eq_getElem_cons ha, List.drop_eq_getElem_cons hb, kBetween_cons, if_neg (by intro e; rw [e] at h; omega), if_pos h]
theorem kBetween_stay {a b : List UInt8} {i : Nat} (ha : i < a.length) (hb : i < b.length) (hn : a[i] ≠ b[i]) (h : ¬ a[i].toNat + 2 ≤ b[i].toNat) : a.take i ++ kBetween (a.drop i) (b.drop i) = a := by
  rw [List.drop_eq_getElem_cons ha, List.drop_eq_getElem_cons hb, kBetween_cons, if_neg hn, if_neg h, ← List.drop_eq_getElem_cons ha, List.take_append_drop]
theorem kAfter_step {a : List UInt8} {i : Nat} (ha : i < a.length) (h : ¬ a[i].toNat < 255) : a.take i ++ kAfter (a.drop i) = a.take (i + 1) ++ kAfter (a.drop (i + 1)) := by
  rw [List.drop_eq_getElem_cons ha, kAfter, if_neg h, List.take_succ_eq_append_getElem ha, List.append_assoc]
  rfl
theorem kAfter_cut {a : List UInt8} {i : Nat} (ha : i < a.length) (h : a[i].toNat < 255) : a.take i ++ kAfter (a.drop i) = a.take i ++ [UInt8.ofNat (a[i].toNat + 1)] := by
  rw [List.drop_eq_getElem_cons ha, kAfter, if_pos h]
theorem kAfter_end {a : List UInt8} {i : Nat} (h : ¬ i < a.length) : a.take i ++ kAfter (a.drop i) = a := by
  rw [List.drop_eq_nil_of_le (by omega : a.length ≤ i), List.take_of_length_le (by omega)]
  simp [kAfter]
end Go.Proofs.Yteokfgdennjjiaa
