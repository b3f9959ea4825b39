/- package ikey, the document's: which entry may be, which stands ahead -/
import Derived.Test.YteokfgdennjjiaaEntCells
import Derived.Laws.Cover1
namespace Go.Proofs.Yteokfgdennjjiaa
open Go.ChangeShapes Go.WideShapes Go.ChangeAt Go.RowKit

theorem entRight_of {u v : ByteArray} {s k : Nat} {b : Bool} (h : b = true ↔ (u.size ≤ 1024 ∧ s ≤ 72057594037927935 ∧ k ≤ 1 ∧ v.size ≤ 65536 ∧ (k = 1 ∨ v.size = 0))) : entRight ⟨u, s, k, v⟩ = b := by
  rw [Bool.eq_iff_iff, h]
  simp [entRight, and_assoc]
theorem size_zero_iff (v : ByteArray) : v.size = 0 ↔ v = ⟨#[]⟩ := by
  constructor
  · intro h
    apply ba_ext
    have : v.data.toList.length = 0 := by rw [ba_len]; exact h
    rw [List.length_eq_zero_iff.mp this]
  · rintro rfl; rfl
set_option maxRecDepth 100000 in
theorem refEntRight_any (e : Ent) (w : World) : Calls Try.prog 14 #[.agg (entCells e).toArray] w fun r w' => r = .returned (.bool (entRight e)) ∧ Fr Non w w' := by
  obtain ⟨u, s, k, v⟩ := e
  have hc : (entCells ⟨u, s, k, v⟩).toArray = #[.string u, .int .u64 s, .int .u8 k, .string v] := rfl
  rw [hc]
  clear hc
  have HE : Hid (∀ b : Bool, (b = true ↔ (u.size ≤ 1024 ∧ s ≤ 72057594037927935 ∧ k ≤ 1 ∧ v.size ≤ 65536 ∧ (k = 1 ∨ v.size = 0))) → entRight ⟨u, s, k, v⟩ = b) := Lib.hid (fun b h => entRight_of h)
  go_enter Try.func14, Try.ntmps14
  by_cases h1 : (u.size : Int) ≤ 1024
  · by_cases h2 : (s : Int) ≤ 72057594037927935
    · by_cases h3 : (k : Int) ≤ 1
      · by_cases h4 : (v.size : Int) ≤ 65536
        · by_cases h5 : k = 1
          · subst h5
            go_wp2
            go_ret
            exact ⟨by rw [HE.out true (by simp; omega)]; rfl, Fr.alloc _ _⟩
          · have i5 : ((k : Int) == 1) = false := int_ne (b := 1) h5
            by_cases h6 : v = ⟨#[]⟩
            · have i6 : v.toList.isEmpty = true := by rw [h6, ByteArray.toList_eq]; rfl
              have HV := Lib.hid ((size_zero_iff v).mpr h6)
              clear h6
              go_wp2
              go_ret
              exact ⟨by rw [HE.out true (by have hv := HV.out; exact ⟨fun _ => ⟨by omega, by omega, by omega, by omega, .inr hv⟩, fun _ => rfl⟩)]; rfl, Fr.alloc _ _⟩
            · have i6 : v.toList.isEmpty = false := by
                rw [ByteArray.toList_eq]
                cases hl : v.data.toList with
                | nil => exact absurd ((size_zero_iff v).mp (by rw [← ba_len, hl]; rfl)) h6
                | cons c l => rfl
              have HV := Lib.hid (fun h => h6 ((size_zero_iff v).mp h))
              clear h6
              go_wp2
              go_ret
              exact ⟨by rw [HE.out false (by have hv := HV.out; simp only [Bool.false_eq_true, false_iff]; rintro ⟨-, -, -, -, h | h⟩; exact h5 h; exact hv h)]; rfl, Fr.alloc _ _⟩
        · go_wp2
          go_ret
          exact ⟨by rw [HE.out false (by simp; omega)]; rfl, Fr.alloc _ _⟩
      · go_wp2
        go_ret
        exact ⟨by rw [HE.out false (by simp; omega)]; rfl, Fr.alloc _ _⟩
    · go_wp2
      go_ret
      exact ⟨by rw [HE.out false (by simp; omega)]; rfl, Fr.alloc _ _⟩
  · go_wp2
    go_ret
    exact ⟨by rw [HE.out false (by simp; omega)]; rfl, Fr.alloc _ _⟩
theorem two_boxes (w : World) (t : TypeId) (xs ys : Array Value) : Fr Non w ((w.alloc (.cells xs t)).alloc (.cells ys t)) := (Fr.alloc _ _).non (Fr.alloc _ _)
/-- three ways in which two texts lie -/
theorem text_ways (a b : ByteArray) : (Op.bytesLess a.toList b.toList = true) ∨ (Op.bytesLess a.toList b.toList = false ∧ (a.toList == b.toList) = false ∧ Op.bytesLess b.toList a.toList = true) ∨ a = b := by
  cases h1 : Op.bytesLess a.toList b.toList with
  | true => exact .inl rfl
  | false =>
    cases h2 : Op.bytesLess b.toList a.toList with
    | true => exact .inr (.inl ⟨rfl, by rw [Bool.beq_comm]; exact bLt_eq_false h2, rfl⟩)
    | false => exact .inr (.inr (sLt_total h1 h2))
set_option maxRecDepth 100000 in
theorem refEntAhead_any (a b : Ent) (w : World) : Calls Try.prog 33 #[.agg (entCells a).toArray, .agg (entCells b).toArray] w fun r w' => r = .returned (.bool (entAhead a b)) ∧ Fr Non w w' := by
  obtain ⟨u, s, k, v⟩ := a
  obtain ⟨u', s', k', v'⟩ := b
  have hc : (entCells ⟨u, s, k, v⟩).toArray = #[.string u, .int .u64 s, .int .u8 k, .string v] := rfl
  have hc' : (entCells ⟨u', s', k', v'⟩).toArray = #[.string u', .int .u64 s', .int .u8 k', .string v'] := rfl
  rw [hc, hc']
  clear hc hc'
  have HE : Hid (entAhead ⟨u, s, k, v⟩ ⟨u', s', k', v'⟩ = (Op.bytesLess u.toList u'.toList || ((u.toList == u'.toList) && decide (s' < s)))) := Lib.hid rfl
  go_enter Try.func33, Try.ntmps33
  rcases text_ways u u' with h | ⟨h, h2, h3⟩ | h
  · go_wp2
    go_ret
    exact ⟨by rw [HE.out, h]; rfl, two_boxes _ _ _ _⟩
  · go_wp2
    go_ret
    exact ⟨by rw [HE.out, h, h2]; rfl, two_boxes _ _ _ _⟩
  · subst h
    have hi : Op.bytesLess u.toList u.toList = false := bLt_irrefl _
    by_cases hg : (s' : Int) < s
    · go_wp2
      go_ret
      exact ⟨by rw [HE.out, hi, decide_eq_true (by omega)]; simp, two_boxes _ _ _ _⟩
    · go_wp2
      go_ret
      exact ⟨by rw [HE.out, hi, decide_eq_false (by omega)]; simp, two_boxes _ _ _ _⟩
end Go.Proofs.Yteokfgdennjjiaa
