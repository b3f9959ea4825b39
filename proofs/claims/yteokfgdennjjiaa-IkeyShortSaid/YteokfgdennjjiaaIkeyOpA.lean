/- package ikey: which entry may be; two of a kind compared; the first that is not nought -/
import Derived.Test.YteokfgdennjjiaaIkeyRefA
import Derived.Test.YteokfgdennjjiaaWords
namespace Go.Proofs.Yteokfgdennjjiaa
open Go.ChangeShapes Go.WideShapes Go.ChangeAt Go.RowKit

theorem entRight_kind {u v : ByteArray} {s k : Nat} {b : Bool} (h : b = true ↔ (u.size ≤ 1024 ∧ s ≤ 72057594037927935 ∧ (k = 0 ∧ v.size = 0 ∨ k = 1 ∧ v.size ≤ 65536))) : entRight ⟨u, s, k, v⟩ = b := by
  apply entRight_of
  rw [h]
  omega
set_option maxRecDepth 100000 in
theorem entRightC_any (e : Ent) (w : World) : Calls Try.prog 13 #[.agg (entCells e).toArray] w fun r w' => r = .returned (.bool (entRight e)) ∧ Fr Non w w' := by
  obtain ⟨u, s, k, v⟩ := e
  have hc : (entCells ⟨u, s, k, v⟩).toArray = #[.string u, .int .u64 s, .int .u8 k, .string v] := rfl
  rw [hc]
  clear hc
  have HE : Hid (∀ b : Bool, (b = true ↔ (u.size ≤ 1024 ∧ s ≤ 72057594037927935 ∧ (k = 0 ∧ v.size = 0 ∨ k = 1 ∧ v.size ≤ 65536))) → entRight ⟨u, s, k, v⟩ = b) := Lib.hid (fun b h => entRight_kind h)
  go_enter Try.func13, Try.ntmps13
  by_cases h1 : (u.size : Int) ≤ 1024
  · by_cases h2 : (s : Int) ≤ 72057594037927935
    · by_cases h3 : k = 0
      · subst h3
        by_cases h6 : v = ⟨#[]⟩
        · have i6 : v.toList.isEmpty = true := by rw [h6, ByteArray.toList_eq]; rfl
          have HV := Lib.hid ((size_zero_iff v).mpr h6)
          clear h6
          go_wp2
          go_ret
          exact ⟨by rw [HE.out true (by have hv := HV.out; exact ⟨fun _ => ⟨by omega, by omega, .inl (by simp [hv])⟩, fun _ => rfl⟩)]; rfl, Fr.alloc _ _⟩
        · have i6 : v.toList.isEmpty = false := by
            rw [ByteArray.toList_eq]
            cases hl : v.data.toList with
            | nil => exact absurd ((size_zero_iff v).mp (by rw [← ba_len, hl]; rfl)) h6
            | cons c l => rfl
          have HV : Hid (¬ v.size = 0) := Lib.hid (fun h => h6 ((size_zero_iff v).mp h))
          clear h6
          go_wp2
          go_ret
          exact ⟨by rw [HE.out false (by have hv := HV.out; simp only [Bool.false_eq_true, false_iff]; omega)]; rfl, Fr.alloc _ _⟩
      · have i3 : ((k : Int) == 0) = false := int_ne (b := 0) h3
        by_cases h5 : k = 1
        · subst h5
          by_cases h4 : (v.size : Int) ≤ 65536
          · go_wp2
            go_ret
            exact ⟨by rw [HE.out true (by simp; omega)]; rfl, Fr.alloc _ _⟩
          · go_wp2
            go_ret
            exact ⟨by rw [HE.out false (by simp; omega)]; rfl, Fr.alloc _ _⟩
        · have i5 : ((k : Int) == 1) = false := int_ne (b := 1) h5
          go_wp2
          go_ret
          exact ⟨by rw [HE.out false (by simp only [Bool.false_eq_true, false_iff]; omega)]; rfl, Fr.alloc _ _⟩
    · go_wp2
      go_ret
      exact ⟨by rw [HE.out false (by simp; omega)]; rfl, Fr.alloc _ _⟩
  · go_wp2
    go_ret
    exact ⟨by rw [HE.out false (by simp; omega)]; rfl, Fr.alloc _ _⟩

/-! cmp.Compare -/
set_option maxRecDepth 100000 in
theorem nanS_any (a : ByteArray) (w : World) : Calls Try.prog 46 #[.string a] w fun r w' => r = .returned (.bool false) ∧ w' = w := by
  have h : (a.toList == a.toList) = true := by simp
  go_enter Try.func46, Try.ntmps46
  go_wp2
  go_ret
  exact ⟨rfl, rfl⟩
set_option maxRecDepth 100000 in
theorem nanQ_any (a : Int) (w : World) : Calls Try.prog 47 #[.int .u64 a] w fun r w' => r = .returned (.bool false) ∧ w' = w := by
  go_enter Try.func47, Try.ntmps47
  go_wp2
  go_ret
  exact ⟨rfl, rfl⟩
set_option maxRecDepth 100000 in
theorem nanB_any (a : Int) (w : World) : Calls Try.prog 39 #[.int .u8 a] w fun r w' => r = .returned (.bool false) ∧ w' = w := by
  go_enter Try.func39, Try.ntmps39
  go_wp2
  go_ret
  exact ⟨rfl, rfl⟩
def cmpS (a b : ByteArray) : Int := if sLt a b = true then -1 else if sLt b a = true then 1 else 0
def cmpN (a b : Nat) : Int := if a < b then -1 else if b < a then 1 else 0
set_option maxRecDepth 100000 in
theorem cmpS_any (a b : ByteArray) (w : World) : Calls Try.prog 37 #[.string a, .string b] w fun r w' => r = .returned (.int .i64 (cmpS a b)) ∧ w' = w := by
  have HE : Hid (cmpS a b = if sLt a b = true then -1 else if sLt b a = true then 1 else 0) := Lib.hid rfl
  go_enter Try.func37, Try.ntmps37
  rcases text_ways a b with h | ⟨h, h2, h3⟩ | h
  · go_wp2_with first | (go_at_call 46; refine (nanS_any a _).mono ?_; rintro e w' ⟨rfl, rfl⟩) | (go_at_call 46; refine (nanS_any b _).mono ?_; rintro e w' ⟨rfl, rfl⟩)
    go_ret
    exact ⟨by rw [HE.out, if_pos (show sLt a b = true from h)]; rfl, rfl⟩
  · have H3 := Lib.hid h3
    clear h3
    go_wp2_with first | (go_at_call 46; refine (nanS_any a _).mono ?_; rintro e w' ⟨rfl, rfl⟩) | (go_at_call 46; refine (nanS_any b _).mono ?_; rintro e w' ⟨rfl, rfl⟩)
    go_ret
    exact ⟨by rw [HE.out, if_neg (by unfold sLt; rw [h]; decide), if_pos (show sLt b a = true from H3.out)]; rfl, rfl⟩
  · subst h
    have hi := sLt_irrefl a
    rw [hi] at HE
    have hi : Op.bytesLess a.toList a.toList = false := hi
    simp only [Bool.false_eq_true, if_false] at HE
    go_wp2_with (go_at_call 46; refine (nanS_any a _).mono ?_; rintro e w' ⟨rfl, rfl⟩)
    go_ret
    exact ⟨by rw [HE.out]; rfl, rfl⟩
set_option maxRecDepth 100000 in
theorem cmpQ_any (a b : Nat) (w : World) : Calls Try.prog 38 #[.int .u64 a, .int .u64 b] w fun r w' => r = .returned (.int .i64 (cmpN a b)) ∧ w' = w := by
  have HE : Hid (cmpN a b = if a < b then -1 else if b < a then 1 else 0) := Lib.hid rfl
  go_enter Try.func38, Try.ntmps38
  by_cases h1 : (a : Int) < b
  · go_wp2_with first | (go_at_call 47; refine (nanQ_any a _).mono ?_; rintro e w' ⟨rfl, rfl⟩) | (go_at_call 47; refine (nanQ_any b _).mono ?_; rintro e w' ⟨rfl, rfl⟩)
    go_ret
    exact ⟨by rw [HE.out, if_pos (by omega)]; rfl, rfl⟩
  · by_cases h2 : (b : Int) < a
    · go_wp2_with first | (go_at_call 47; refine (nanQ_any a _).mono ?_; rintro e w' ⟨rfl, rfl⟩) | (go_at_call 47; refine (nanQ_any b _).mono ?_; rintro e w' ⟨rfl, rfl⟩)
      go_ret
      exact ⟨by rw [HE.out, if_neg (by omega), if_pos (by omega)]; rfl, rfl⟩
    · go_wp2_with first | (go_at_call 47; refine (nanQ_any a _).mono ?_; rintro e w' ⟨rfl, rfl⟩) | (go_at_call 47; refine (nanQ_any b _).mono ?_; rintro e w' ⟨rfl, rfl⟩)
      go_ret
      exact ⟨by rw [HE.out, if_neg (by omega), if_neg (by omega)]; rfl, rfl⟩
set_option maxRecDepth 100000 in
theorem cmpB_any (a b : Nat) (w : World) : Calls Try.prog 27 #[.int .u8 a, .int .u8 b] w fun r w' => r = .returned (.int .i64 (cmpN a b)) ∧ w' = w := by
  have HE : Hid (cmpN a b = if a < b then -1 else if b < a then 1 else 0) := Lib.hid rfl
  go_enter Try.func27, Try.ntmps27
  by_cases h1 : (a : Int) < b
  · go_wp2_with first | (go_at_call 39; refine (nanB_any a _).mono ?_; rintro e w' ⟨rfl, rfl⟩) | (go_at_call 39; refine (nanB_any b _).mono ?_; rintro e w' ⟨rfl, rfl⟩)
    go_ret
    exact ⟨by rw [HE.out, if_pos (by omega)]; rfl, rfl⟩
  · by_cases h2 : (b : Int) < a
    · go_wp2_with first | (go_at_call 39; refine (nanB_any a _).mono ?_; rintro e w' ⟨rfl, rfl⟩) | (go_at_call 39; refine (nanB_any b _).mono ?_; rintro e w' ⟨rfl, rfl⟩)
      go_ret
      exact ⟨by rw [HE.out, if_neg (by omega), if_pos (by omega)]; rfl, rfl⟩
    · go_wp2_with first | (go_at_call 39; refine (nanB_any a _).mono ?_; rintro e w' ⟨rfl, rfl⟩) | (go_at_call 39; refine (nanB_any b _).mono ?_; rintro e w' ⟨rfl, rfl⟩)
      go_ret
      exact ⟨by rw [HE.out, if_neg (by omega), if_neg (by omega)]; rfl, rfl⟩
end Go.Proofs.Yteokfgdennjjiaa
