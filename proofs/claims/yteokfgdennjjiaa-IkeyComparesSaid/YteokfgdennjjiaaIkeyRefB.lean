/- package ikey, the document's: entries compared -/
import Derived.Test.YteokfgdennjjiaaIkeyRefA
namespace Go.Proofs.Yteokfgdennjjiaa
open Go.ChangeShapes Go.WideShapes Go.ChangeAt Go.RowKit
set_option maxRecDepth 100000 in
theorem refEntCmp_any (a b : Ent) (w : World) : Calls Try.prog 12 #[.agg (entCells a).toArray, .agg (entCells b).toArray] w fun r w' => r = .returned (.int .i64 (entCmp a b)) ∧ Fr Non w w' := by
  obtain ⟨u, s, k, v⟩ := a
  obtain ⟨u', s', k', v'⟩ := b
  have hc : (entCells ⟨u, s, k, v⟩).toArray = #[.string u, .int .u64 s, .int .u8 k, .string v] := rfl
  have hc' : (entCells ⟨u', s', k', v'⟩).toArray = #[.string u', .int .u64 s', .int .u8 k', .string v'] := rfl
  rw [hc, hc']
  clear hc hc'
  have HE : Hid (entCmp ⟨u, s, k, v⟩ ⟨u', s', k', v'⟩ = if sLt u u' = true then -1 else if sLt u' u = true then 1 else if s' < s then -1 else if s < s' then 1 else if k' < k then -1 else if k < k' then 1 else 0) := Lib.hid rfl
  go_enter Try.func12, Try.ntmps12
  rcases text_ways u u' with h | ⟨h, h2, h3⟩ | h
  · go_wp2
    go_ret
    exact ⟨by rw [HE.out, if_pos (show sLt u u' = true from h)]; rfl, two_boxes _ _ _ _⟩
  · have H3 := Lib.hid h3
    clear h3
    go_wp2
    go_ret
    exact ⟨by rw [HE.out, if_neg (by unfold sLt; rw [h]; decide), if_pos (show sLt u' u = true from H3.out)]; rfl, two_boxes _ _ _ _⟩
  · subst h
    have hi := sLt_irrefl u
    rw [hi] at HE
    have hi : Op.bytesLess u.toList u.toList = false := hi
    simp only [Bool.false_eq_true, if_false] at HE
    by_cases hs : s = s'
    · subst hs
      by_cases hk : k = k'
      · subst hk
        go_wp2
        go_ret
        exact ⟨by rw [HE.out]; simp, two_boxes _ _ _ _⟩
      · have ik := int_ne hk
        by_cases hg : (k' : Int) < k
        · go_wp2
          go_ret
          exact ⟨by rw [HE.out]; simp; omega, two_boxes _ _ _ _⟩
        · go_wp2
          go_ret
          exact ⟨by rw [HE.out]; simp; omega, two_boxes _ _ _ _⟩
    · have is := int_ne hs
      by_cases hg : (s' : Int) < s
      · go_wp2
        go_ret
        exact ⟨by rw [HE.out, if_pos (by omega)]; rfl, two_boxes _ _ _ _⟩
      · go_wp2
        go_ret
        exact ⟨by rw [HE.out, if_neg (by omega), if_pos (by omega)]; rfl, two_boxes _ _ _ _⟩
end Go.Proofs.Yteokfgdennjjiaa
