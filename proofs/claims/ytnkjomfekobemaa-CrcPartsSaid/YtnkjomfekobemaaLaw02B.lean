/- the sum hangs on the bytes alone, not on how they are parted -/
import Derived.Test.YtnkjomfekobemaaLaw02A
import Derived.Deep.RegionHeld
namespace Go.Proofs.Ytnkjomfekobemaa
open Go.ChangeShapes Go.WideShapes Go.ChangeAt Go.RowKit

set_option maxRecDepth 100000 in
set_option maxHeartbeats 1000000 in
theorem partsw (W : World) (v : Value) (l : List UInt8) (cut : Nat) (hv : Row W v (bs l)) (hl : l.length ≤ 140737488351232) (_ : (cut : Int) ≤ IntKind.u64.max) :
    Calls Try.prog 6 #[v, .int .u64 cut] W fun e w' => e = .returned (.bool true) ∧ Fr Non W w' := by
  obtain ⟨a, c, rfl, q1, q2, q3, q4⟩ := id hv
  rw [bs_length] at *
  clear q4
  obtain ⟨n, hn⟩ : ∃ n, n = l.length := ⟨_, rfl⟩
  rw [← hn] at hv hl q1 ⊢
  unfold maxLen at q2
  have hmod : (cut : Int) % ((n : Int) + 1) = ((cut % (n + 1) : Nat) : Int) := by push_cast; rfl
  have hk : cut % (n + 1) ≤ n := by have := Nat.mod_lt cut (show 0 < n + 1 by omega); omega
  generalize cut % (n + 1) = k at hmod hk
  have hk0 : (0 : Int) ≤ (k : Int) := by omega
  have hkn : (k : Int) ≤ (n : Int) := by omega
  have hkc : (k : Int) ≤ (c : Int) := by omega
  have hnc : (n : Int) ≤ (c : Int) := by omega
  have HV := Lib.hid hv
  have HN := Lib.hid hn
  have H3 := Lib.hid q3
  clear hv hn q3
  go_enter Try.func6, Try.ntmps6
  go_wp2_with fail
  refine (Sum_any _ [l] _ (Rows2.built (n := 1) (us := [.slice a n c]) rfl rfl (by decide) rfl (all1 HV.out))).mono ?_
  rintro e w1 ⟨rfl, hw1⟩
  have hf : Fr Non W w1 := by rw [← hw1]; exact (Fr.alloc W _)
  clear hw1
  go_wp2_with fail
  obtain ⟨v1, r1, hv1, -⟩ := run_subHi (P := Try.prog) HV.out 23 5 Try.underlying23 (by kernel_rfl) .i64 k k rfl (by rw [bs_length]; have := HN.out; omega)
  obtain ⟨v2, r2, hv2, -⟩ := run_subLo (P := Try.prog) HV.out 23 5 Try.underlying23 (by kernel_rfl) .i64 k k rfl (by rw [bs_length]; have := HN.out; omega)
  have hv1' : Row W v1 (bs (l.take k)) := by simpa [bs, List.map_take] using hv1
  have hv2' : Row W v2 (bs (l.drop k)) := by simpa [bs, List.map_drop] using hv2
  have e1 : cSum [l.take k, l.drop k] = cSum [l] := by
    show cMore (cMore 0 _) _ = cMore 0 l
    rw [← cMore_append (by omega), List.take_append_drop]
  have e2 : cMore (cSum [l.take k]) (l.drop k) = cSum [l] := e1
  have e3 : cSum [[], l, []] = cSum [l] := by
    show cMore (cMore (cMore 0 []) l) [] = cMore 0 l
    rw [cMore_nil (cMore_lt _ _), cMore_nil (by decide)]
  have lt1 := cSum_lt [l.take k]
  clear hv1 hv2
  generalize l.take k = l1 at hv1' e1 e2 lt1
  generalize l.drop k = l2 at hv2' e1 e2
  obtain ⟨a1, c1, rfl, -, -, -, -⟩ := id hv1'
  obtain ⟨a2, c2, rfl, -, -, -, -⟩ := id hv2'
  generalize (bs l1).length = n1 at hv1' r1
  generalize (bs l2).length = n2 at hv2' r2
  have HV1 := Lib.hid hv1'
  have HV2 := Lib.hid hv2'
  have E1 := Lib.hid e1
  have E2 := Lib.hid e2
  have E3 := Lib.hid e3
  have LT := Lib.hid lt1
  clear hv1' hv2' e1 e2 e3 lt1
  generalize cSum [l] = s at E1 E2 E3
  go_region_held (fun _ => True) (trivial) (first
    | (go_at_call 9; refine (shown2_any _).mono ?_; rintro e w2 ⟨rfl, hf2⟩; have hf3 : Fr Non W w2 := (hf.non (Fr.drew _)).non hf2)
    | (go_at_call 12; refine (Sum_any _ _ _ (by first
        | exact Rows2.built (ls := [l1, l2]) (n := 2) (us := [.slice a1 n1 c1, .slice a2 n2 c2]) (by simp) rfl (by decide) rfl (all2 (HV1.out.non hf3) (HV2.out.non hf3))
        | exact (Rows2.built (ls := [l1]) (n := 1) (us := [.slice a1 n1 c1]) (by simp) rfl (by decide) rfl (all1 ((HV1.out.non hf3).non (Fr.alloc _ _))))
        | exact (Rows2.built (ls := [[], l, []]) (n := 3) (us := [.slice none 0 0, .slice a n c, .slice none 0 0]) (by simp) rfl (by decide) rfl (all3 (Row.nil _) (((HV.out.non hf3).non (Fr.alloc _ _)).non (Fr.alloc _ _)) (Row.nil _))))).mono ?_; rintro e w' ⟨rfl, rfl⟩; try first | rw [E1.out] | rw [E3.out])
    | (go_at_call 10; refine (crcMore_any _ _ _ _ LT.out ((HV2.out.non hf3).non (Fr.alloc _ _) |>.non (Fr.alloc _ _))).mono ?_; rintro e w' ⟨rfl, rfl⟩; rw [E2.out]))
  all_goals go_wp2
  all_goals go_ret
  all_goals exact ⟨by simp, ((hf3.non (Fr.alloc _ _)).non (Fr.alloc _ _)).non (Fr.alloc _ _)⟩
end Go.Proofs.Ytnkjomfekobemaa
