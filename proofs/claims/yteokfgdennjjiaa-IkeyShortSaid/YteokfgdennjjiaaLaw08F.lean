/- layer 8: a short key between two lies there -/
import Derived.Test.YteokfgdennjjiaaLaw08A
import Derived.Laws.Cover1
namespace Go.Proofs.Yteokfgdennjjiaa
open Go.ChangeShapes Go.WideShapes Go.ChangeAt Go.RowKit

theorem between_facts (a b : ByteArray) : Op.bytesLess (baBetween a b).toList a.toList = false ∧ (Op.bytesLess a.toList b.toList = true → Op.bytesLess (baBetween a b).toList b.toList = true) ∧ (baBetween a b).size ≤ a.size := by
  rw [ByteArray.toList_eq, ByteArray.toList_eq, ByteArray.toList_eq]
  refine ⟨kBetween_ge _ _, kBetween_lt _ _, ?_⟩
  have h := kBetween_len a.data.toList b.data.toList
  rw [ba_len] at h
  exact h
theorem after_facts (a : ByteArray) : Op.bytesLess (baAfter a).toList a.toList = false ∧ (baAfter a).size ≤ a.size := by
  rw [ByteArray.toList_eq, ByteArray.toList_eq]
  refine ⟨kAfter_ge _, ?_⟩
  have h := kAfter_len a.data.toList
  rw [ba_len] at h
  exact h
set_option maxRecDepth 100000 in
set_option maxHeartbeats 2000000 in
/-- P8.7 -/
theorem short8_any (C : IkeyC) (W : World) (a b : ByteArray) (ha : a.size ≤ 140737488351232) (hb : b.size ≤ 140737488351232) : Calls Try.prog 9 #[.string a, .string b] W fun e W' => e = .returned (.bool true) ∧ Fr Non W W' := by
  go_enter Try.func9, Try.ntmps9
  go_wp2_with fail
  refine (shown8_any C W).mono ?_
  rintro e w1 ⟨rfl, hf1⟩
  have F1 := Lib.hid hf1
  clear hf1
  go_wp2_with fail
  refine (C.between a b w1 (by omega) (by omega)).mono ?_
  rintro e w2 ⟨rfl, hf2⟩
  have F2 := Lib.hid (F1.out.non hf2)
  clear hf2 F1
  have hx := between_facts a b
  generalize baBetween a b = x at hx ⊢
  have HX := Lib.hid hx
  clear hx
  go_wp2_with fail
  refine (C.after a w2 (by omega)).mono ?_
  rintro e w3 ⟨rfl, hf3⟩
  have F3 := Lib.hid (F2.out.non hf3)
  clear hf3 F2
  have hy := after_facts a
  generalize baAfter a = y at hy ⊢
  obtain ⟨x1, x2, x3⟩ := HX.out
  obtain ⟨y1, y2⟩ := hy
  have s1 : ¬ (a.size : Int) < (y.size : Int) := by omega
  have s2 : ¬ (a.size : Int) < (x.size : Int) := by omega
  cases hab : Op.bytesLess a.toList b.toList with
  | true =>
    have x4 := x2 hab
    clear x2 x3 y2 HX
    go_wp2_with fail
    go_ret
    exact ⟨rfl, F3.out⟩
  | false =>
    clear x2 x3 y2 HX
    go_wp2_with fail
    go_ret
    exact ⟨rfl, F3.out⟩
end Go.Proofs.Yteokfgdennjjiaa
