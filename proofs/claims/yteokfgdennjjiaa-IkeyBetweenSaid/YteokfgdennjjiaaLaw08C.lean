/- layer 8: which entry a text is the inner key of; which rise; short keys -/
import Derived.Test.YteokfgdennjjiaaLaw08A
import Derived.Test.YteokfgdennjjiaaIkeyRefT
import Derived.Test.YteokfgdennjjiaaIkeyRefK
import Derived.Test.YteokfgdennjjiaaIkeyRefS
namespace Go.Proofs.Yteokfgdennjjiaa
open Go.ChangeShapes Go.WideShapes Go.ChangeAt Go.RowKit

set_option maxRecDepth 100000 in
set_option maxHeartbeats 2000000 in
/-- P8.3 -/
theorem takes8_any (C : IkeyC) (W : World) (s : ByteArray) (hs : s.size ≤ 140737488351232) : Calls Try.prog 4 #[.string s] W fun e W' => e = .returned (.bool true) ∧ Fr Non W W' := by
  have hzv : ∀ w, (zeroValue 24).run Try.prog w = .ok (.agg (entCells Ent.zero).toArray) w := fun _ => by kernel_rfl
  have HZV := Lib.hid hzv
  have hie : (Try.prog.info? 24).map (·.size) = some 4 := by kernel_rfl
  have hue := Try.underlying24
  clear hzv
  go_enter Try.func4, Try.ntmps4
  go_wp2_with fail
  refine (C.take s W (by omega)).mono ?_
  rintro e w1 ⟨rfl, hf1⟩
  obtain ⟨T, hT⟩ : ∃ T, T = entTake s := ⟨_, rfl⟩
  rw [← hT]
  have HT := Lib.hid hT
  have F1 := Lib.hid hf1
  clear hf1 hT
  go_wp2_with ((with_reducible show wpList _ _ _ (({ op := .alloc _, .. } : Oper) :: _) _ _); refine wpList_var rfl rfl 24 3 (.tmp 10) rfl rfl rfl rfl _ (entCells T.1) HZV.out rfl hie (ent_one _) (by simp) (fun _ => rfl) ?_)
  intro w2 hb2 hf2 _
  obtain ⟨X, hX⟩ : ∃ X, X = w1.heap.size := ⟨_, rfl⟩
  rw [← hX] at hb2 ⊢
  simp only [List.set_cons_succ, List.set_cons_zero]
  have F2 := Lib.hid (F1.out.non hf2)
  have HX2 := Lib.hid hb2
  clear hb2 hf2 hX F1
  go_wp2_with fail
  refine (refEntTake_any s w2 (by omega)).mono ?_
  rintro e w3 ⟨rfl, hf3⟩
  rw [← HT.out]
  have F3 := Lib.hid (F2.out.non hf3)
  have HX3 := Lib.hid (HX2.out.non hf3)
  clear hf3 F2 HX2
  go_wp2_with ((with_reducible show wpList _ _ _ (({ op := .alloc _, .. } : Oper) :: _) _ _); refine wpList_var rfl rfl 24 5 (.tmp 15) rfl rfl rfl rfl _ (entCells T.1) HZV.out rfl hie (ent_one _) (by simp) (fun _ => rfl) ?_)
  intro w4 hb4 hf4 _
  obtain ⟨Y, hY⟩ : ∃ Y, Y = w3.heap.size := ⟨_, rfl⟩
  rw [← hY] at hb4 ⊢
  simp only [List.set_cons_succ, List.set_cons_zero]
  have F4 := Lib.hid (F3.out.non hf4)
  have HX4 := Lib.hid (HX3.out.non hf4)
  have HY4 := Lib.hid hb4
  clear hb4 hf4 hY F3 HX3 HT
  obtain ⟨M, er⟩ := T
  dsimp only at HX4 HY4 ⊢
  go_wp2_with fail
  refine (shown8_any C w4).mono ?_
  rintro e w5 ⟨rfl, hf5⟩
  have F5 := Lib.hid (F4.out.non hf5)
  obtain ⟨c0, c1, c2, c3⟩ := entCells_at (HX4.out.non hf5)
  obtain ⟨d0, d1, d2, d3⟩ := entCells_at (HY4.out.non hf5)
  clear hf5 F4 HX4 HY4
  go_wp2_with fail
  go_ret
  exact ⟨rfl, F5.out⟩

/-- P8.2 -/
theorem rises8_any (C : IkeyC) (W : World) (v : Value) (es : List Ent) (hv : ERow W v es) (hk : ∀ e ∈ es, e.seq < 18446744073709551616 ∧ e.kind < 256) : Calls Try.prog 5 #[v] W fun e W' => e = .returned (.bool true) ∧ Fr Non W W' := by
  have HV := Lib.hid hv
  have HK := Lib.hid hk
  clear hv hk
  go_enter Try.func5, Try.ntmps5
  go_wp2_with fail
  refine (shown8_any C W).mono ?_
  rintro e w1 ⟨rfl, hf1⟩
  have F1 := Lib.hid hf1
  clear hf1
  go_wp2_with fail
  refine (C.rises v es w1 (HV.out.non F1.out) HK.out).mono ?_
  rintro e w2 ⟨rfl, hf2⟩
  have F2 := Lib.hid (F1.out.non hf2)
  clear hf2 F1
  obtain ⟨rb, hrb⟩ : ∃ rb, rb = entRises es := ⟨_, rfl⟩
  rw [← hrb]
  have HRB := Lib.hid hrb
  clear hrb
  go_wp2_with fail
  refine (refRises_any v es w2 (HV.out.non F2.out)).mono ?_
  rintro e w3 ⟨rfl, hf3⟩
  rw [← HRB.out]
  have F3 := Lib.hid (F2.out.non hf3)
  clear hf3 F2
  go_wp2_with fail
  go_ret
  exact ⟨rfl, F3.out⟩

/-- P8.4 -/
theorem betweens8_any (C : IkeyC) (W : World) (a b : ByteArray) (ha : a.size ≤ 140737488351232) (hb : b.size ≤ 140737488351232) : Calls Try.prog 6 #[.string a, .string b] W fun e W' => e = .returned (.bool true) ∧ Fr Non W W' := by
  go_enter Try.func6, Try.ntmps6
  go_wp2_with fail
  refine (shown8_any C W).mono ?_
  rintro e w1 ⟨rfl, hf1⟩
  have F1 := Lib.hid hf1
  clear hf1
  go_wp2_with fail
  refine (C.between a b w1 (by omega) (by omega)).mono ?_
  rintro e w2 ⟨rfl, hf2⟩
  have F2 := Lib.hid (F1.out.non hf2)
  clear hf2 F1
  obtain ⟨D, hD⟩ : ∃ D, D = baBetween a b := ⟨_, rfl⟩
  rw [← hD]
  have HD := Lib.hid hD
  clear hD
  go_wp2_with fail
  refine (refBetween_any a b w2 (by omega) (by omega)).mono ?_
  rintro e w3 ⟨rfl, hf3⟩
  rw [← HD.out]
  have F3 := Lib.hid (F2.out.non hf3)
  clear hf3 F2
  go_wp2_with fail
  refine (C.after a w3 (by omega)).mono ?_
  rintro e w4 ⟨rfl, hf4⟩
  have F4 := Lib.hid (F3.out.non hf4)
  clear hf4 F3
  obtain ⟨E, hE⟩ : ∃ E, E = baAfter a := ⟨_, rfl⟩
  rw [← hE]
  have HE := Lib.hid hE
  clear hE
  go_wp2_with fail
  refine (refAfter_any a w4 (by omega)).mono ?_
  rintro e w5 ⟨rfl, hf5⟩
  rw [← HE.out]
  have F5 := Lib.hid (F4.out.non hf5)
  clear hf5 F4
  go_wp2_with fail
  go_ret
  exact ⟨rfl, F5.out⟩
end Go.Proofs.Yteokfgdennjjiaa
