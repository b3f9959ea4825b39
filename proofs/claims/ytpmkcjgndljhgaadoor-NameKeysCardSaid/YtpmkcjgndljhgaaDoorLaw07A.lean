/- layer 7: the document's examples (the head of all statements) -/
import Derived.Test.YtpmkcjgndljhgaaDoorNameC
import Derived.Test.YtpmkcjgndljhgaaDoorWhole
import Derived.Test.YtpmkcjgndljhgaaDoorHeld

namespace Go.Proofs.YtpmkcjgndljhgaaDoor
open Go.ChangeShapes Go.WideShapes Go.ChangeAt Go.RowKit

theorem take_29 : hdTake (List.replicate 29 0) = (Hd.zero, 10) := by unfold hdTake; rw [if_pos (by simp)]
theorem take_30 : hdTake (List.replicate 30 0) = (Hd.zero, 70) := by unfold hdTake; rw [if_neg (by simp), if_neg (by decide)]
set_option maxRecDepth 100000 in
set_option maxHeartbeats 2000000 in
theorem shown7_any {T : World → Prop} (C : NameC T) (w : World) (hT : T w) : Calls Tryd.prog 10 #[] w fun e w' => e = .returned (.bool true) ∧ Fr Non w w' := by
  obtain ⟨i0, hi⟩ := info_parts Tryd.info5
  have HI := Lib.hid hi
  have HT := Lib.hid hT
  clear hi hT
  go_enter Tryd.func10, Tryd.ntmps10
  go_wp2_with fail
  refine (C.parse _ _ (by decide) HT.out).mono ?_
  rintro e w1 ⟨⟨k1, n1, b1, rfl, hp1⟩, hf1⟩
  obtain ⟨rfl, rfl, rfl⟩ := hp1.once (.inr ⟨rfl, rfl, rfl, ex_no5⟩)
  have F1 := Lib.hid hf1
  clear hp1 hf1
  go_wp2_with fail
  refine (C.parse _ _ (by decide) (C.tf HT.out F1.out)).mono ?_
  rintro e w2 ⟨⟨k2, n2, b2, rfl, hp2⟩, hf2⟩
  obtain ⟨rfl, rfl, rfl⟩ := hp2.once (.inr ⟨rfl, rfl, rfl, ex_no7⟩)
  have F2 := Lib.hid (F1.out.non hf2)
  clear hp2 hf2 F1
  go_wp2_with fail
  refine (C.parse _ _ (by decide) (C.tf HT.out F2.out)).mono ?_
  rintro e w3 ⟨⟨k3, n3, b3, rfl, hp3⟩, hf3⟩
  obtain ⟨rfl, rfl, rfl⟩ := hp3.once (.inl ⟨rfl, ex_cur⟩)
  have F3 := Lib.hid (F2.out.non hf3)
  clear hp3 hf3 F2
  go_upto_region 4 with (fail)
  refine wp_region_lit ?_
  refine wpList_make_row _ rfl _ _ 33 rfl 5 i0 (.int .u8 0) Tryd.underlying33 HI.out.1 HI.out.2.1 HI.out.2.2.1 rfl .i64 .i64 29 rfl rfl (by rw [HI.out.2.2.2]; omega) (by omega) ?_
  rw [made_bytes]
  have hr4 : Row (w3.alloc (.cells (bs (List.replicate 29 0)).toArray 5)) (.slice (some ⟨w3.heap.size, 0, none⟩) 29 29) (bs (List.replicate 29 0)) := (Blk.new w3 5 (bs (List.replicate 29 0))).part 0 29 _ (by simp) (by decide) (fun j v hj => by rw [Nat.zero_add]; exact hj)
  have hf4 := Fr.alloc w3 (.cells (bs (List.replicate 29 0)).toArray 5)
  generalize w3.alloc (.cells (bs (List.replicate 29 0)).toArray 5) = w4 at hr4 hf4 ⊢
  have HR4 := Lib.hid hr4
  have HF4 := Lib.hid (F3.out.non hf4)
  have hl4 : (List.replicate 29 (0 : UInt8)).length ≤ 281474976710656 := by simp only [List.length_replicate]; omega
  clear hr4 hf4 F3
  go_wp2_with fail
  refine (C.take _ _ _ HR4.out hl4).mono ?_
  rw [take_29]
  rintro e w5 ⟨rfl, hf⟩
  have F5 := Lib.hid (HF4.out.non hf)
  clear hf HF4 HR4 hl4
  simp only [hdCells, Hd.zero]
  go_upto_region 5 with (fail)
  have hfz := Fr.alloc w5 (.cells #[Value.int .u8 0, Value.int .u8 0, Value.int .u64 0, Value.int .u64 0, Value.int .u64 0] 32)
  generalize w5.alloc (.cells #[Value.int .u8 0, Value.int .u8 0, Value.int .u64 0, Value.int .u64 0, Value.int .u64 0] 32) = x5 at hfz ⊢
  have F6 := Lib.hid (F5.out.non hfz)
  clear hfz F5
  refine wp_region_lit ?_
  refine wpList_make_row _ rfl _ _ 33 rfl 5 i0 (.int .u8 0) Tryd.underlying33 HI.out.1 HI.out.2.1 HI.out.2.2.1 rfl .i64 .i64 30 rfl rfl (by rw [HI.out.2.2.2]; omega) (by omega) ?_
  rw [made_bytes]
  have hr5 : Row (x5.alloc (.cells (bs (List.replicate 30 0)).toArray 5)) (.slice (some ⟨x5.heap.size, 0, none⟩) 30 30) (bs (List.replicate 30 0)) := (Blk.new x5 5 (bs (List.replicate 30 0))).part 0 30 _ (by simp) (by decide) (fun j v hj => by rw [Nat.zero_add]; exact hj)
  have hf5 := Fr.alloc x5 (.cells (bs (List.replicate 30 0)).toArray 5)
  generalize x5.alloc (.cells (bs (List.replicate 30 0)).toArray 5) = w6 at hr5 hf5 ⊢
  have HR5 := Lib.hid hr5
  have HF5 := Lib.hid (F6.out.non hf5)
  have hl5 : (List.replicate 30 (0 : UInt8)).length ≤ 281474976710656 := by simp only [List.length_replicate]; omega
  clear hr5 hf5 F6
  go_wp2_with fail
  refine (C.take _ _ _ HR5.out hl5).mono ?_
  rw [take_30]
  rintro e w7 ⟨rfl, hf⟩
  have F7 := Lib.hid (HF5.out.non hf)
  clear hf HF5 HR5 hl5
  simp only [hdCells, Hd.zero]
  go_upto_region 6 with (fail)
  have hfz := Fr.alloc w7 (.cells #[Value.int .u8 0, Value.int .u8 0, Value.int .u64 0, Value.int .u64 0, Value.int .u64 0] 32)
  generalize w7.alloc (.cells #[Value.int .u8 0, Value.int .u8 0, Value.int .u64 0, Value.int .u64 0, Value.int .u64 0] 32) = w8 at hfz ⊢
  have F8 := Lib.hid (F7.out.non hfz)
  clear hfz F7
  go_wp2_with fail
  refine (C.name 1 12 _ (by omega) (by omega) (C.tf HT.out F8.out)).mono ?_
  rw [ex_log]
  rintro e w9 ⟨rfl, hf9⟩
  have F9 := Lib.hid (F8.out.non hf9)
  clear hf9 F8
  go_wp2_with fail
  refine (C.name 3 1234567 _ (by omega) (by omega) (C.tf HT.out F9.out)).mono ?_
  rw [ex_man]
  rintro e w10 ⟨rfl, hf10⟩
  have F10 := Lib.hid (F9.out.non hf10)
  clear hf10 F9
  go_wp2_with fail
  go_ret
  exact ⟨rfl, F10.out⟩
end Go.Proofs.YtpmkcjgndljhgaaDoor
