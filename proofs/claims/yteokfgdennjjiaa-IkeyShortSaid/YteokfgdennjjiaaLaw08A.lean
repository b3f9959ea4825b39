/- layer 8: the document's examples (the head of all statements) -/
import Derived.Test.YteokfgdennjjiaaIkeyC
import Derived.Test.YteokfgdennjjiaaWhole
import Derived.Test.YteokfgdennjjiaaHeld
import Derived.Deep.CutBlock
import Derived.Deep.DeepCutAuto
namespace Go.Proofs.Yteokfgdennjjiaa
open Go.ChangeShapes Go.WideShapes Go.ChangeAt Go.RowKit

def eA5 : Ent := ⟨⟨#[97]⟩, 5, 0, ⟨#[]⟩⟩
def eA4 : Ent := ⟨⟨#[97]⟩, 4, 0, ⟨#[]⟩⟩
def eB : Ent := ⟨⟨#[98]⟩, 0, 0, ⟨#[]⟩⟩
def eA1 : Ent := ⟨⟨#[97]⟩, 1, 1, ⟨#[]⟩⟩
theorem ex_cmp1 : entCmp eA5 eA4 = -1 := by unfold entCmp; rw [show eA5.user = eA4.user from rfl, sLt_irrefl]; rfl
theorem sLt_ab : sLt ⟨#[97]⟩ ⟨#[98]⟩ = true := by unfold sLt; rw [ByteArray.toList_eq, ByteArray.toList_eq]; rfl
theorem ex_cmp2 : entCmp eB eA5 = 1 := by
  unfold entCmp
  rw [show eB.user = ⟨#[98]⟩ from rfl, show eA5.user = ⟨#[97]⟩ from rfl, show sLt ⟨#[98]⟩ ⟨#[97]⟩ = false from bLt_asymm sLt_ab, sLt_ab]
  rfl
theorem ex_take : entTake ⟨#[49, 50, 51, 52, 53, 54, 55]⟩ = (Ent.zero, 80) := if_pos (by decide)
theorem ex_btw1 : baBetween ⟨#[97, 98, 99, 100]⟩ ⟨#[97, 98, 120]⟩ = ⟨#[97, 98, 100]⟩ := by rfl
theorem ex_btw2 : baBetween ⟨#[97, 98, 99]⟩ ⟨#[97, 98, 100]⟩ = ⟨#[97, 98, 99]⟩ := by rfl
theorem ex_aft : baAfter ⟨#[97, 98, 99]⟩ = ⟨#[98]⟩ := by rfl
theorem ex_lay : entLay eA1 = ⟨#[97, 1, 1, 0, 0, 0, 0, 0, 0]⟩ := by rfl
set_option maxRecDepth 100000 in
set_option maxHeartbeats 2000000 in
theorem shown8_any (C : IkeyC) (w : World) : Calls Try.prog 10 #[] w fun e w' => e = .returned (.bool true) ∧ Fr Non w w' := by
  go_enter Try.func10, Try.ntmps10
  go_upto_region 2 with (fail)
  have hb1 : Blk (w.alloc (.cells #[Value.string { data := #[97] }, Value.int .u64 5, Value.int .u8 0, Value.string { data := #[] }] 24)) w.heap.size 24 (entCells eA5) := Blk.new w _ _
  have hs1 : (w.alloc (.cells #[Value.string { data := #[97] }, Value.int .u64 5, Value.int .u8 0, Value.string { data := #[] }] 24)).heap.size = w.heap.size + 1 := by simp
  have hf1 := Fr.alloc w (.cells #[Value.string { data := #[97] }, Value.int .u64 5, Value.int .u8 0, Value.string { data := #[] }] 24)
  generalize w.alloc (.cells #[Value.string { data := #[97] }, Value.int .u64 5, Value.int .u8 0, Value.string { data := #[] }] 24) = w0 at hb1 hs1 hf1 ⊢
  have hb2 : Blk (w0.alloc (.cells #[Value.string { data := #[97] }, Value.int .u64 4, Value.int .u8 0, Value.string { data := #[] }] 24)) w0.heap.size 24 (entCells eA4) := Blk.new w0 _ _
  have hf2 := Fr.alloc w0 (.cells #[Value.string { data := #[97] }, Value.int .u64 4, Value.int .u8 0, Value.string { data := #[] }] 24)
  generalize w0.alloc (.cells #[Value.string { data := #[97] }, Value.int .u64 4, Value.int .u8 0, Value.string { data := #[] }] 24) = w1 at hb2 hf2 ⊢
  rw [hs1] at hb2
  have HB1 := Lib.hid (hb1.non hf2)
  have HB2 := Lib.hid hb2
  have F1 := Lib.hid (hf1.non hf2)
  clear hb1 hb2 hs1 hf1 hf2
  go_wp2_with fail
  refine (C.take _ w1 (by decide)).mono ?_
  rw [ex_take]
  rintro e w2 ⟨rfl, hf2⟩
  simp only [entCells, Ent.zero]
  go_upto_region 3 with (fail)
  have hf3 := Fr.alloc w2 (.cells #[Value.string { data := #[] }, Value.int .u64 0, Value.int .u8 0, Value.string { data := #[] }] 24)
  generalize w2.alloc (.cells #[Value.string { data := #[] }, Value.int .u64 0, Value.int .u8 0, Value.string { data := #[] }] 24) = w3 at hf3 ⊢
  have F3 := Lib.hid ((F1.out.non hf2).non hf3)
  have HB3 := Lib.hid ((HB1.out.non hf2).non hf3)
  have HC3 := Lib.hid ((HB2.out.non hf2).non hf3)
  clear hf2 hf3 HB1 HB2 F1
  have c0 := (HB3.out.at 0 _ rfl).1
  have c1 := (HB3.out.at 1 _ rfl).1
  have c2 := (HB3.out.at 2 _ rfl).1
  have c3 := (HB3.out.at 3 _ rfl).1
  have d0 := (HC3.out.at 0 _ rfl).1
  have d1 := (HC3.out.at 1 _ rfl).1
  have d2 := (HC3.out.at 2 _ rfl).1
  have d3 := (HC3.out.at 3 _ rfl).1
  simp only [eA5, eA4] at c0 c1 c2 c3 d0 d1 d2 d3
  go_wp2_with fail
  refine (C.compare eA5 eA4 w3 (by unfold Ent.ok eA5; decide) (by unfold Ent.ok eA4; decide)).mono ?_
  rw [ex_cmp1]
  rintro e w4 ⟨rfl, hf4⟩
  have F4 := Lib.hid (F3.out.non hf4)
  have HB4 := Lib.hid (HB3.out.non hf4)
  clear c0 c1 c2 c3 d0 d1 d2 d3 hf4 F3
  have c0 := (HB4.out.at 0 _ rfl).1
  have c1 := (HB4.out.at 1 _ rfl).1
  have c2 := (HB4.out.at 2 _ rfl).1
  have c3 := (HB4.out.at 3 _ rfl).1
  simp only [eA5] at c0 c1 c2 c3
  go_wp2_with fail
  refine (C.compare eB eA5 w4 (by unfold Ent.ok eB; decide) (by unfold Ent.ok eA5; decide)).mono ?_
  rw [ex_cmp2]
  rintro e w5 ⟨rfl, hf5⟩
  have F5 := Lib.hid (F4.out.non hf5)
  clear c0 c1 c2 c3 hf5 F4
  go_wp2_with fail
  refine (C.between _ _ w5 (by decide) (by decide)).mono ?_
  rw [ex_btw1]
  rintro e w6 ⟨rfl, hf6⟩
  have F6 := Lib.hid (F5.out.non hf6)
  clear hf6 F5
  go_wp2_with fail
  refine (C.between _ _ w6 (by decide) (by decide)).mono ?_
  rw [ex_btw2]
  rintro e w7 ⟨rfl, hf7⟩
  have F7 := Lib.hid (F6.out.non hf7)
  clear hf7 F6
  go_wp2_with fail
  refine (C.after _ w7 (by decide)).mono ?_
  rw [ex_aft]
  rintro e w8 ⟨rfl, hf8⟩
  have F8 := Lib.hid (F7.out.non hf8)
  clear hf8 F7
  go_wp2_with fail
  refine (C.lay eA1 w8 (by unfold Ent.ok eA1; decide)).mono ?_
  rw [ex_lay]
  rintro e w9 ⟨rfl, hf9⟩
  have F9 := Lib.hid (F8.out.non hf9)
  clear hf9 F8
  go_wp2_with fail
  go_ret
  exact ⟨rfl, F9.out⟩
end Go.Proofs.Yteokfgdennjjiaa
