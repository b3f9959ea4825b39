/- package name, the document's: a head's bytes -/
import Derived.Test.YtpmkcjgndljhgaaDoorGroundA
import Derived.Test.YtpmkcjgndljhgaaDoorRefFix
import Derived.Test.YtpmkcjgndljhgaaDoorBlk
import Derived.Deep.RegionHeld3
import Derived.Deep.CutBlock
import Derived.Deep.DeepCutAuto

namespace Go.Proofs.YtpmkcjgndljhgaaDoor
open Go.ChangeShapes Go.WideShapes Go.ChangeAt Go.RowKit

def hdCells (h : Hd) : List Value := [.int .u8 h.kind, .int .u8 h.level, .int .u64 h.gen, .int .u64 h.epoch, .int .u64 h.number]

theorem hdCells_at {w : World} {B : Nat} {h : Hd} {t : TypeId} (b : Blk w B t (hdCells h)) : w.cell? ⟨B, 0, none⟩ = some (.int .u8 h.kind) ∧ w.cell? ⟨B, 1, none⟩ = some (.int .u8 h.level) ∧ w.cell? ⟨B, 2, none⟩ = some (.int .u64 h.gen) ∧ w.cell? ⟨B, 3, none⟩ = some (.int .u64 h.epoch) ∧ w.cell? ⟨B, 4, none⟩ = some (.int .u64 h.number) :=
  ⟨(b.at 0 _ rfl).1, (b.at 1 _ rfl).1, (b.at 2 _ rfl).1, (b.at 3 _ rfl).1, (b.at 4 _ rfl).1⟩

/-- a slice literal is the call's own -/
theorem Own.lit (w : World) (base e : Nat) (xs : List Value) (n : Nat) (hn : xs.length = n) (hm : n ≤ maxLen) (hb : base ≤ w.heap.size) {g : Nat} (hg : g = w.heap.size) : Own (w.alloc (.cells xs.toArray e)) base e (.slice (some ⟨g, 0, none⟩) n n) xs := by
  subst hn hg
  exact ⟨by simp, .inr ⟨w.heap.size, xs.length, xs.toArray, rfl, hb, heap_alloc_new w _, Nat.le_refl _, hm, by simp, by simp⟩⟩

set_option maxRecDepth 100000 in
set_option maxHeartbeats 2000000 in
theorem refLay_any (h : Hd) (w : World) (hk : h.ok) : Calls Tryd.prog 20 #[.agg (hdCells h).toArray] w fun e w' => ∃ v, e = .returned v ∧ Own w' w.heap.size 5 v (bs (hdLay h)) ∧ Fr Non w w' := by
  obtain ⟨i0, hi⟩ := info_parts Tryd.info5
  have HI := Lib.hid hi
  have HK := Lib.hid hk
  have e2 : bs (tant ++ [UInt8.ofNat h.kind, UInt8.ofNat h.level]) = [.int .u8 116, .int .u8 97, .int .u8 110, .int .u8 116, .int .u8 h.kind, .int .u8 h.level] := by
    show [_, _, _, _, Value.int .u8 _, Value.int .u8 _] = _
    rw [ofNat_toNat _ hk.1, ofNat_toNat _ hk.2.1]
    rfl
  have HE2 := Lib.hid e2
  clear hi hk e2
  go_enter Tryd.func20, Tryd.ntmps20
  go_upto_region 1 with (fail)
  have hb1 := Blk.new w 32 (hdCells h)
  have hf1 := Fr.alloc w (.cells (hdCells h).toArray 32)
  have hs1 : (w.alloc (.cells (hdCells h).toArray 32)).heap.size = w.heap.size + 1 := by simp
  generalize w.alloc (.cells (hdCells h).toArray 32) = w1 at hb1 hf1 hs1 ⊢
  obtain ⟨c0, c1, c2, c3, c4⟩ := hdCells_at hb1
  have hb2 : Own (w1.alloc (.cells #[.int .u8 116, .int .u8 97, .int .u8 110, .int .u8 116, .int .u8 h.kind, .int .u8 h.level] 5)) (w.heap.size + 1) 5 (.slice (some ⟨w.heap.size + 1, 0, none⟩) 6 6) (bs (tant ++ [UInt8.ofNat h.kind, UInt8.ofNat h.level])) := by
    rw [HE2.out]
    exact Own.lit w1 (w.heap.size + 1) 5 [_, _, _, _, _, _] 6 rfl (by decide) (by omega) hs1.symm
  have hf2 := Fr.alloc w1 (.cells #[.int .u8 116, .int .u8 97, .int .u8 110, .int .u8 116, .int .u8 h.kind, .int .u8 h.level] 5)
  have HH1 := Lib.hid hb1
  have HF1 := Lib.hid hf1
  have HB1 := Lib.hid hb2
  clear hb1 hf1 hb2
  go_wp2_with fail
  generalize w1.alloc (.cells #[.int .u8 116, .int .u8 97, .int .u8 110, .int .u8 116, .int .u8 h.kind, .int .u8 h.level] 5) = w2 at HB1 hf2 ⊢
  have HB2 := HB1
  have HH2 := Lib.hid (HH1.out.non hf2)
  have HS2 := Lib.hid (show w.heap.size + 1 ≤ w2.heap.size from hs1 ▸ hf2.size)
  have HF2 := Lib.hid (HF1.out.non hf2)
  clear hf2 c0 c1 c2 c3 c4
  refine (refFix_any h.gen 8 w2 HK.out.2.2.1).mono ?_
  rintro e w2a ⟨v1, rfl, ho1, hf1⟩
  rw [show clamp8 8 = 8 from rfl] at ho1
  have HO1 := Lib.hid ho1
  have HX1 := Lib.hid hf1
  clear ho1 hf1
  go_wp2_with (at_builtin; refine wpList_appRow _ rfl (.tmp 9) (.tmp 12) 33 rfl (w.heap.size + 1) 5 i0 (.int .u8 0) 1 Tryd.underlying33 HI.out rfl _ (bs (tant ++ [UInt8.ofNat h.kind, UInt8.ofNat h.level])) rfl (HB2.out.non HX1.out) _ (bs (fixF 8 h.gen)) rfl HO1.out.row (bs_one _) ⟨by simp only [bs_length, List.length_append, fixF_length, tant, List.length_cons, List.length_nil]; omega, by omega⟩ (Nat.le_trans HS2.out HX1.out.size) ?_)
  intro u1 w3 hb3 hg3 _
  rw [← bs_append] at hb3
  have hf3 := (HF2.out.non HX1.out).new hg3 (fun i hi => by have := (Own.lt (HB2.out.non HX1.out) i hi).1; omega)
  have hh3 := (HH2.out.non HX1.out).frame hg3 (fun hi => by have := (Own.lt (HB2.out.non HX1.out) _ hi).1; omega)
  have HB3 := Lib.hid hb3
  have HF3 := Lib.hid hf3
  have HH3 := Lib.hid hh3
  have HS3 := Lib.hid (Nat.le_trans (Nat.le_trans HS2.out HX1.out.size) hg3.size)
  obtain ⟨-, -, -, d2, d2'⟩ := hdCells_at hh3
  clear hb3 hf3 hg3 hh3
  go_wp2_with fail
  refine (refFix_any h.epoch 8 w3 HK.out.2.2.2.1).mono ?_
  rintro e w3a ⟨v2, rfl, ho2, hf2⟩
  rw [show clamp8 8 = 8 from rfl] at ho2
  have HO2 := Lib.hid ho2
  have HX2 := Lib.hid hf2
  clear ho2 hf2
  go_wp2_with (at_builtin; refine wpList_appRow _ rfl (.tmp 14) (.tmp 17) 33 rfl (w.heap.size + 1) 5 i0 (.int .u8 0) 1 Tryd.underlying33 HI.out rfl _ (bs (tant ++ [UInt8.ofNat h.kind, UInt8.ofNat h.level] ++ fixF 8 h.gen)) rfl (HB3.out.non HX2.out) _ (bs (fixF 8 h.epoch)) rfl HO2.out.row (bs_one _) ⟨by simp only [bs_length, List.length_append, fixF_length, tant, List.length_cons, List.length_nil]; omega, by omega⟩ (Nat.le_trans HS3.out HX2.out.size) ?_)
  intro u2 w4 hb4 hg4 _
  rw [← bs_append] at hb4
  have hf4 := (HF3.out.non HX2.out).new hg4 (fun i hi => by have := (Own.lt (HB3.out.non HX2.out) i hi).1; omega)
  have hh4 := (HH3.out.non HX2.out).frame hg4 (fun hi => by have := (Own.lt (HB3.out.non HX2.out) _ hi).1; omega)
  have HB4 := Lib.hid hb4
  have HF4 := Lib.hid hf4
  have HH4 := Lib.hid hh4
  have HS4 := Lib.hid (Nat.le_trans (Nat.le_trans HS3.out HX2.out.size) hg4.size)
  obtain ⟨-, -, -, d3, d3'⟩ := hdCells_at hh4
  clear hb4 hf4 hg4 hh4
  go_wp2_with fail
  refine (refFix_any h.number 8 w4 HK.out.2.2.2.2).mono ?_
  rintro e w4a ⟨v3, rfl, ho3, hf3⟩
  rw [show clamp8 8 = 8 from rfl] at ho3
  have HO3 := Lib.hid ho3
  have HX3 := Lib.hid hf3
  clear ho3 hf3
  go_wp2_with (at_builtin; refine wpList_appRow _ rfl (.tmp 19) (.tmp 22) 33 rfl (w.heap.size + 1) 5 i0 (.int .u8 0) 1 Tryd.underlying33 HI.out rfl _ (bs (tant ++ [UInt8.ofNat h.kind, UInt8.ofNat h.level] ++ fixF 8 h.gen ++ fixF 8 h.epoch)) rfl (HB4.out.non HX3.out) _ (bs (fixF 8 h.number)) rfl HO3.out.row (bs_one _) ⟨by simp only [bs_length, List.length_append, fixF_length, tant, List.length_cons, List.length_nil]; omega, by omega⟩ (Nat.le_trans HS4.out HX3.out.size) ?_)
  intro u3 w5 hb5 hg5 _
  rw [← bs_append] at hb5
  have hf5 := (HF4.out.non HX3.out).new hg5 (fun i hi => by have := (Own.lt (HB4.out.non HX3.out) i hi).1; omega)
  have hh5 := (HH4.out.non HX3.out).frame hg5 (fun hi => by have := (Own.lt (HB4.out.non HX3.out) _ hi).1; omega)
  have HB5 := Lib.hid hb5
  have HF5 := Lib.hid hf5
  have HH5 := Lib.hid hh5
  have HS5 := Lib.hid (Nat.le_trans (Nat.le_trans HS4.out HX3.out.size) hg5.size)
  obtain ⟨-, -, -, d4, d4'⟩ := hdCells_at hh5
  clear hb5 hf5 hg5 hh5
  go_wp2_with fail
  go_ret
  exact ⟨_, rfl, HB5.out.mono (by omega), HF5.out⟩
end Go.Proofs.YtpmkcjgndljhgaaDoor
