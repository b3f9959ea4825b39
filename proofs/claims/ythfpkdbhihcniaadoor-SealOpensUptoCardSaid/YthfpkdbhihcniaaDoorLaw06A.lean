/- layer 6: the document's examples (the head of all statements) -/
import Derived.Test.YthfpkdbhihcniaaDoorGSealOp
import Derived.Test.YthfpkdbhihcniaaDoorGround
import Derived.Lib.SlBytesConst

namespace Go.Proofs.YthfpkdbhihcniaaDoor
open Go.ChangeShapes Go.WideShapes Go.ChangeAt Go.RowKit

/-- the tables lie as they were laid -/
def SealT (w : World) : Prop := ShaT w ∧ StartAt w 1
theorem SealT.non {w w' : World} (h : SealT w) (f : Fr Non w w') : SealT w' := ⟨h.1.non f, h.2.non f⟩
def z32 : List UInt8 := List.replicate 32 0
def z12 : List UInt8 := List.replicate 12 0
def tText : List UInt8 := [116, 101, 120, 116]
theorem built_key0 : Tryd.prog.built 24 [] = some (keyCells z32 z32).toArray := by kernel_rfl
theorem built_nonce0 : Tryd.prog.built 26 [] = some (bs z12).toArray := by kernel_rfl

set_option maxRecDepth 100000 in
set_option maxHeartbeats 2000000 in
theorem shown6_any (w : World) (hT : SealT w) : Calls Tryd.prog 9 #[] w fun e w' => e = .returned (.bool true) ∧ Fr Non w w' := by
  have kc : ∀ (w : World) (g : Nat) (C : Array Value) (n c : Nat), g = w.heap.size → (convert 27 27 (.slice (some ⟨g, 0, none⟩) n c)).run Tryd.prog (w.alloc (.cells C 5)) = .ok (.slice (some ⟨g, 0, none⟩) n c) (w.alloc (.cells C 5 (C.size, C.size + 1))) := fun w g C n c h => by
    subst h
    exact Lib.run_convert_bytes_const (P := Tryd.prog) w 27 5 C n c Tryd.underlying27 Tryd.underlying5
  obtain ⟨i0, hi⟩ := info_parts Tryd.info5
  have HI := Lib.hid hi
  have HT := Lib.hid hT
  clear hT hi
  go_enter Tryd.func9, Tryd.ntmps9
  go_upto_region 1 with (fail)
  refine wp_region_lit ?_
  refine wpList_build_as rfl 24 [] rfl _ _ built_key0 rfl ?_
  refine wpList_build_as rfl 26 [] rfl _ _ built_nonce0 rfl ?_
  go_wp2_with fail
  have h1 : Row (w.alloc (.cells (bs tText).toArray 5 (4, 5))) (.slice (some ⟨w.heap.size, 0, none⟩) 4 4) (bs tText) := Row.builtM w (bs tText) 5 4 (4, 5) rfl rfl (by decide)
  have f1 : Fr Non w (w.alloc (.cells (bs tText).toArray 5 (4, 5))) := Fr.alloc _ _
  change Calls _ _ _ (w.alloc (.cells (bs tText).toArray 5 (4, 5))) _
  generalize w.alloc (.cells (bs tText).toArray 5 (4, 5)) = w1 at h1 f1 ⊢
  have HF1 := Lib.hid f1
  refine (sealS_any z32 z32 z12 _ _ [] tText w1 rfl rfl rfl (Row.nil _) h1 (by simp) (by decide) (HT.out.1.non f1) (HT.out.2.non f1)).mono ?_
  rintro e w2 ⟨v2, rfl, ho2, hf2⟩
  have hsl := sealSeal_length z32 z32 z12 [] tText
  have HG : Hid (sealOut z32 z32 z12 [] (sealSeal z32 z32 z12 [] tText) = tText ∧ sealErr z32 z12 [] (sealSeal z32 z32 z12 [] tText) = 0) := Lib.hid (by
    obtain ⟨g1, g2⟩ := out_good (enc := z32) (seal_good z32 z32 z12 [] tText)
    exact ⟨g1.trans (seal_back _ _ _ _ _), g2⟩)
  have h20 : tText.length + 16 = 20 := rfl
  rw [h20] at hsl
  generalize sealSeal z32 z32 z12 [] tText = b at ho2 hsl HG
  have hlen2 := run_lenRow (P := Tryd.prog) ho2.row 27 5 Tryd.underlying27
  rw [bs_length, hsl] at hlen2
  have HO2 := Lib.hid ho2
  have HSL := Lib.hid hsl
  have HF2 := Lib.hid (f1.non hf2)
  clear h1 f1 ho2 hf2 hsl h20
  go_upto_region 2 with (fail)
  refine wp_region_lit ?_
  refine wpList_build_as rfl 24 [] rfl _ _ built_key0 rfl ?_
  refine wpList_build_as rfl 26 [] rfl _ _ built_nonce0 rfl ?_
  go_wp2_with fail
  refine (openS_any z32 z32 z12 _ v2 [] b w2 rfl rfl rfl (Row.nil _) HO2.out.row (by simp) (by rw [HSL.out]; decide) (HT.out.1.non HF2.out) (HT.out.2.non HF2.out)).mono ?_
  rintro e w3 ⟨v3, rfl, ho3, hf3⟩
  rw [HG.out.1] at ho3
  rw [HG.out.2]
  have HO3 := Lib.hid ho3
  have HF3 := Lib.hid (HF2.out.non hf3)
  clear ho3 hf3
  go_upto_region 3 with (fail)
  refine wp_region_lit ?_
  refine wpList_build_as rfl 24 [] rfl _ _ built_key0 rfl ?_
  refine wpList_build_as rfl 26 [] rfl _ _ built_nonce0 rfl ?_
  refine wpList_make_row _ rfl _ _ 27 rfl 5 i0 (.int .u8 0) Tryd.underlying27 HI.out.1 HI.out.2.1 HI.out.2.2.1 rfl .i64 .i64 15 rfl rfl (by rw [HI.out.2.2.2]; omega) (by omega) ?_
  rw [made_bytes]
  have h5 := Blk.new w3 5 (bs (List.replicate 15 0))
  have f5 := Fr.alloc w3 (.cells (bs (List.replicate 15 0)).toArray 5)
  have hr5 : Row (w3.alloc (.cells (bs (List.replicate 15 0)).toArray 5)) (.slice (some ⟨w3.heap.size, 0, none⟩) 15 15) (bs (List.replicate 15 0)) := h5.part 0 15 _ (by simp) (by decide) (fun j v hj => by rw [Nat.zero_add]; exact hj)
  generalize w3.alloc (.cells (bs (List.replicate 15 0)).toArray 5) = w5 at f5 hr5 ⊢
  have HB5 := Lib.hid hr5
  have HF5 := Lib.hid (HF3.out.non f5)
  have HBAD : Hid (sealErr z32 z12 [] (List.replicate 15 0) = 60) := Lib.hid (out_bad (enc := z32) (bad_short (by simp))).2
  have HR3 := Lib.hid (HO3.out.row.non f5)
  clear h5 f5 hr5
  go_wp2_with fail
  refine (openS_any z32 z32 z12 _ _ [] (List.replicate 15 0) w5 rfl rfl rfl (Row.nil _) HB5.out (by simp) (by simp) (HT.out.1.non HF5.out) (HT.out.2.non HF5.out)).mono ?_
  rintro e w6 ⟨v6, rfl, -, hf6⟩
  rw [HBAD.out]
  have HF6 := Lib.hid (HF5.out.non hf6)
  have hstr := run_str (P := Tryd.prog) w6 27 9 5 _ _ (HR3.out.non hf6) Tryd.underlying27 Tryd.underlying5 Tryd.underlying9
  unfold tText at hstr
  clear hf6 HR3
  go_wp2_with fail
  go_ret
  exact ⟨rfl, HF6.out⟩
end Go.Proofs.YthfpkdbhihcniaaDoor
