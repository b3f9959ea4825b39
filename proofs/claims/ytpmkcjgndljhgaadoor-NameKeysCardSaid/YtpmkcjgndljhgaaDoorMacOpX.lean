/- package mac: Extract -/
import Derived.Test.YtpmkcjgndljhgaaDoorGOpMac

namespace Go.Proofs.YtpmkcjgndljhgaaDoor
open Go.ChangeShapes Go.WideShapes Go.ChangeAt Go.RowKit

set_option maxRecDepth 100000 in
set_option maxHeartbeats 2000000 in
theorem extract_any (v u : Value) (key b : List UInt8) (w : World) (hv : Row w v (bs key)) (hl : key.length ≤ 140737488351232) (hu : Row w u (bs b)) (hb : b.length ≤ 140737488351232) (hT : ShaT w) :
    Calls Tryd.prog 42 #[v, u] w fun e w' => e = .returned (.agg (bs (macSum key b)).toArray) ∧ Fr Non w w' := by
  obtain ⟨a, c, rfl, -⟩ := id hu
  rw [bs_length] at hu ⊢
  have HV := Lib.hid hv
  have HU := Lib.hid hu
  have HT := Lib.hid hT
  have hid : (Tryd.prog.info? 42).map (·.size) = some 32 := by kernel_rfl
  have HID := Lib.hid hid
  clear hv hu hT hid
  go_enter Tryd.func42, Tryd.ntmps42
  go_upto_region 1 with (fail)
  have hd0 : DB (w.alloc (.cells #[.int .u8 0, .int .u8 0, .int .u8 0, .int .u8 0, .int .u8 0, .int .u8 0, .int .u8 0, .int .u8 0, .int .u8 0, .int .u8 0, .int .u8 0, .int .u8 0, .int .u8 0, .int .u8 0, .int .u8 0, .int .u8 0, .int .u8 0, .int .u8 0, .int .u8 0, .int .u8 0, .int .u8 0, .int .u8 0, .int .u8 0, .int .u8 0, .int .u8 0, .int .u8 0, .int .u8 0, .int .u8 0, .int .u8 0, .int .u8 0, .int .u8 0, .int .u8 0] 42)) w.heap.size zero32 := DB.new w
  have hf1 := Fr.alloc w (.cells #[.int .u8 0, .int .u8 0, .int .u8 0, .int .u8 0, .int .u8 0, .int .u8 0, .int .u8 0, .int .u8 0, .int .u8 0, .int .u8 0, .int .u8 0, .int .u8 0, .int .u8 0, .int .u8 0, .int .u8 0, .int .u8 0, .int .u8 0, .int .u8 0, .int .u8 0, .int .u8 0, .int .u8 0, .int .u8 0, .int .u8 0, .int .u8 0, .int .u8 0, .int .u8 0, .int .u8 0, .int .u8 0, .int .u8 0, .int .u8 0, .int .u8 0, .int .u8 0] 42)
  generalize w.alloc (.cells #[.int .u8 0, .int .u8 0, .int .u8 0, .int .u8 0, .int .u8 0, .int .u8 0, .int .u8 0, .int .u8 0, .int .u8 0, .int .u8 0, .int .u8 0, .int .u8 0, .int .u8 0, .int .u8 0, .int .u8 0, .int .u8 0, .int .u8 0, .int .u8 0, .int .u8 0, .int .u8 0, .int .u8 0, .int .u8 0, .int .u8 0, .int .u8 0, .int .u8 0, .int .u8 0, .int .u8 0, .int .u8 0, .int .u8 0, .int .u8 0, .int .u8 0, .int .u8 0] 42) = w1 at hd0 hf1 ⊢
  obtain ⟨R, hR⟩ : ∃ R, R = w.heap.size := ⟨_, rfl⟩
  rw [← hR] at hd0 ⊢
  have HR := Lib.hid hR
  have HD1 := Lib.hid hd0
  have HF1 := Lib.hid hf1
  clear hd0 hf1 hR
  go_wp2_with fail
  refine (macOp_any _ _ key [b] _ ((HV.out.non HF1.out).non (Fr.alloc _ _)) hl (Rows2.built (n := 1) (us := [.slice a b.length c]) rfl rfl (by decide) rfl (all1 (HU.out.non HF1.out))) (by simp; omega) (by simpa using hb) ((HT.out.non HF1.out).non (Fr.alloc _ _))).mono ?_
  rintro e w2 ⟨rfl, hf2⟩
  rw [show ([b] : List (List UInt8)).flatten = b by simp]
  have hFL := macSum_length key b
  obtain ⟨F, hF⟩ : ∃ F, F = macSum key b := ⟨_, rfl⟩
  rw [← hF] at hFL ⊢
  have HF := Lib.hid (And.intro hF hFL)
  have HF2 : Hid (Fr Non w1 w2) := Lib.hid ((Fr.alloc _ _).non hf2)
  have hb32 : (bs F).length = 32 := by rw [bs_length, hFL]
  have hR2 : DB w2 R zero32 := HD1.out.frame HF2.out (fun h => h)
  have hth : w2.there R 0 (bs F).toArray.size := by rw [List.size_toArray, hb32]; exact hR2.there
  have hinfo : (Tryd.prog.info? 42).map (·.size) = some (bs F).toArray.size := by rw [List.size_toArray, hb32]; exact HID.out
  have hinfo2 : (Tryd.prog.info? 42).map (·.size) = some (bs F).length := by rw [hb32]; exact HID.out
  have hrv := run_loadVar_mid (P := Tryd.prog) (w2.setCells R 0 (bs F).toArray.toList) R 0 42 (bs F) _ (by have := World.rangeAt_setCells_same w2 R 0 (bs F) (by rw [hb32]; exact hR2.there); simpa using this) Tryd.underlying42 rfl hinfo2
  have hfs := Fr.setCells' R (bs F).toArray.toList w2 0
  have HIN := Lib.hid (And.intro hth (And.intro hinfo (And.intro hrv hfs)))
  clear hf2 hF hFL hb32 hR2 hth hinfo hinfo2 hrv hfs
  go_wp2_with ((with_reducible show wpList _ _ _ (({ op := .store _ _ _, .. } : Oper) :: _) _ _); refine wpList_store_mid rfl 42 (.tmp 4) (.tmp 8) rfl R 0 (bs F).toArray rfl rfl HIN.out.1 HIN.out.2.1 (all_oneCell_toArray (bs_one F)) ?_)
  refine bodyPost_ret (v := .agg (bs F).toArray) (by have h := HIN.out.2.2.1; simp [results, Tryd.results42, asAddr, Act.put] at h ⊢; exact h) rfl ⟨by rw [HF.out.1], ?_⟩
  have hx := HR.out
  exact (HF1.out.non HF2.out).new HIN.out.2.2.2 (fun i h => by have h1 : i = R := h; omega)
end Go.Proofs.YtpmkcjgndljhgaaDoor
