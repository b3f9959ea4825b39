/- package name: the key of a file -/
import Derived.Test.YtpmkcjgndljhgaaDoorNameC
import Derived.Test.YtpmkcjgndljhgaaDoorMacOpF
import Derived.Test.YtpmkcjgndljhgaaDoorWhole
import Derived.Test.YtpmkcjgndljhgaaDoorHeld
import Derived.Deep.RegionHeld3
import Derived.Lib.SlBytesConst

namespace Go.Proofs.YtpmkcjgndljhgaaDoor
open Go.ChangeShapes Go.WideShapes Go.ChangeAt Go.RowKit

set_option maxRecDepth 100000 in
set_option maxHeartbeats 4000000 in
theorem keyOf_any (root : List UInt8) (h : Hd) (w : World) (hr : root.length = 32) (hk : h.ok) {T : World → Prop} (C : NameC T) (hT : ShaT w) :
    Calls Tryd.prog 21 #[.agg (bs root).toArray, .agg (hdCells h).toArray] w fun e w' => e = .returned (.agg (bs (macDerive root (hdLay h))).toArray) ∧ Fr Non w w' := by
  have HR := Lib.hid hr
  have HK := Lib.hid hk
  have HT := Lib.hid hT
  have HLL := Lib.hid (hdLay_length h)
  have hzk : ∀ w, (zeroValue 44).run Tryd.prog w = .ok (.agg (bs zero64).toArray) w := fun _ => by kernel_rfl
  have HZK := Lib.hid hzk
  have hif : (Tryd.prog.info? 42).map (·.size) = some (bs root).length := by rw [bs_length, hr]; kernel_rfl
  have hik : (Tryd.prog.info? 44).map (·.size) = some 64 := by kernel_rfl
  have HIK := Lib.hid hik
  have hih : (Tryd.prog.info? 32).map (·.size) = some 5 := by kernel_rfl
  have huh := Tryd.underlying32
  have hud := Tryd.underlying42
  clear hr hk hT hzk hik
  go_enter Tryd.func21, Tryd.ntmps21
  go_wp2_with (first | (refine wpList_allocZ (o := ⟨some 4, _, _, _, _, none⟩) rfl 44 rfl _ HZK.out ?_))
  intro w3 hb3 hf3 _
  have hb1 := (((Blk.new w 42 (bs root)).non (Fr.alloc _ (.cells (hdCells h).toArray 32))).non hf3)
  have hb2 := (Blk.new (w.alloc (.cells (bs root).toArray 42)) 32 (hdCells h)).non hf3
  have hf := (((Fr.alloc w (.cells (bs root).toArray 42)).non (Fr.alloc _ (.cells (hdCells h).toArray 32))).non hf3)
  have hs1 : (w.alloc (.cells (bs root).toArray 42)).heap.size = w.heap.size + 1 := by simp
  rw [hs1] at hb2
  obtain ⟨P, hP⟩ : ∃ P, P = w.heap.size := ⟨_, rfl⟩
  rw [← hP] at hb1 hb2 hb3 ⊢
  have HPE := Lib.hid hP
  go_upto_region 1 with (fail)
  have HPB := Lib.hid (hb1.non (Fr.drew _))
  have HQB := Lib.hid (hb2.non (Fr.drew _))
  have HRB := Lib.hid (hb3.non (Fr.drew _))
  have F0 := Lib.hid (hf.non (Fr.drew w3))
  have hlt := hb3.lt
  have hlt4 : P + 1 + 1 < w3.drew.heap.size := (hb3.non (Fr.drew _)).lt
  have hS0 : (fun w' : World => Blk w' P 42 (bs root) ∧ Blk w' (P + 1) 32 (hdCells h)) w3.drew := ⟨HPB.out, HQB.out⟩
  clear hb1 hb2 hb3 hf hf3 hs1 hP
  refine wp_region_held_drew (S := fun w' : World => Blk w' P 42 (bs root) ∧ Blk w' (P + 1) 32 (hdCells h)) (by kernel_rfl) hS0 (fun hHeld => ?_)
  generalize w3.drew = w4 at HPB HQB HRB F0 hlt4 hS0 hHeld ⊢
  refine wpAnyH_takeL (i := 0) 5 (v := .agg (bs root).toArray) rfl rfl (by kernel_rfl) (by kernel_rfl) (by kernel_rfl) (fun _ _ _ h => h) (by assumption) (yieldsIf_load_mid (by rfl) _ _ rfl P (0) rfl (bs root) _ (fun w h => h.1.range 0 _ (fun j v hj => by simpa using hj)) hud rfl hif) ?_
  simp only [List.set_cons_zero, List.set_cons_succ]
  refine wpAnyH_takeL (i := 1) 6 (v := .agg (hdCells h).toArray) rfl rfl (by kernel_rfl) (by kernel_rfl) (by kernel_rfl) (fun _ _ _ h => h) (by assumption) (yieldsIf_load_mid (by rfl) _ _ rfl (P + 1) (0) rfl (hdCells h) _ (fun w h => h.2.range 0 _ (fun j v hj => by simpa using hj)) huh rfl hih) ?_
  simp only [List.set_cons_zero, List.set_cons_succ]
  refine wpAnyH_ready (rs := [2]) (by kernel_rfl) (by simp) ?_
  refine AllReadyH.cons (o := ⟨some 7, _, _, _, _, _⟩) rfl (fun K hK => ?_) (AllReadyH.nil)
  go_simp
  go_wp2_with (go_at_call 19; refine (C.lay h _ HK.out).mono ?_; rintro e r1 ⟨v9, rfl, ho9, hf1⟩)
  obtain ⟨L, hL⟩ : ∃ L, L = hdLay h := ⟨_, rfl⟩
  rw [← hL] at ho9
  have HL := Lib.hid hL
  have HR9 := Lib.hid ho9.row
  clear ho9 hL
  have F1 : Hid (Fr Non w4 r1) := Lib.hid hf1
  clear hf1
  refine hK.out _ _ (⟨HPB.out.non F1.out, HQB.out.non F1.out⟩) (fun hHeld => ?_)
  clear hK K
  refine wpAnyH_ready (rs := [3]) (by kernel_rfl) (by simp) ?_
  refine AllReadyH.cons (o := ⟨some 8, _, _, _, _, _⟩) rfl (fun K hK => ?_) (AllReadyH.nil)
  go_simp
  go_wp2_with (go_at_call 34; refine (deriveOp_any _ root L _ HR.out (HR9.out.non (Fr.refl _ _)) (by rw [HL.out, HLL.out]; omega) (HT.out.non (F0.out.non F1.out))).mono ?_; rintro e r2 ⟨rfl, hf2⟩)
  have F2 : Hid (Fr Non r1 r2) := Lib.hid hf2
  clear hf2
  have HDL := Lib.hid (macDerive_length root L)
  have HDE : Hid (macDerive root L = macDerive root (hdLay h)) := Lib.hid (by rw [HL.out])
  generalize macDerive root L = D at HDL HDE ⊢
  refine hK.out _ _ (⟨HPB.out.non (F1.out.non F2.out), HQB.out.non (F1.out.non F2.out)⟩) (fun hHeld => ?_)
  clear hK K
  refine wpAnyH_ready (rs := [4]) (by kernel_rfl) (by simp) ?_
  refine AllReadyH.cons (o := ⟨none, _, _, _, _, _⟩) rfl (fun K hK => ?_) (AllReadyH.nil)
  rw [if_pos (by rfl)]
  have hbx := HRB.out.non (F1.out.non F2.out)
  have hdl : (bs D).toArray.size = 64 := by rw [List.size_toArray, bs_length, HDL.out]
  refine wp_store_mid 44 (.tmp 4) (.tmp 8) rfl (P + 1 + 1) 0 (bs D).toArray rfl rfl (by rw [hdl]; exact hbx.there 0 64 (by simp [bs_length, zero64])) (by rw [hdl]; exact HIK.out) (all_oneCell_toArray (bs_one D)) ?_
  have hst := Blk.setCells (bs D) _ _ 0 hbx (by simp [bs_length, HDL.out, zero64])
  have hfs := Fr.setCells' (P + 1 + 1) (bs D) r2 0
  rw [splice_all _ _ (by simp [bs_length, HDL.out, zero64])] at hst
  have hfw := F0.out.non (F1.out.non F2.out)
  have hkp := HPB.out.non (F1.out.non F2.out)
  have hkq := HQB.out.non (F1.out.non F2.out)
  obtain ⟨z5, hz5⟩ : ∃ z5, z5 = r2.setCells (P + 1 + 1) 0 (bs D).toArray.toList := ⟨_, rfl⟩
  rw [show (bs D) = (bs D).toArray.toList from rfl, ← hz5] at hst hfs
  rw [← hz5]
  have HST := Lib.hid hst
  have HFW := Lib.hid (hfw.new hfs (fun i h => by have h1 : i = P + 1 + 1 := h; have := HPE.out; omega))
  have hkp5 := hkp.frame hfs (fun h => by have h1 : P = P + 1 + 1 := h; omega)
  have hkq5 := hkq.frame hfs (fun h => by have h1 : P + 1 = P + 1 + 1 := h; omega)
  clear hst hfs hfw hkp hkq hbx hdl hz5
  simp only [Act.put]
  refine hK.out _ _ (⟨hkp5, hkq5⟩) (fun hHeld => ?_)
  clear hK K
  refine wpAnyH_done (by kernel_rfl) ?_ _
  clear hHeld hS0
  have HRV := Lib.hid (HST.out.loadVar (P := Tryd.prog) 44 _ Tryd.underlying44 rfl (by rw [List.toList_toArray, bs_length, HDL.out]; exact HIK.out))
  obtain ⟨V, hV⟩ : ∃ V, V = bs D := ⟨_, rfl⟩
  rw [show (bs D).toArray.toList = bs D from rfl, ← hV] at HRV
  have HV := Lib.hid hV
  clear hV HST
  repeat (first | go_skip | go_step)
  refine bodyPost_ret (v := .agg V.toArray) (by have h := HRV.out; simp [results, Tryd.results21, asAddr, h]) rfl ⟨by rw [HV.out, HDE.out], HFW.out⟩
end Go.Proofs.YtpmkcjgndljhgaaDoor
