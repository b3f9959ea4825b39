/- layer 6: bytes that open -/
import Derived.Test.YthfpkdbhihcniaaDoorLaw06B

namespace Go.Proofs.YthfpkdbhihcniaaDoor
open Go.ChangeShapes Go.WideShapes Go.ChangeAt Go.RowKit

set_option maxRecDepth 100000 in
set_option maxHeartbeats 4000000 in
/-- P6.4 -/
theorem once6_any (W : World) (enc mac nonce ad : List UInt8) (va : Value) (v : Value) (b : List UInt8) (hL : laidMetH Tryd.prog Rows.sealOnceRow.laid W) (he : enc.length = 32) (hmc : mac.length = 32) (hn : nonce.length = 12) (hva : Row W va (bs ad)) (hal : ad.length ≤ 140737488351232) (hv : Row W v (bs b)) (hbl : b.length ≤ 140737488351232) :
    Calls Tryd.prog 6 #[.agg (withCells enc mac nonce va).toArray, v] W fun e W' => e = .returned (.bool true) ∧ Fr Non W W' := by
  have HT := Lib.hid (seal_laid3 hL)
  have HV := Lib.hid hv
  clear hL hv
  have HL := Lib.hid (And.intro he (And.intro hmc hn))
  have HVA := Lib.hid hva
  have hik : (Tryd.prog.info? 24).map (·.size) = some (keyCells enc mac).length := by unfold keyCells; rw [List.length_append, bs_length, bs_length, he, hmc]; kernel_rfl
  have hin : (Tryd.prog.info? 26).map (·.size) = some (bs nonce).length := by rw [bs_length, hn]; kernel_rfl
  have HWC := Lib.hid (with_at (va := va) he hmc hn)
  clear he hmc hn hva
  have huk := Tryd.underlying24
  have hun := Tryd.underlying26
  go_enter Tryd.func6, Tryd.ntmps6
  go_upto_region 1 with (fail)
  have hb1 := Blk.new W 29 (withCells enc mac nonce va)
  have hf1 := Fr.alloc W (.cells (withCells enc mac nonce va).toArray 29)
  have hs1 : (W.alloc (.cells (withCells enc mac nonce va).toArray 29)).heap.size = W.heap.size + 1 := by simp
  obtain ⟨P, hP⟩ : ∃ P, P = W.heap.size := ⟨_, rfl⟩
  rw [← hP] at hb1 hs1 ⊢
  generalize W.alloc (.cells (withCells enc mac nonce va).toArray 29) = w1 at hb1 hf1 hs1 ⊢
  have HP := Lib.hid (HWC.out _ _ _ hb1)
  have HF1 := Lib.hid hf1
  have HPE := Lib.hid hP
  clear hb1 hs1 hf1 hP
  go_wp2_with fail
  refine (shown6_any _ (HT.out.non HF1.out)).mono ?_
  rintro e w2 ⟨rfl, hf2⟩
  have HF2 := Lib.hid (HF1.out.non hf2)
  have HP2 := Lib.hid (HP.out.non hf2)
  have hcn := HP2.out.2.2
  clear hf2
  go_upto_region 2 with (fail)
  go_wp2_with ((with_reducible show wpList _ _ _ (({ op := .load _ _, .. } : Oper) :: _) _ _); first | (refine wpList_load_mid rfl 24 _ rfl P 0 rfl (keyCells enc mac) _ HP2.out.1 huk rfl hik ?_) | (refine wpList_load_mid rfl 26 _ rfl P 64 rfl (bs nonce) _ HP2.out.2.1 hun rfl hin ?_))
  refine (openS_any enc mac nonce va v ad b w2 HL.out.1 HL.out.2.1 HL.out.2.2 (HVA.out.non HF2.out) (HV.out.non HF2.out) hal (by omega) (HT.out.1.non HF2.out) (HT.out.2.non HF2.out)).mono ?_
  rintro e w3 ⟨v3, rfl, ho3, hf3⟩
  have HF3 := Lib.hid (HF2.out.non hf3)
  have HP3 := Lib.hid (HP2.out.non hf3)
  clear hf3 hcn
  by_cases hg : sealGood mac nonce ad b = true
  case neg =>
    have hbad := out_bad (enc := enc) (show sealGood mac nonce ad b = false by simpa using hg)
    rw [hbad.1] at ho3
    rw [hbad.2]
    have hlen3 := run_lenRow (P := Tryd.prog) ho3.row 27 5 Tryd.underlying27
    rw [show (bs []).length = 0 from rfl] at hlen3
    clear ho3 hbad
    go_wp2_with fail
    go_ret
    exact ⟨rfl, HF3.out⟩
  case pos =>
    have hok := out_good (enc := enc) hg
    have honce := seal_once enc mac nonce ad b hg
    have hxl := sealText_length enc nonce b
    rw [hok.1] at ho3
    rw [hok.2]
    generalize sealText enc nonce b = x at ho3 honce hxl
    have HO3 := Lib.hid ho3
    have HON := Lib.hid (And.intro honce hxl)
    have HV3 := Lib.hid (HV.out.non HF3.out)
    clear ho3 hok honce hxl
    have hS0 : (fun w' : World => w'.rangeAt P 0 (keyCells enc mac) ∧ w'.rangeAt P 64 (bs nonce) ∧ w'.cell? ⟨P, 76, none⟩ = some va ∧ Row w' v (bs b)) w3.drew := ⟨(HP3.out.non (Fr.drew _)).1, (HP3.out.non (Fr.drew _)).2.1, (HP3.out.non (Fr.drew _)).2.2, HV3.out.non (Fr.drew _)⟩
    go_upto_region 5 with (fail)
    refine wp_region_held_drew (S := fun w' => w'.rangeAt P 0 (keyCells enc mac) ∧ w'.rangeAt P 64 (bs nonce) ∧ w'.cell? ⟨P, 76, none⟩ = some va ∧ Row w' v (bs b)) (by kernel_rfl) hS0 (fun hHeld => ?_)
    refine wpAnyH_takeL (i := 0) 32 (v := ?_) rfl rfl (by kernel_rfl) (by kernel_rfl) (by kernel_rfl) (fun _ _ _ h => h) (by assumption) (Or.inl ⟨by rfl, ?_⟩) ?_
    rotate_left
    · intro w hSw; go_simp; (try with_reducible rfl)
    simp only [List.set_cons_zero, List.set_cons_succ]
    refine wpAnyH_takeL (i := 1) 33 (v := ?_) rfl rfl (by kernel_rfl) (by kernel_rfl) (by kernel_rfl) (fun _ _ _ h => h) (by assumption) (Or.inl ⟨by rfl, ?_⟩) ?_
    rotate_left
    · intro w hSw; go_simp; (try with_reducible rfl)
    simp only [List.set_cons_zero, List.set_cons_succ]
    refine wpAnyH_takeL (i := 2) 34 (v := ?_) rfl rfl (by kernel_rfl) (by kernel_rfl) (by kernel_rfl) (fun _ _ _ h => h) (by assumption) (Or.inl ⟨by rfl, ?_⟩) ?_
    rotate_left
    · intro w hSw; go_simp; (try with_reducible rfl)
    simp only [List.set_cons_zero, List.set_cons_succ]
    refine wpAnyH_takeL (i := 3) 35 (v := .agg (keyCells enc mac).toArray) rfl rfl (by kernel_rfl) (by kernel_rfl) (by kernel_rfl) (fun _ _ _ h => h) (by assumption) (yieldsIf_load_mid (by rfl) _ _ rfl P (0) rfl (keyCells enc mac) _ (fun w h => h.1) huk rfl hik) ?_
    simp only [List.set_cons_zero, List.set_cons_succ]
    refine wpAnyH_takeL (i := 4) 36 (v := ?_) rfl rfl (by kernel_rfl) (by kernel_rfl) (by kernel_rfl) (fun _ _ _ h => h) (by assumption) (Or.inl ⟨by rfl, ?_⟩) ?_
    rotate_left
    · intro w hSw; go_simp; (try with_reducible rfl)
    simp only [List.set_cons_zero, List.set_cons_succ]
    refine wpAnyH_takeL (i := 5) 37 (v := .agg (bs nonce).toArray) rfl rfl (by kernel_rfl) (by kernel_rfl) (by kernel_rfl) (fun _ _ _ h => h) (by assumption) (yieldsIf_load_mid (by rfl) _ _ rfl P (64) rfl (bs nonce) _ (fun w h => h.2.1) hun rfl hin) ?_
    simp only [List.set_cons_zero, List.set_cons_succ]
    refine wpAnyH_takeL (i := 6) 38 (v := ?_) rfl rfl (by kernel_rfl) (by kernel_rfl) (by kernel_rfl) (fun _ _ _ h => h) (by assumption) (Or.inl ⟨by rfl, ?_⟩) ?_
    rotate_left
    · intro w hSw; go_simp; (try with_reducible rfl)
    simp only [List.set_cons_zero, List.set_cons_succ]
    refine wpAnyH_takeL (i := 7) 39 (v := ?_) rfl rfl (by kernel_rfl) (by kernel_rfl) (by kernel_rfl) (fun _ _ _ h => h) (by assumption) (Or.inl ⟨by rfl, ?_⟩) ?_
    rotate_left
    · intro w hSw; go_simp; (try with_reducible rfl)
    simp only [List.set_cons_zero, List.set_cons_succ]
    refine wpAnyH_takeL (i := 8) 40 (v := ?_) rfl rfl (by kernel_rfl) (by kernel_rfl) (by kernel_rfl) (fun _ _ _ h => h) (by assumption) (Or.inl ⟨by rfl, ?_⟩) ?_
    rotate_left
    · intro w hSw; go_simp; (try with_reducible rfl)
    simp only [List.set_cons_zero, List.set_cons_succ]
    refine wpAnyH_takeL (i := 11) 43 (v := ?_) rfl rfl (by kernel_rfl) (by kernel_rfl) (by kernel_rfl) (fun _ _ _ h => h) (by assumption) (Or.inl ⟨by rfl, ?_⟩) ?_
    rotate_left
    · intro w hSw; go_simp; (try with_reducible rfl)
    simp only [List.set_cons_zero, List.set_cons_succ]
    refine wpAnyH_takeL (i := 12) 44 (v := .string ⟨b.toArray⟩) rfl rfl (by kernel_rfl) (by kernel_rfl) (by kernel_rfl) (fun _ _ _ h => h) (by assumption) (Or.inl ⟨by rfl, ?_⟩) ?_
    · intro w hSw; have hx := run_str (P := Tryd.prog) w 27 9 5 _ _ hSw.2.2.2 Tryd.underlying27 Tryd.underlying5 Tryd.underlying9; go_simp
    simp only [List.set_cons_zero, List.set_cons_succ]
    refine wpAnyH_ready (rs := [9]) (by kernel_rfl) (by simp) ?_
    refine AllReadyH.cons (o := ⟨some 41, _, _, _, _, _⟩) rfl (fun K hK => ?_) (AllReadyH.nil)
    go_simp
    go_wp2_with (go_at_call 10; refine (sealS_any enc mac nonce va v3 ad x _ HL.out.1 HL.out.2.1 HL.out.2.2 (HVA.out.non (HF3.out.non (Fr.drew _))) (HO3.out.row.non (Fr.drew _)) hal (by rw [HON.out.2]; omega) (HT.out.1.non (HF3.out.non (Fr.drew _))) (HT.out.2.non (HF3.out.non (Fr.drew _)))).mono ?_; rintro e r2 ⟨v9, rfl, ho9, hf2⟩)
    rw [HON.out.1] at ho9
    have hr9 := ho9.row
    clear ho9
    have F2 : Hid (Fr Non w3.drew r2) := Lib.hid hf2
    clear hf2
    refine hK.out _ _ (⟨(HP3.out.non ((Fr.drew _).non F2.out)).1, (HP3.out.non ((Fr.drew _).non F2.out)).2.1, (HP3.out.non ((Fr.drew _).non F2.out)).2.2, HV3.out.non ((Fr.drew _).non F2.out)⟩) (fun hHeld => ?_)
    clear hK K
    refine wpAnyH_ready (rs := [10]) (by kernel_rfl) (by simp) ?_
    refine AllReadyH.cons (o := ⟨some 42, _, _, _, _, _⟩) rfl (fun K hK => ?_) (AllReadyH.nil)
    have hxs := run_str (P := Tryd.prog) r2 27 9 5 _ _ hr9 Tryd.underlying27 Tryd.underlying5 Tryd.underlying9
    go_simp
    refine hK.out _ _ (⟨(HP3.out.non ((Fr.drew _).non F2.out)).1, (HP3.out.non ((Fr.drew _).non F2.out)).2.1, (HP3.out.non ((Fr.drew _).non F2.out)).2.2, HV3.out.non ((Fr.drew _).non F2.out)⟩) (fun hHeld => ?_)
    clear hK K
    refine wpAnyH_takeL (i := 13) 45 (v := ?_) rfl rfl (by kernel_rfl) (by kernel_rfl) (by kernel_rfl) (fun _ _ _ h => h) (by assumption) (Or.inl ⟨by rfl, ?_⟩) ?_
    rotate_left
    · intro w hSw; go_simp; (try with_reducible rfl)
    simp only [List.set_cons_zero, List.set_cons_succ]
    refine wpAnyH_takeL (i := 14) 46 (v := ?_) rfl rfl (by kernel_rfl) (by kernel_rfl) (by kernel_rfl) (fun _ _ _ h => h) (by assumption) (Or.inl ⟨by rfl, ?_⟩) ?_
    rotate_left
    · intro w hSw; go_simp; (try with_reducible rfl)
    simp only [List.set_cons_zero, List.set_cons_succ]
    refine wpAnyH_takeL (i := 15) 4 (v := ?_) rfl rfl (by kernel_rfl) (by kernel_rfl) (by kernel_rfl) (fun _ _ _ h => h) (by assumption) (Or.inl ⟨by rfl, ?_⟩) ?_
    rotate_left
    · intro w hSw; go_simp; (try with_reducible rfl)
    simp only [List.set_cons_zero, List.set_cons_succ]
    refine wpAnyH_done (by kernel_rfl) ?_ _
    go_wp2_with fail
    go_ret
    exact ⟨rfl, HF3.out.non ((Fr.drew _).non F2.out)⟩
end Go.Proofs.YthfpkdbhihcniaaDoor
