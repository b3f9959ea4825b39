/- package ikey: which entries rise -/
import Derived.Test.YteokfgdennjjiaaIkeyOpB
import Derived.Test.YteokfgdennjjiaaERow
import Derived.Test.YteokfgdennjjiaaHeld
import Derived.Deep.RegionHeld3
import Derived.Deep.CutBlock
import Derived.Deep.DeepCutAuto
namespace Go.Proofs.Yteokfgdennjjiaa
open Go.ChangeShapes Go.WideShapes Go.ChangeAt Go.RowKit

set_option maxRecDepth 100000 in
set_option maxHeartbeats 4000000 in
theorem risesC_any (v : Value) (es : List Ent) (w : World) (hv : ERow w v es) : Calls Try.prog 19 #[v] w fun r w' => r = .returned (.bool (entRises es)) ∧ Fr Non w w' := by
  have hlen := run_lenS (P := Try.prog) hv 34 24 Try.underlying34
  rw [List.length_map] at hlen
  have hle := hv.le
  rw [List.length_map] at hle
  unfold maxLen at hle
  have HV := Lib.hid hv
  have hie : (Try.prog.info? 24).map (·.size) = some 4 := by kernel_rfl
  have hue := Try.underlying24
  clear hv
  go_enter Try.func19, Try.ntmps19
  go_wp2_with fail
  go_loopw [3] (fun i' wr => ∃ (i I1 : Nat), i' = .int .i64 I1 ∧ I1 = i + 1 ∧ (i = 0 ∨ i + 1 ≤ es.length) ∧ entRises (es.drop i) = entRises es ∧ Fr Non w wr) (fun i' _ => es.length + 1 - (intOf i').toNat)
  case atStart => exact ⟨0, 1, rfl, rfl, .inl rfl, rfl, Fr.refl _ _⟩
  case round =>
    obtain ⟨i, I1, rfl, hI1, hi, hr, hfr⟩ := hrel
    have HR := Lib.hid hr
    have HFR := Lib.hid hfr
    clear hr hfr
    by_cases h1 : (I1 : Int) < es.length
    · have hl : i + 1 < es.length := by omega
      obtain ⟨b, off, c, rfl, hx⟩ := HV.out.at (by rw [List.length_map]; omega)
      rw [List.length_map] at *
      have g0 := hx i (entCells es[i]) (by rw [List.getElem?_map, List.getElem?_eq_getElem (by omega)]; rfl)
      have g1 := hx (i + 1) (entCells es[i + 1]) (by rw [List.getElem?_map, List.getElem?_eq_getElem hl]; rfl)
      have HG0 := Lib.hid (rangeAt_non (rangeAt_non g0 HFR.out) (Fr.drew _))
      have HG1 : Hid (wr.drew.rangeAt b (off + I1 * 4) (entCells es[i + 1])) := Lib.hid (by rw [hI1]; exact rangeAt_non (rangeAt_non g1 HFR.out) (Fr.drew _))
      have HS := Lib.hid (entRises_drop hl)
      clear hx g0 g1
      generalize es[i] = e0 at HG0 HS
      generalize es[i + 1] = e1 at HG1 HS
      have ei : wrap64 ((I1 : Int) - 1) = (i : Int) := by rw [IntWalk.wrap64_in _ (by omega)]; omega
      have ei2 : IntKind.i64.wrap ((I1 : Int) - 1) = (i : Int) := by rw [IntWalk.i64_in _ (by omega)]; omega
      have z0 : (0 : Int) ≤ (i : Int) := by omega
      have z1 : (i : Int) < es.length := by omega
      have z2 : (0 : Int) ≤ (I1 : Int) := by omega
      have HI1 := Lib.hid hI1
      clear hI1 hl
      have HAO := Lib.hid (entAhead_ord e0 e1)
      go_upto_region 4 with (fail)
      have hS0 : (fun w' : World => w'.rangeAt b (off + i * 4) (entCells e0) ∧ w'.rangeAt b (off + I1 * 4) (entCells e1)) wr.drew := ⟨HG0.out, HG1.out⟩
      have HF0 := Lib.hid (HFR.out.non (Fr.drew _))
      refine wp_region_held_drew (S := fun w' : World => w'.rangeAt b (off + i * 4) (entCells e0) ∧ w'.rangeAt b (off + I1 * 4) (entCells e1)) (by kernel_rfl) hS0 (fun hHeld => ?_)
      generalize wr.drew = w4 at HG0 HG1 HF0 hS0 hHeld ⊢
      refine wpAnyH_takeL (i := 0) 10 (v := ?_) rfl rfl (by kernel_rfl) (by kernel_rfl) (by kernel_rfl) (fun _ _ _ h => h) (by assumption) (Or.inl ⟨by rfl, ?_⟩) ?_
      rotate_left
      · intro w hSw; go_simp; (try with_reducible rfl)
      simp only [List.set_cons_zero, List.set_cons_succ]
      refine wpAnyH_takeL (i := 1) 11 (v := ?_) rfl rfl (by kernel_rfl) (by kernel_rfl) (by kernel_rfl) (fun _ _ _ h => h) (by assumption) (Or.inl ⟨by rfl, ?_⟩) ?_
      rotate_left
      · intro w hSw; go_simp; (try with_reducible rfl)
      simp only [List.set_cons_zero, List.set_cons_succ]
      refine wpAnyH_takeL (i := 2) 12 (v := ?_) rfl rfl (by kernel_rfl) (by kernel_rfl) (by kernel_rfl) (fun _ _ _ h => h) (by assumption) (Or.inl ⟨by rfl, ?_⟩) ?_
      rotate_left
      · intro w hSw; go_simp; (try with_reducible rfl)
      simp only [List.set_cons_zero, List.set_cons_succ]
      refine wpAnyH_takeL (i := 3) 13 (v := ?_) rfl rfl (by kernel_rfl) (by kernel_rfl) (by kernel_rfl) (fun _ _ _ h => h) (by assumption) (Or.inl ⟨by rfl, ?_⟩) ?_
      rotate_left
      · intro w hSw; go_simp; (try with_reducible rfl)
      simp only [List.set_cons_zero, List.set_cons_succ]
      refine wpAnyH_takeL (i := 4) 14 (v := .agg (entCells e0).toArray) rfl rfl (by kernel_rfl) (by kernel_rfl) (by kernel_rfl) (fun _ _ _ h => h) (by assumption) (yieldsIf_load_mid (by rfl) _ _ rfl b (off + i * 4) rfl (entCells e0) _ (fun w h => h.1) hue rfl hie) ?_
      simp only [List.set_cons_zero, List.set_cons_succ]
      refine wpAnyH_takeL (i := 5) 15 (v := ?_) rfl rfl (by kernel_rfl) (by kernel_rfl) (by kernel_rfl) (fun _ _ _ h => h) (by assumption) (Or.inl ⟨by rfl, ?_⟩) ?_
      rotate_left
      · intro w hSw; go_simp; (try with_reducible rfl)
      simp only [List.set_cons_zero, List.set_cons_succ]
      refine wpAnyH_takeL (i := 6) 16 (v := ?_) rfl rfl (by kernel_rfl) (by kernel_rfl) (by kernel_rfl) (fun _ _ _ h => h) (by assumption) (Or.inl ⟨by rfl, ?_⟩) ?_
      rotate_left
      · intro w hSw; go_simp; (try with_reducible rfl)
      simp only [List.set_cons_zero, List.set_cons_succ]
      refine wpAnyH_takeL (i := 7) 17 (v := ?_) rfl rfl (by kernel_rfl) (by kernel_rfl) (by kernel_rfl) (fun _ _ _ h => h) (by assumption) (Or.inl ⟨by rfl, ?_⟩) ?_
      rotate_left
      · intro w hSw; go_simp; (try with_reducible rfl)
      simp only [List.set_cons_zero, List.set_cons_succ]
      refine wpAnyH_takeL (i := 8) 18 (v := .agg (entCells e1).toArray) rfl rfl (by kernel_rfl) (by kernel_rfl) (by kernel_rfl) (fun _ _ _ h => h) (by assumption) (yieldsIf_load_mid (by rfl) _ _ rfl b (off + I1 * 4) rfl (entCells e1) _ (fun w h => h.2) hue rfl hie) ?_
      simp only [List.set_cons_zero, List.set_cons_succ]
      refine wpAnyH_ready (rs := [9]) (by kernel_rfl) (by simp) ?_
      refine AllReadyH.cons (o := ⟨some 19, _, _, _, _, _⟩) rfl (fun K hK => ?_) (AllReadyH.nil)
      go_simp
      go_wp2_with (go_at_call 26; refine (order_any e0 e1 _).mono ?_; rintro e r1 ⟨rfl, hf1⟩)
      have F1 : Hid (Fr Non w4 r1) := Lib.hid hf1
      clear hf1
      generalize entOrd e0 e1 = z at HAO ⊢
      refine hK.out _ _ (⟨rangeAt_non HG0.out F1.out, rangeAt_non HG1.out F1.out⟩) (fun hHeld => ?_)
      clear hK K
      refine wpAnyH_takeL (i := 10) 20 (v := ?_) rfl rfl (by kernel_rfl) (by kernel_rfl) (by kernel_rfl) (fun _ _ _ h => h) (by assumption) (Or.inl ⟨by rfl, ?_⟩) ?_
      rotate_left
      · intro w hSw; go_simp; (try with_reducible rfl)
      simp only [List.set_cons_zero, List.set_cons_succ]
      refine wpAnyH_done (by kernel_rfl) ?_ _
      have HF5 := Lib.hid (HF0.out.non F1.out)
      generalize r1 = w5 at HF5 ⊢
      clear hHeld hS0 HG0 HG1
      by_cases ha : 0 ≤ z
      · have HN : Hid (entRises es = false) := Lib.hid (by
          have h := HAO.out
          rw [decide_eq_true ha] at h
          rw [← HR.out, HS.out, show entAhead e0 e1 = false by simpa using h.symm]; rfl)
        go_wp2_with fail
        go_ret
        exact ⟨by rw [HN.out]; rfl, HF5.out⟩
      · have HN : Hid (entRises (es.drop I1) = entRises es) := Lib.hid (by
          have h := HAO.out
          rw [decide_eq_false ha] at h
          rw [← HR.out, HS.out, show entAhead e0 e1 = true by simpa using h.symm, HI1.out]; rfl)
        go_wp2_with fail
        go_roundw
        case rel => exact ⟨I1, I1 + 1, by go_num, rfl, .inr (by omega), HN.out, HF5.out⟩
        case measure => simp [intOf]; omega
    · have HN : Hid (entRises es = true) := Lib.hid (by rw [← HR.out]; exact entRises_last (by omega))
      go_wp2_with fail
      go_ret
      exact ⟨by rw [HN.out]; rfl, HFR.out⟩
end Go.Proofs.Yteokfgdennjjiaa
