/- layer 5: bytes crossed twice -/
import Derived.Test.YtcooibfnnjgjkaaDoorLaw05C
namespace Go.Proofs.YtcooibfnnjgjkaaDoor
open Go.ChangeShapes Go.WideShapes Go.ChangeAt Go.RowKit

/-- a whole block reads as a slice -/
theorem Blk.whole {w : World} {O t : Nat} {C : List UInt8} (h : Blk w O t (bs C)) (hm : C.length ≤ maxLen) : Row w (.slice (some ⟨O, 0, none⟩) C.length C.length) (bs C) := by
  have h := h.row 0 C.length (bs C) (by rw [bs_length]; exact Nat.le_refl _) hm (fun j v hj => by rw [Nat.zero_add]; exact hj)
  rwa [bs_length] at h
set_option maxRecDepth 100000 in
set_option maxHeartbeats 4000000 in
/-- P5.3 -/
theorem twice5_any (W : World) (key nonce : List UInt8) (count : Nat) (v : Value) (l : List UInt8) (hL : laidMetH Tryd.prog Rows.streamTwiceRow.laid W) (hk : key.length = 32) (hn : nonce.length = 12) (hc : count < 4294967296) (hv : Row W v (bs l)) (hl : l.length ≤ 140737488351232) :
    Calls Tryd.prog 5 #[.agg (placeCells key nonce count).toArray, v] W fun e W' => e = .returned (.bool true) ∧ Fr Non W W' := by
  have HS := Lib.hid (start_5 hL)
  have hlen := run_lenRow (P := Tryd.prog) hv 31 5 Tryd.underlying31
  rw [bs_length] at hlen
  have HV := Lib.hid hv
  clear hL hv
  have hplen : (bs key).length = 32 := by rw [bs_length, hk]
  have hnlen : (bs nonce).length = 12 := by rw [bs_length, hn]
  have HK := Lib.hid (And.intro hk (And.intro hn hc))
  have hik : (Tryd.prog.info? 22).map (·.size) = some (bs key).length := by rw [hplen]; kernel_rfl
  have hin : (Tryd.prog.info? 23).map (·.size) = some (bs nonce).length := by rw [hnlen]; kernel_rfl
  have huk := Tryd.underlying22
  have hun := Tryd.underlying23
  have HTW := Lib.hid (streamCross_twice key nonce count l)
  obtain ⟨C, hC⟩ : ∃ C, C = streamCross key nonce count l := ⟨_, rfl⟩
  have hcl : C.length = l.length := by rw [hC, streamCross_length]
  rw [← hC] at HTW
  have HC := Lib.hid hC
  have HCL := Lib.hid hcl
  clear hC hcl
  go_enter Tryd.func5, Tryd.ntmps5
  go_upto_region 1 with (fail)
  have hb1 := Blk.new W 26 (placeCells key nonce count)
  have hf1 := Fr.alloc W (.cells (placeCells key nonce count).toArray 26)
  obtain ⟨P, hP⟩ : ∃ P, P = W.heap.size := ⟨_, rfl⟩
  rw [← hP] at hb1 ⊢
  generalize W.alloc (.cells (placeCells key nonce count).toArray 26) = w3 at hb1 hf1 ⊢
  have HPB := Lib.hid (place_at hb1 hplen hnlen)
  have HF1 := Lib.hid hf1
  have HPE := Lib.hid hP
  clear hb1 hf1 hplen hnlen hk hn hc hP
  have hcn := HPB.out.2.2
  go_wp2_with ((with_reducible show wpList _ _ _ (({ op := .load _ _, .. } : Oper) :: _) _ _); first | (refine wpList_load_mid rfl 22 _ rfl P 0 rfl (bs key) _ HPB.out.1 huk rfl hik ?_) | (refine wpList_load_mid rfl 23 _ rfl P 32 rfl (bs nonce) _ HPB.out.2.1 hun rfl hin ?_))
  refine (crossS_any key nonce count v l w3 HK.out.1 HK.out.2.1 HK.out.2.2 (HV.out.non HF1.out) (by omega) (HS.out.non HF1.out)).mono ?_
  rintro e w4 ⟨O, rfl, hO, hb4, hf4⟩
  rw [← HC.out] at hb4
  have HF4 := Lib.hid (HF1.out.non hf4)
  have HP4 := Lib.hid (HPB.out.non hf4)
  have hrow := hb4.whole (by rw [HCL.out]; unfold maxLen; omega)
  rw [HCL.out] at hrow
  have HR4 := Lib.hid hrow
  have HV4 := Lib.hid (HV.out.non HF4.out)
  have hS0 : (fun w' : World => w'.rangeAt P 0 (bs key) ∧ w'.rangeAt P 32 (bs nonce) ∧ w'.cell? ⟨P, 44, none⟩ = some (.int .u32 (count : Int)) ∧ Row w' v (bs l)) w4.drew := ⟨(HP4.out.non (Fr.drew _)).1, (HP4.out.non (Fr.drew _)).2.1, (HP4.out.non (Fr.drew _)).2.2, HV4.out.non (Fr.drew _)⟩
  clear hO hb4 hf4 hrow hcn HPB
  go_upto_region 2 with (fail)
  refine wp_region_held_drew (S := fun w' => w'.rangeAt P 0 (bs key) ∧ w'.rangeAt P 32 (bs nonce) ∧ w'.cell? ⟨P, 44, none⟩ = some (.int .u32 (count : Int)) ∧ Row w' v (bs l)) (by kernel_rfl) hS0 (fun hHeld => ?_)
  refine wpAnyH_ready (rs := [0]) (by kernel_rfl) (by simp) ?_
  refine AllReadyH.cons (o := ⟨some 14, _, _, _, _, _⟩) rfl (fun K hK => ?_) (AllReadyH.nil)
  go_simp
  go_wp2_with (go_at_call 8; refine (shown5_any _ (HS.out.non (HF4.out.non (Fr.drew _)))).mono ?_; rintro e r2 ⟨rfl, hf2⟩)
  have F2 : Hid (Fr Non w4.drew r2) := Lib.hid hf2
  clear hf2
  refine hK.out _ _ (⟨(HP4.out.non ((Fr.drew _).non F2.out)).1, (HP4.out.non ((Fr.drew _).non F2.out)).2.1, (HP4.out.non ((Fr.drew _).non F2.out)).2.2, HV4.out.non ((Fr.drew _).non F2.out)⟩) (fun hHeld => ?_)
  clear hK K
  refine wpAnyH_takeL (i := 1) 15 (v := ?_) rfl rfl (by kernel_rfl) (by kernel_rfl) (by kernel_rfl) (fun _ _ _ h => h) (by assumption) (Or.inl ⟨by rfl, ?_⟩) ?_
  rotate_left
  · intro w hSw; go_simp; (try with_reducible rfl)
  simp only [List.set_cons_zero, List.set_cons_succ]
  refine wpAnyH_takeL (i := 2) 16 (v := ?_) rfl rfl (by kernel_rfl) (by kernel_rfl) (by kernel_rfl) (fun _ _ _ h => h) (by assumption) (Or.inl ⟨by rfl, ?_⟩) ?_
  rotate_left
  · intro w hSw; go_simp; (try with_reducible rfl)
  simp only [List.set_cons_zero, List.set_cons_succ]
  refine wpAnyH_takeL (i := 3) 17 (v := ?_) rfl rfl (by kernel_rfl) (by kernel_rfl) (by kernel_rfl) (fun _ _ _ h => h) (by assumption) (Or.inl ⟨by rfl, ?_⟩) ?_
  rotate_left
  · intro w hSw; go_simp; (try with_reducible rfl)
  simp only [List.set_cons_zero, List.set_cons_succ]
  refine wpAnyH_takeL (i := 4) 18 (v := ?_) rfl rfl (by kernel_rfl) (by kernel_rfl) (by kernel_rfl) (fun _ _ _ h => h) (by assumption) (Or.inl ⟨by rfl, ?_⟩) ?_
  rotate_left
  · intro w hSw; go_simp; (try with_reducible rfl)
  simp only [List.set_cons_zero, List.set_cons_succ]
  refine wpAnyH_takeL (i := 5) 19 (v := ?_) rfl rfl (by kernel_rfl) (by kernel_rfl) (by kernel_rfl) (fun _ _ _ h => h) (by assumption) (Or.inl ⟨by rfl, ?_⟩) ?_
  rotate_left
  · intro w hSw; go_simp; (try with_reducible rfl)
  simp only [List.set_cons_zero, List.set_cons_succ]
  refine wpAnyH_takeL (i := 6) 20 (v := ?_) rfl rfl (by kernel_rfl) (by kernel_rfl) (by kernel_rfl) (fun _ _ _ h => h) (by assumption) (Or.inl ⟨by rfl, ?_⟩) ?_
  rotate_left
  · intro w hSw; go_simp; (try with_reducible rfl)
  simp only [List.set_cons_zero, List.set_cons_succ]
  refine wpAnyH_takeL (i := 7) 21 (v := ?_) rfl rfl (by kernel_rfl) (by kernel_rfl) (by kernel_rfl) (fun _ _ _ h => h) (by assumption) (Or.inl ⟨by rfl, ?_⟩) ?_
  rotate_left
  · intro w hSw; go_simp; (try with_reducible rfl)
  simp only [List.set_cons_zero, List.set_cons_succ]
  refine wpAnyH_takeL (i := 8) 22 (v := ?_) rfl rfl (by kernel_rfl) (by kernel_rfl) (by kernel_rfl) (fun _ _ _ h => h) (by assumption) (Or.inl ⟨by rfl, ?_⟩) ?_
  rotate_left
  · intro w hSw; go_simp; (try with_reducible rfl)
  simp only [List.set_cons_zero, List.set_cons_succ]
  refine wpAnyH_takeL (i := 9) 23 (v := ?_) rfl rfl (by kernel_rfl) (by kernel_rfl) (by kernel_rfl) (fun _ _ _ h => h) (by assumption) (Or.inl ⟨by rfl, ?_⟩) ?_
  rotate_left
  · intro w hSw; go_simp; (try with_reducible rfl)
  simp only [List.set_cons_zero, List.set_cons_succ]
  refine wpAnyH_takeL (i := 10) 24 (v := .agg (bs key).toArray) rfl rfl (by kernel_rfl) (by kernel_rfl) (by kernel_rfl) (fun _ _ _ h => h) (by assumption) (yieldsIf_load_mid (by rfl) _ _ rfl P (0) rfl (bs key) _ (fun w h => h.1) huk rfl hik) ?_
  simp only [List.set_cons_zero, List.set_cons_succ]
  refine wpAnyH_takeL (i := 11) 25 (v := ?_) rfl rfl (by kernel_rfl) (by kernel_rfl) (by kernel_rfl) (fun _ _ _ h => h) (by assumption) (Or.inl ⟨by rfl, ?_⟩) ?_
  rotate_left
  · intro w hSw; go_simp; (try with_reducible rfl)
  simp only [List.set_cons_zero, List.set_cons_succ]
  refine wpAnyH_takeL (i := 12) 26 (v := .agg (bs nonce).toArray) rfl rfl (by kernel_rfl) (by kernel_rfl) (by kernel_rfl) (fun _ _ _ h => h) (by assumption) (yieldsIf_load_mid (by rfl) _ _ rfl P (32) rfl (bs nonce) _ (fun w h => h.2.1) hun rfl hin) ?_
  simp only [List.set_cons_zero, List.set_cons_succ]
  refine wpAnyH_takeL (i := 13) 27 (v := ?_) rfl rfl (by kernel_rfl) (by kernel_rfl) (by kernel_rfl) (fun _ _ _ h => h) (by assumption) (Or.inl ⟨by rfl, ?_⟩) ?_
  rotate_left
  · intro w hSw; go_simp; (try with_reducible rfl)
  simp only [List.set_cons_zero, List.set_cons_succ]
  refine wpAnyH_takeL (i := 14) 28 (v := ?_) rfl rfl (by kernel_rfl) (by kernel_rfl) (by kernel_rfl) (fun _ _ _ h => h) (by assumption) (Or.inl ⟨by rfl, ?_⟩) ?_
  rotate_left
  · intro w hSw; go_simp; (try with_reducible rfl)
  simp only [List.set_cons_zero, List.set_cons_succ]
  refine wpAnyH_takeL (i := 15) 29 (v := ?_) rfl rfl (by kernel_rfl) (by kernel_rfl) (by kernel_rfl) (fun _ _ _ h => h) (by assumption) (Or.inl ⟨by rfl, ?_⟩) ?_
  rotate_left
  · intro w hSw; go_simp; (try with_reducible rfl)
  simp only [List.set_cons_zero, List.set_cons_succ]
  refine wpAnyH_takeL (i := 18) 32 (v := ?_) rfl rfl (by kernel_rfl) (by kernel_rfl) (by kernel_rfl) (fun _ _ _ h => h) (by assumption) (Or.inl ⟨by rfl, ?_⟩) ?_
  rotate_left
  · intro w hSw; go_simp; (try with_reducible rfl)
  simp only [List.set_cons_zero, List.set_cons_succ]
  refine wpAnyH_takeL (i := 19) 33 (v := .string ⟨l.toArray⟩) rfl rfl (by kernel_rfl) (by kernel_rfl) (by kernel_rfl) (fun _ _ _ h => h) (by assumption) (Or.inl ⟨by rfl, ?_⟩) ?_
  · intro w hSw; have hx := run_str (P := Tryd.prog) w 31 9 5 _ _ hSw.2.2.2 Tryd.underlying31 Tryd.underlying5 Tryd.underlying9; go_simp
  simp only [List.set_cons_zero, List.set_cons_succ]
  refine wpAnyH_ready (rs := [16]) (by kernel_rfl) (by simp) ?_
  refine AllReadyH.cons (o := ⟨some 30, _, _, _, _, _⟩) rfl (fun K hK => ?_) (AllReadyH.nil)
  go_simp
  go_wp2_with (go_at_call 11; refine (crossS_any key nonce count (.slice (some ⟨O, 0, none⟩) l.length l.length) C _ HK.out.1 HK.out.2.1 HK.out.2.2 (HR4.out.non ((Fr.drew _).non F2.out)) (by rw [HCL.out]; omega) (HS.out.non (HF4.out.non ((Fr.drew _).non F2.out)))).mono ?_; rintro e r3 ⟨O9, rfl, hO9, hb9, hf3⟩)
  rw [HTW.out] at hb9
  rw [HCL.out]
  have hr9 := hb9.whole (by unfold maxLen; omega)
  clear hb9 hO9
  have F3 : Hid (Fr Non r2 r3) := Lib.hid hf3
  clear hf3
  refine hK.out _ _ (⟨(HP4.out.non ((Fr.drew _).non (F2.out.non F3.out))).1, (HP4.out.non ((Fr.drew _).non (F2.out.non F3.out))).2.1, (HP4.out.non ((Fr.drew _).non (F2.out.non F3.out))).2.2, HV4.out.non ((Fr.drew _).non (F2.out.non F3.out))⟩) (fun hHeld => ?_)
  clear hK K
  refine wpAnyH_ready (rs := [17]) (by kernel_rfl) (by simp) ?_
  refine AllReadyH.cons (o := ⟨some 31, _, _, _, _, _⟩) rfl (fun K hK => ?_) (AllReadyH.nil)
  have hxs := run_str (P := Tryd.prog) r3 31 9 5 _ _ hr9 Tryd.underlying31 Tryd.underlying5 Tryd.underlying9
  go_simp
  refine hK.out _ _ (⟨(HP4.out.non ((Fr.drew _).non (F2.out.non F3.out))).1, (HP4.out.non ((Fr.drew _).non (F2.out.non F3.out))).2.1, (HP4.out.non ((Fr.drew _).non (F2.out.non F3.out))).2.2, HV4.out.non ((Fr.drew _).non (F2.out.non F3.out))⟩) (fun hHeld => ?_)
  clear hK K
  refine wpAnyH_takeL (i := 20) 34 (v := ?_) rfl rfl (by kernel_rfl) (by kernel_rfl) (by kernel_rfl) (fun _ _ _ h => h) (by assumption) (Or.inl ⟨by rfl, ?_⟩) ?_
  rotate_left
  · intro w hSw; go_simp; (try with_reducible rfl)
  simp only [List.set_cons_zero, List.set_cons_succ]
  refine wpAnyH_takeL (i := 21) 35 (v := ?_) rfl rfl (by kernel_rfl) (by kernel_rfl) (by kernel_rfl) (fun _ _ _ h => h) (by assumption) (Or.inl ⟨by rfl, ?_⟩) ?_
  rotate_left
  · intro w hSw; go_simp; (try with_reducible rfl)
  simp only [List.set_cons_zero, List.set_cons_succ]
  refine wpAnyH_takeL (i := 22) 4 (v := ?_) rfl rfl (by kernel_rfl) (by kernel_rfl) (by kernel_rfl) (fun _ _ _ h => h) (by assumption) (Or.inl ⟨by rfl, ?_⟩) ?_
  rotate_left
  · intro w hSw; go_simp; (try with_reducible rfl)
  simp only [List.set_cons_zero, List.set_cons_succ]
  refine wpAnyH_done (by kernel_rfl) ?_ _
  go_wp2_with fail
  go_ret
  exact ⟨rfl, HF4.out.non ((Fr.drew _).non (F2.out.non F3.out))⟩
end Go.Proofs.YtcooibfnnjgjkaaDoor
