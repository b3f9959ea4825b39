/- layer 6: sealed texts and tags -/
import Derived.Test.YthfpkdbhihcniaaDoorLaw06B

namespace Go.Proofs.YthfpkdbhihcniaaDoor
open Go.ChangeShapes Go.WideShapes Go.ChangeAt Go.RowKit

set_option maxRecDepth 100000 in
set_option maxHeartbeats 4000000 in
/-- P6.1, P6.2 -/
theorem seals6_any (W : World) (enc mac nonce ad : List UInt8) (va : Value) (v : Value) (b : List UInt8) (hL : laidMetH Tryd.prog Rows.sealSealsRow.laid W) (he : enc.length = 32) (hmc : mac.length = 32) (hn : nonce.length = 12) (hva : Row W va (bs ad)) (hal : ad.length ≤ 1048576) (hv : Row W v (bs b)) (hbl : b.length ≤ 1048576) :
    Calls Tryd.prog 3 #[.agg (withCells enc mac nonce va).toArray, v] W fun e W' => e = .returned (.bool true) ∧ Fr Non W W' := by
  have HT := Lib.hid (seal_laid4 hL)
  have HV := Lib.hid hv
  have hzv : ∀ w, (zeroValue 32).run Tryd.prog w = .ok (.agg (bs (List.replicate 16 0)).toArray) w := fun _ => by kernel_rfl
  have HZV := Lib.hid hzv
  have hi16 : (Tryd.prog.info? 32).map (·.size) = some 16 := by kernel_rfl
  have HI16 := Lib.hid hi16
  clear hL hv hzv hi16
  have HL := Lib.hid (And.intro he (And.intro hmc hn))
  have HVA := Lib.hid hva
  have hik : (Tryd.prog.info? 24).map (·.size) = some (keyCells enc mac).length := by unfold keyCells; rw [List.length_append, bs_length, bs_length, he, hmc]; kernel_rfl
  have hin : (Tryd.prog.info? 26).map (·.size) = some (bs nonce).length := by rw [bs_length, hn]; kernel_rfl
  have HWC := Lib.hid (with_at (va := va) he hmc hn)
  clear he hmc hn hva
  have huk := Tryd.underlying24
  have hun := Tryd.underlying26
  go_enter Tryd.func3, Tryd.ntmps3
  go_upto_region 1 with (fail)
  have hb1 := Blk.new W 29 (withCells enc mac nonce va)
  have hf1 := Fr.alloc W (.cells (withCells enc mac nonce va).toArray 29)
  have hs1 : (W.alloc (.cells (withCells enc mac nonce va).toArray 29)).heap.size = W.heap.size + 1 := by simp
  obtain ⟨P, hP⟩ : ∃ P, P = W.heap.size := ⟨_, rfl⟩
  rw [← hP] at hb1 hs1 ⊢
  generalize W.alloc (.cells (withCells enc mac nonce va).toArray 29) = w1 at hb1 hf1 hs1 ⊢
  have HP := Lib.hid (HWC.out _ _ _ hb1)
  have HF1 := Lib.hid hf1
  have HPE := Lib.hid hP
  clear hb1 hs1 hf1 hP
  go_wp2_with fail
  refine (shown6_any _ (HT.out.1.non HF1.out)).mono ?_
  rintro e w2 ⟨rfl, hf2⟩
  have HF2 := Lib.hid (HF1.out.non hf2)
  have HP2 := Lib.hid (HP.out.non hf2)
  have hcn := HP2.out.2.2
  clear hf2
  go_upto_region 2 with (fail)
  go_wp2_with ((with_reducible show wpList _ _ _ (({ op := .load _ _, .. } : Oper) :: _) _ _); first | (refine wpList_load_mid rfl 24 _ rfl P 0 rfl (keyCells enc mac) _ HP2.out.1 huk rfl hik ?_) | (refine wpList_load_mid rfl 26 _ rfl P 64 rfl (bs nonce) _ HP2.out.2.1 hun rfl hin ?_))
  refine (sealS_any enc mac nonce va v ad b w2 HL.out.1 HL.out.2.1 HL.out.2.2 (HVA.out.non HF2.out) (HV.out.non HF2.out) (by omega) (by omega) (HT.out.1.1.non HF2.out) (HT.out.1.2.non HF2.out)).mono ?_
  rintro e w3 ⟨v3, rfl, ho3, hf3⟩
  have HF3 := Lib.hid (HF2.out.non hf3)
  have HP3 := Lib.hid (HP2.out.non hf3)
  obtain ⟨A, hA⟩ : ∃ A, A = sealSeal enc mac nonce ad b := ⟨_, rfl⟩
  rw [← hA] at ho3
  have HA := Lib.hid hA
  have HO3 := Lib.hid ho3.row
  clear hf3 ho3 hcn hA
  have hcn := HP3.out.2.2
  go_upto_region 3 with (fail)
  go_wp2_with ((with_reducible show wpList _ _ _ (({ op := .load _ _, .. } : Oper) :: _) _ _); first | (refine wpList_load_mid rfl 24 _ rfl P 0 rfl (keyCells enc mac) _ HP3.out.1 huk rfl hik ?_) | (refine wpList_load_mid rfl 26 _ rfl P 64 rfl (bs nonce) _ HP3.out.2.1 hun rfl hin ?_))
  refine (tagS_any enc mac nonce va v ad b w3 HL.out.1 HL.out.2.1 HL.out.2.2 (HVA.out.non HF3.out) (HV.out.non HF3.out) (by omega) (by omega) (HT.out.1.1.non HF3.out)).mono ?_
  rintro e w4 ⟨rfl, hf4⟩
  have htl := sealTag_length mac nonce ad b
  obtain ⟨T, hTe⟩ : ∃ T, T = sealTag mac nonce ad b := ⟨_, rfl⟩
  rw [← hTe] at htl ⊢
  have HTE := Lib.hid (And.intro hTe htl)
  have HF4 := Lib.hid (HF3.out.non hf4)
  have HP4 := Lib.hid (HP3.out.non hf4)
  have HO4 := Lib.hid (HO3.out.non hf4)
  clear hf4 hcn hTe htl
  go_wp2_with ((with_reducible show wpList _ _ _ (({ op := .alloc _, .. } : Oper) :: _) _ _); refine wpList_var rfl rfl 32 7 (.tmp 24) rfl rfl rfl rfl _ (bs T) HZV.out (by rw [bs_length, bs_length, HTE.out.2]; rfl) (by rw [bs_length, HTE.out.2]; exact HI16.out) (bs_one _) (by simp) (fun _ => rfl) ?_)
  intro w5 hb5 hf5 hs5
  simp only [List.set_cons_succ, List.set_cons_zero]
  obtain ⟨X, hX⟩ : ∃ X, X = w4.heap.size := ⟨_, rfl⟩
  rw [← hX] at hb5 ⊢
  have HF5 := Lib.hid (HF4.out.non hf5)
  have HP5 := Lib.hid (HP4.out.non hf5)
  have HO5 := Lib.hid (HO4.out.non hf5)
  have HX5 := Lib.hid (hb5.part 0 16 T HTE.out.2 (by unfold maxLen; omega) (fun j v hj => by rw [Nat.zero_add]; exact hj))
  clear hb5 hf5 hs5 hX HP4 HO4 HP3 HO3 HP2
  have hS0 : (fun w' : World => w'.rangeAt P 0 (keyCells enc mac) ∧ w'.rangeAt P 64 (bs nonce) ∧ w'.cell? ⟨P, 76, none⟩ = some va ∧ Row w' v3 (bs A) ∧ Row w' (.slice (some ⟨X, 0, none⟩) 16 16) (bs T)) w5.drew := ⟨(HP5.out.non (Fr.drew _)).1, (HP5.out.non (Fr.drew _)).2.1, (HP5.out.non (Fr.drew _)).2.2, HO5.out.non (Fr.drew _), HX5.out.non (Fr.drew _)⟩
  go_upto_region 4 with (fail)
  refine wp_region_held_drew (S := fun w' => w'.rangeAt P 0 (keyCells enc mac) ∧ w'.rangeAt P 64 (bs nonce) ∧ w'.cell? ⟨P, 76, none⟩ = some va ∧ Row w' v3 (bs A) ∧ Row w' (.slice (some ⟨X, 0, none⟩) 16 16) (bs T)) (by kernel_rfl) hS0 (fun hHeld => ?_)
  refine wpAnyH_takeL (i := 0) 25 (v := ?_) rfl rfl (by kernel_rfl) (by kernel_rfl) (by kernel_rfl) (fun _ _ _ h => h) (by assumption) (Or.inl ⟨by rfl, ?_⟩) ?_
  rotate_left
  · intro w hSw; go_simp; (try with_reducible rfl)
  simp only [List.set_cons_zero, List.set_cons_succ]
  refine wpAnyH_takeL (i := 1) 26 (v := ?_) rfl rfl (by kernel_rfl) (by kernel_rfl) (by kernel_rfl) (fun _ _ _ h => h) (by assumption) (Or.inl ⟨by rfl, ?_⟩) ?_
  rotate_left
  · intro w hSw; go_simp; (try with_reducible rfl)
  simp only [List.set_cons_zero, List.set_cons_succ]
  refine wpAnyH_takeL (i := 2) 27 (v := ?_) rfl rfl (by kernel_rfl) (by kernel_rfl) (by kernel_rfl) (fun _ _ _ h => h) (by assumption) (Or.inl ⟨by rfl, ?_⟩) ?_
  rotate_left
  · intro w hSw; go_simp; (try with_reducible rfl)
  simp only [List.set_cons_zero, List.set_cons_succ]
  refine wpAnyH_takeL (i := 3) 28 (v := .string ⟨A.toArray⟩) rfl rfl (by kernel_rfl) (by kernel_rfl) (by kernel_rfl) (fun _ _ _ h => h) (by assumption) (Or.inl ⟨by rfl, ?_⟩) ?_
  · intro w hSw; have hx := run_str (P := Tryd.prog) w 27 9 5 _ _ hSw.2.2.2.1 Tryd.underlying27 Tryd.underlying5 Tryd.underlying9; go_simp
  simp only [List.set_cons_zero, List.set_cons_succ]
  refine wpAnyH_takeL (i := 4) 29 (v := ?_) rfl rfl (by kernel_rfl) (by kernel_rfl) (by kernel_rfl) (fun _ _ _ h => h) (by assumption) (Or.inl ⟨by rfl, ?_⟩) ?_
  rotate_left
  · intro w hSw; go_simp; (try with_reducible rfl)
  simp only [List.set_cons_zero, List.set_cons_succ]
  refine wpAnyH_takeL (i := 5) 30 (v := .agg (keyCells enc mac).toArray) rfl rfl (by kernel_rfl) (by kernel_rfl) (by kernel_rfl) (fun _ _ _ h => h) (by assumption) (yieldsIf_load_mid (by rfl) _ _ rfl P (0) rfl (keyCells enc mac) _ (fun w h => h.1) huk rfl hik) ?_
  simp only [List.set_cons_zero, List.set_cons_succ]
  refine wpAnyH_takeL (i := 6) 31 (v := ?_) rfl rfl (by kernel_rfl) (by kernel_rfl) (by kernel_rfl) (fun _ _ _ h => h) (by assumption) (Or.inl ⟨by rfl, ?_⟩) ?_
  rotate_left
  · intro w hSw; go_simp; (try with_reducible rfl)
  simp only [List.set_cons_zero, List.set_cons_succ]
  refine wpAnyH_takeL (i := 7) 32 (v := .agg (bs nonce).toArray) rfl rfl (by kernel_rfl) (by kernel_rfl) (by kernel_rfl) (fun _ _ _ h => h) (by assumption) (yieldsIf_load_mid (by rfl) _ _ rfl P (64) rfl (bs nonce) _ (fun w h => h.2.1) hun rfl hin) ?_
  simp only [List.set_cons_zero, List.set_cons_succ]
  refine wpAnyH_takeL (i := 8) 33 (v := ?_) rfl rfl (by kernel_rfl) (by kernel_rfl) (by kernel_rfl) (fun _ _ _ h => h) (by assumption) (Or.inl ⟨by rfl, ?_⟩) ?_
  rotate_left
  · intro w hSw; go_simp; (try with_reducible rfl)
  simp only [List.set_cons_zero, List.set_cons_succ]
  refine wpAnyH_takeL (i := 9) 34 (v := ?_) rfl rfl (by kernel_rfl) (by kernel_rfl) (by kernel_rfl) (fun _ _ _ h => h) (by assumption) (Or.inl ⟨by rfl, ?_⟩) ?_
  rotate_left
  · intro w hSw; go_simp; (try with_reducible rfl)
  simp only [List.set_cons_zero, List.set_cons_succ]
  refine wpAnyH_takeL (i := 10) 35 (v := ?_) rfl rfl (by kernel_rfl) (by kernel_rfl) (by kernel_rfl) (fun _ _ _ h => h) (by assumption) (Or.inl ⟨by rfl, ?_⟩) ?_
  rotate_left
  · intro w hSw; go_simp; (try with_reducible rfl)
  simp only [List.set_cons_zero, List.set_cons_succ]
  refine wpAnyH_ready (rs := [11]) (by kernel_rfl) (by simp) ?_
  refine AllReadyH.cons (o := ⟨some 36, _, _, _, _, _⟩) rfl (fun K hK => ?_) (AllReadyH.nil)
  go_simp
  go_wp2_with (go_at_call 12; refine (sealR_any enc mac nonce va v ad b _ HL.out.1 HL.out.2.1 HL.out.2.2 (HVA.out.non (HF5.out.non (Fr.drew _))) (HV.out.non (HF5.out.non (Fr.drew _))) (by omega) (HT.out.2.frame (HF5.out.non (Fr.drew _)) (fun h => h))).mono ?_; rintro e r2 ⟨v9, rfl, ho9, hf2⟩)
  rw [← HA.out] at ho9
  have hr9 := ho9.row
  clear ho9
  have F2 : Hid (Fr Non w5.drew r2) := Lib.hid hf2
  clear hf2
  refine hK.out _ _ (⟨(HP5.out.non ((Fr.drew _).non F2.out)).1, (HP5.out.non ((Fr.drew _).non F2.out)).2.1, (HP5.out.non ((Fr.drew _).non F2.out)).2.2, HO5.out.non ((Fr.drew _).non F2.out), HX5.out.non ((Fr.drew _).non F2.out)⟩) (fun hHeld => ?_)
  clear hK K
  refine wpAnyH_ready (rs := [12]) (by kernel_rfl) (by simp) ?_
  refine AllReadyH.cons (o := ⟨some 37, _, _, _, _, _⟩) rfl (fun K hK => ?_) (AllReadyH.nil)
  have hxs := run_str (P := Tryd.prog) r2 27 9 5 _ _ hr9 Tryd.underlying27 Tryd.underlying5 Tryd.underlying9
  go_simp
  refine hK.out _ _ (⟨(HP5.out.non ((Fr.drew _).non F2.out)).1, (HP5.out.non ((Fr.drew _).non F2.out)).2.1, (HP5.out.non ((Fr.drew _).non F2.out)).2.2, HO5.out.non ((Fr.drew _).non F2.out), HX5.out.non ((Fr.drew _).non F2.out)⟩) (fun hHeld => ?_)
  clear hK K
  refine wpAnyH_takeL (i := 13) 38 (v := ?_) rfl rfl (by kernel_rfl) (by kernel_rfl) (by kernel_rfl) (fun _ _ _ h => h) (by assumption) (Or.inl ⟨by rfl, ?_⟩) ?_
  rotate_left
  · intro w hSw; go_simp; (try with_reducible rfl)
  simp only [List.set_cons_zero, List.set_cons_succ]
  refine wpAnyH_takeL (i := 14) 39 (v := ?_) rfl rfl (by kernel_rfl) (by kernel_rfl) (by kernel_rfl) (fun _ _ _ h => h) (by assumption) (Or.inl ⟨by rfl, ?_⟩) ?_
  rotate_left
  · intro w hSw; go_simp; (try with_reducible rfl)
  simp only [List.set_cons_zero, List.set_cons_succ]
  refine wpAnyH_takeL (i := 15) 40 (v := ?_) rfl rfl (by kernel_rfl) (by kernel_rfl) (by kernel_rfl) (fun _ _ _ h => h) (by assumption) (Or.inl ⟨by rfl, ?_⟩) ?_
  rotate_left
  · intro w hSw; go_simp; (try with_reducible rfl)
  simp only [List.set_cons_zero, List.set_cons_succ]
  refine wpAnyH_takeL (i := 16) 41 (v := ?_) rfl rfl (by kernel_rfl) (by kernel_rfl) (by kernel_rfl) (fun _ _ _ h => h) (by assumption) (Or.inl ⟨by rfl, ?_⟩) ?_
  rotate_left
  · intro w hSw; go_simp; (try with_reducible rfl)
  simp only [List.set_cons_zero, List.set_cons_succ]
  refine wpAnyH_takeL (i := 17) 42 (v := .string ⟨T.toArray⟩) rfl rfl (by kernel_rfl) (by kernel_rfl) (by kernel_rfl) (fun _ _ _ h => h) (by assumption) (Or.inl ⟨by rfl, ?_⟩) ?_
  · intro w hSw; have hx := run_str (P := Tryd.prog) w 27 9 5 _ _ hSw.2.2.2.2 Tryd.underlying27 Tryd.underlying5 Tryd.underlying9; go_simp
  simp only [List.set_cons_zero, List.set_cons_succ]
  refine wpAnyH_takeL (i := 18) 43 (v := ?_) rfl rfl (by kernel_rfl) (by kernel_rfl) (by kernel_rfl) (fun _ _ _ h => h) (by assumption) (Or.inl ⟨by rfl, ?_⟩) ?_
  rotate_left
  · intro w hSw; go_simp; (try with_reducible rfl)
  simp only [List.set_cons_zero, List.set_cons_succ]
  refine wpAnyH_takeL (i := 19) 44 (v := .agg (keyCells enc mac).toArray) rfl rfl (by kernel_rfl) (by kernel_rfl) (by kernel_rfl) (fun _ _ _ h => h) (by assumption) (yieldsIf_load_mid (by rfl) _ _ rfl P (0) rfl (keyCells enc mac) _ (fun w h => h.1) huk rfl hik) ?_
  simp only [List.set_cons_zero, List.set_cons_succ]
  refine wpAnyH_takeL (i := 20) 45 (v := ?_) rfl rfl (by kernel_rfl) (by kernel_rfl) (by kernel_rfl) (fun _ _ _ h => h) (by assumption) (Or.inl ⟨by rfl, ?_⟩) ?_
  rotate_left
  · intro w hSw; go_simp; (try with_reducible rfl)
  simp only [List.set_cons_zero, List.set_cons_succ]
  refine wpAnyH_takeL (i := 21) 46 (v := .agg (bs nonce).toArray) rfl rfl (by kernel_rfl) (by kernel_rfl) (by kernel_rfl) (fun _ _ _ h => h) (by assumption) (yieldsIf_load_mid (by rfl) _ _ rfl P (64) rfl (bs nonce) _ (fun w h => h.2.1) hun rfl hin) ?_
  simp only [List.set_cons_zero, List.set_cons_succ]
  refine wpAnyH_takeL (i := 22) 47 (v := ?_) rfl rfl (by kernel_rfl) (by kernel_rfl) (by kernel_rfl) (fun _ _ _ h => h) (by assumption) (Or.inl ⟨by rfl, ?_⟩) ?_
  rotate_left
  · intro w hSw; go_simp; (try with_reducible rfl)
  simp only [List.set_cons_zero, List.set_cons_succ]
  refine wpAnyH_takeL (i := 23) 48 (v := ?_) rfl rfl (by kernel_rfl) (by kernel_rfl) (by kernel_rfl) (fun _ _ _ h => h) (by assumption) (Or.inl ⟨by rfl, ?_⟩) ?_
  rotate_left
  · intro w hSw; go_simp; (try with_reducible rfl)
  simp only [List.set_cons_zero, List.set_cons_succ]
  refine wpAnyH_takeL (i := 24) 49 (v := ?_) rfl rfl (by kernel_rfl) (by kernel_rfl) (by kernel_rfl) (fun _ _ _ h => h) (by assumption) (Or.inl ⟨by rfl, ?_⟩) ?_
  rotate_left
  · intro w hSw; go_simp; (try with_reducible rfl)
  simp only [List.set_cons_zero, List.set_cons_succ]
  refine wpAnyH_ready (rs := [25]) (by kernel_rfl) (by simp) ?_
  refine AllReadyH.cons (o := ⟨some 50, _, _, _, _, _⟩) rfl (fun K hK => ?_) (AllReadyH.nil)
  go_simp
  go_wp2_with (go_at_call 13; refine (tagR_any enc mac nonce va v ad b _ HL.out.1 HL.out.2.1 HL.out.2.2 (HVA.out.non (HF5.out.non ((Fr.drew _).non F2.out))) (HV.out.non (HF5.out.non ((Fr.drew _).non F2.out))) (by omega) (HT.out.2.frame (HF5.out.non ((Fr.drew _).non F2.out)) (fun h => h))).mono ?_; rintro e r3 ⟨va9, rfl, hoa, hf3⟩)
  rw [← HTE.out.1] at hoa
  have hra := hoa.row
  clear hoa
  have F3 : Hid (Fr Non r2 r3) := Lib.hid hf3
  clear hf3
  refine hK.out _ _ (⟨(HP5.out.non ((Fr.drew _).non (F2.out.non F3.out))).1, (HP5.out.non ((Fr.drew _).non (F2.out.non F3.out))).2.1, (HP5.out.non ((Fr.drew _).non (F2.out.non F3.out))).2.2, HO5.out.non ((Fr.drew _).non (F2.out.non F3.out)), HX5.out.non ((Fr.drew _).non (F2.out.non F3.out))⟩) (fun hHeld => ?_)
  clear hK K
  refine wpAnyH_ready (rs := [26]) (by kernel_rfl) (by simp) ?_
  refine AllReadyH.cons (o := ⟨some 51, _, _, _, _, _⟩) rfl (fun K hK => ?_) (AllReadyH.nil)
  have hxt := run_str (P := Tryd.prog) r3 27 9 5 _ _ hra Tryd.underlying27 Tryd.underlying5 Tryd.underlying9
  go_simp
  refine hK.out _ _ (⟨(HP5.out.non ((Fr.drew _).non (F2.out.non F3.out))).1, (HP5.out.non ((Fr.drew _).non (F2.out.non F3.out))).2.1, (HP5.out.non ((Fr.drew _).non (F2.out.non F3.out))).2.2, HO5.out.non ((Fr.drew _).non (F2.out.non F3.out)), HX5.out.non ((Fr.drew _).non (F2.out.non F3.out))⟩) (fun hHeld => ?_)
  clear hK K
  refine wpAnyH_takeL (i := 27) 52 (v := ?_) rfl rfl (by kernel_rfl) (by kernel_rfl) (by kernel_rfl) (fun _ _ _ h => h) (by assumption) (Or.inl ⟨by rfl, ?_⟩) ?_
  rotate_left
  · intro w hSw; go_simp; (try with_reducible rfl)
  simp only [List.set_cons_zero, List.set_cons_succ]
  refine wpAnyH_takeL (i := 28) 53 (v := ?_) rfl rfl (by kernel_rfl) (by kernel_rfl) (by kernel_rfl) (fun _ _ _ h => h) (by assumption) (Or.inl ⟨by rfl, ?_⟩) ?_
  rotate_left
  · intro w hSw; go_simp; (try with_reducible rfl)
  simp only [List.set_cons_zero, List.set_cons_succ]
  refine wpAnyH_takeL (i := 29) 4 (v := ?_) rfl rfl (by kernel_rfl) (by kernel_rfl) (by kernel_rfl) (fun _ _ _ h => h) (by assumption) (Or.inl ⟨by rfl, ?_⟩) ?_
  rotate_left
  · intro w hSw; go_simp; (try with_reducible rfl)
  simp only [List.set_cons_zero, List.set_cons_succ]
  refine wpAnyH_done (by kernel_rfl) ?_ _
  go_wp2_with fail
  go_ret
  exact ⟨rfl, HF5.out.non ((Fr.drew _).non (F2.out.non F3.out))⟩
end Go.Proofs.YthfpkdbhihcniaaDoor
