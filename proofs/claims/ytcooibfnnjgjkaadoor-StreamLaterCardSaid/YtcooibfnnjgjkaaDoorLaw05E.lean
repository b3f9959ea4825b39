/- layer 5: bytes from a block on -/
import Derived.Test.YtcooibfnnjgjkaaDoorLaw05D
namespace Go.Proofs.YtcooibfnnjgjkaaDoor
open Go.ChangeShapes Go.WideShapes Go.ChangeAt Go.RowKit

set_option maxRecDepth 100000 in
set_option maxHeartbeats 4000000 in
/-- P5.3 -/
theorem later5_any (W : World) (key nonce : List UInt8) (count : Nat) (v : Value) (l : List UInt8) (n : Nat) (hL : laidMetH Tryd.prog Rows.streamLaterRow.laid W) (hk : key.length = 32) (hn : nonce.length = 12) (hc : count < 4294967296) (hv : Row W v (bs l)) (hl : l.length ≤ 140737488351232) (hn16' : (n : Int) ≤ IntKind.u16.max) :
    Calls Tryd.prog 6 #[.agg (placeCells key nonce count).toArray, v, .int .u16 n] W fun e W' => e = .returned (.bool true) ∧ Fr Non W W' := by
  have HS := Lib.hid (start_5 hL)
  have hn16 : n ≤ 65535 := by have h : (n : Int) ≤ 65535 := hn16'; omega
  clear hn16'
  have hlen := run_lenRow (P := Tryd.prog) hv 31 5 Tryd.underlying31
  rw [bs_length] at hlen
  have HV := Lib.hid hv
  clear hL
  have hplen : (bs key).length = 32 := by rw [bs_length, hk]
  have hnlen : (bs nonce).length = 12 := by rw [bs_length, hn]
  have HK := Lib.hid (And.intro hk (And.intro hn hc))
  have hik : (Tryd.prog.info? 22).map (·.size) = some (bs key).length := by rw [hplen]; kernel_rfl
  have hin : (Tryd.prog.info? 23).map (·.size) = some (bs nonce).length := by rw [hnlen]; kernel_rfl
  have huk := Tryd.underlying22
  have hun := Tryd.underlying23
  obtain ⟨N, hN⟩ : ∃ N, N = l.length / 64 := ⟨_, rfl⟩
  obtain ⟨r, hr⟩ : ∃ r, r = n % (N + 1) := ⟨_, rfl⟩
  have hrN : r ≤ N := by have := Nat.mod_lt n (show 0 < N + 1 by omega); omega
  have hrn : r ≤ 65535 := by have := Nat.mod_le n (N + 1); omega
  obtain ⟨k, hkr⟩ : ∃ k, k = 64 * r := ⟨_, rfl⟩
  have hkl : k ≤ l.length := by omega
  obtain ⟨m, hm⟩ : ∃ m, m = (count + r) % 4294967296 := ⟨_, rfl⟩
  have hml : m < 4294967296 := by omega
  have hdrop : streamCross key nonce m (l.drop k) = (streamCross key nonce count l).drop k := by rw [hm, hkr]; exact (streamCross_later key nonce count r l).symm
  have e1 : (l.length : Int) / 64 = (N : Int) := by omega
  have e3 : ((n : Int)) % ((N : Int) + 1) = (r : Int) := by rw [hr]; push_cast; rfl
  have e4 : ((n : Int)).tmod ((N : Int) + 1) = (r : Int) := by rw [Int.tmod_eq_emod_of_nonneg (by omega)]; exact e3
  have e5 : (64 : Int) * (r : Int) = (k : Int) := by omega
  have e6 : (k : Int) / 64 = (r : Int) := by omega
  have e7 : (k : Int).tdiv 64 = (r : Int) := by rw [Int.tdiv_eq_ediv_of_nonneg (by omega)]; exact e6
  have e8 : IntKind.u32.wrap (r : Int) = (r : Int) := IntWalk.u32_in _ (by omega)
  have e10 : IntKind.i64.wrap (r : Int) = (r : Int) := IntWalk.i64_in _ (by omega)
  have e9 : IntKind.u32.wrap ((count : Int) + (r : Int)) = (m : Int) := by rw [hm]; go_num
  have z1 : ¬ ((N : Int) + 1 = 0) := by omega
  have z2 : (0 : Int) ≤ (k : Int) := by omega
  have z3 : (k : Int) ≤ (l.length : Int) := by omega
  obtain ⟨v2, rs2, hv2, -⟩ := run_subLo (P := Tryd.prog) hv 31 5 Tryd.underlying31 (by kernel_rfl) .i64 k k rfl (by rw [bs_length]; exact hkl)
  have hv2' : Row W v2 (bs (l.drop k)) := by simpa [bs, List.map_drop] using hv2
  have HV2 := Lib.hid hv2'
  obtain ⟨C, hC⟩ : ∃ C, C = streamCross key nonce count l := ⟨_, rfl⟩
  have hcl : C.length = l.length := by rw [hC, streamCross_length]
  rw [← hC] at hdrop
  have HC := Lib.hid hC
  have HCL := Lib.hid hcl
  have HD := Lib.hid hdrop
  have hdl : (l.drop k).length = l.length - k := List.length_drop
  have HDL := Lib.hid hdl
  clear hC hcl hdrop hv hv2 hv2' hN hr hkr hm hdl
  go_enter Tryd.func6, Tryd.ntmps6
  go_upto_region 1 with (fail)
  have hb1 := Blk.new W 26 (placeCells key nonce count)
  have hf1 := Fr.alloc W (.cells (placeCells key nonce count).toArray 26)
  obtain ⟨P, hP⟩ : ∃ P, P = W.heap.size := ⟨_, rfl⟩
  rw [← hP] at hb1 ⊢
  generalize W.alloc (.cells (placeCells key nonce count).toArray 26) = w2 at hb1 hf1 ⊢
  have HPB := Lib.hid (place_at hb1 hplen hnlen)
  have HF1 := Lib.hid hf1
  have HPE := Lib.hid hP
  clear hb1 hf1 hplen hnlen hk hn hc hP
  go_wp2_with fail
  refine (shown5_any _ (HS.out.non HF1.out)).mono ?_
  rintro e w3 ⟨rfl, hf3⟩
  have HF3 := Lib.hid (HF1.out.non hf3)
  have HP3 := Lib.hid (HPB.out.non hf3)
  have hcn := HP3.out.2.2
  clear hf3
  go_upto_region 3 with (fail)
  go_wp2_with ((with_reducible show wpList _ _ _ (({ op := .load _ _, .. } : Oper) :: _) _ _); first | (refine wpList_load_mid rfl 22 _ rfl P 0 rfl (bs key) _ HP3.out.1 huk rfl hik ?_) | (refine wpList_load_mid rfl 23 _ rfl P 32 rfl (bs nonce) _ HP3.out.2.1 hun rfl hin ?_))
  refine (crossS_any key nonce count v l w3 HK.out.1 HK.out.2.1 HK.out.2.2 (HV.out.non HF3.out) (by omega) (HS.out.non HF3.out)).mono ?_
  rintro e w4 ⟨O, rfl, hO, hb4, hf4⟩
  rw [← HC.out] at hb4
  have HF4 := Lib.hid (HF3.out.non hf4)
  have HP4 := Lib.hid (HP3.out.non hf4)
  have hrow := hb4.whole (by rw [HCL.out]; unfold maxLen; omega)
  rw [HCL.out] at hrow
  have HR4 := Lib.hid hrow
  have HV4 := Lib.hid (HV2.out.non HF4.out)
  have hS0 : (fun w' : World => w'.rangeAt P 0 (bs key) ∧ w'.rangeAt P 32 (bs nonce) ∧ w'.cell? ⟨P, 44, none⟩ = some (.int .u32 (count : Int))) w4.drew := HP4.out.non (Fr.drew _)
  clear hO hb4 hf4 hrow hcn HPB HP3 HF3
  go_upto_region 4 with (fail)
  refine wp_region_held_drew (S := fun w' => w'.rangeAt P 0 (bs key) ∧ w'.rangeAt P 32 (bs nonce) ∧ w'.cell? ⟨P, 44, none⟩ = some (.int .u32 (count : Int))) (by kernel_rfl) hS0 (fun hHeld => ?_)
  refine wpAnyH_takeL (i := 0) 28 (v := ?_) rfl rfl (by kernel_rfl) (by kernel_rfl) (by kernel_rfl) (fun _ _ _ h => h) (by assumption) (Or.inl ⟨by rfl, ?_⟩) ?_
  rotate_left
  · intro w hSw; go_simp; (try with_reducible rfl)
  simp only [List.set_cons_zero, List.set_cons_succ]
  refine wpAnyH_takeL (i := 1) 29 (v := .agg (bs key).toArray) rfl rfl (by kernel_rfl) (by kernel_rfl) (by kernel_rfl) (fun _ _ _ h => h) (by assumption) (yieldsIf_load_mid (by rfl) _ _ rfl P (0) rfl (bs key) _ (fun w h => h.1) huk rfl hik) ?_
  simp only [List.set_cons_zero, List.set_cons_succ]
  refine wpAnyH_takeL (i := 2) 30 (v := ?_) rfl rfl (by kernel_rfl) (by kernel_rfl) (by kernel_rfl) (fun _ _ _ h => h) (by assumption) (Or.inl ⟨by rfl, ?_⟩) ?_
  rotate_left
  · intro w hSw; go_simp; (try with_reducible rfl)
  simp only [List.set_cons_zero, List.set_cons_succ]
  refine wpAnyH_takeL (i := 3) 31 (v := .agg (bs nonce).toArray) rfl rfl (by kernel_rfl) (by kernel_rfl) (by kernel_rfl) (fun _ _ _ h => h) (by assumption) (yieldsIf_load_mid (by rfl) _ _ rfl P (32) rfl (bs nonce) _ (fun w h => h.2.1) hun rfl hin) ?_
  simp only [List.set_cons_zero, List.set_cons_succ]
  refine wpAnyH_takeL (i := 4) 32 (v := ?_) rfl rfl (by kernel_rfl) (by kernel_rfl) (by kernel_rfl) (fun _ _ _ h => h) (by assumption) (Or.inl ⟨by rfl, ?_⟩) ?_
  rotate_left
  · intro w hSw; go_simp; (try with_reducible rfl)
  simp only [List.set_cons_zero, List.set_cons_succ]
  refine wpAnyH_takeL (i := 5) 33 (v := ?_) rfl rfl (by kernel_rfl) (by kernel_rfl) (by kernel_rfl) (fun _ _ _ h => h) (by assumption) (Or.inl ⟨by rfl, ?_⟩) ?_
  rotate_left
  · intro w hSw; go_simp; (try with_reducible rfl)
  simp only [List.set_cons_zero, List.set_cons_succ]
  refine wpAnyH_takeL (i := 6) 34 (v := ?_) rfl rfl (by kernel_rfl) (by kernel_rfl) (by kernel_rfl) (fun _ _ _ h => h) (by assumption) (Or.inl ⟨by rfl, ?_⟩) ?_
  rotate_left
  · intro w hSw; go_simp; (try with_reducible rfl)
  simp only [List.set_cons_zero, List.set_cons_succ]
  refine wpAnyH_takeL (i := 7) 35 (v := ?_) rfl rfl (by kernel_rfl) (by kernel_rfl) (by kernel_rfl) (fun _ _ _ h => h) (by assumption) (Or.inl ⟨by rfl, ?_⟩) ?_
  rotate_left
  · intro w hSw; go_simp; (try with_reducible rfl)
  simp only [List.set_cons_zero, List.set_cons_succ]
  refine wpAnyH_takeL (i := 8) 36 (v := ?_) rfl rfl (by kernel_rfl) (by kernel_rfl) (by kernel_rfl) (fun _ _ _ h => h) (by assumption) (Or.inl ⟨by rfl, ?_⟩) ?_
  rotate_left
  · intro w hSw; go_simp; (try with_reducible rfl)
  simp only [List.set_cons_zero, List.set_cons_succ]
  refine wpAnyH_takeL (i := 9) 37 (v := ?_) rfl rfl (by kernel_rfl) (by kernel_rfl) (by kernel_rfl) (fun _ _ _ h => h) (by assumption) (Or.inl ⟨by rfl, ?_⟩) ?_
  rotate_left
  · intro w hSw; go_simp; (try with_reducible rfl)
  simp only [List.set_cons_zero, List.set_cons_succ]
  refine wpAnyH_takeL (i := 10) 38 (v := ?_) rfl rfl (by kernel_rfl) (by kernel_rfl) (by kernel_rfl) (fun _ _ _ h => h) (by assumption) (Or.inl ⟨by rfl, ?_⟩) ?_
  rotate_left
  · intro w hSw; go_simp; (try with_reducible rfl)
  simp only [List.set_cons_zero, List.set_cons_succ]
  refine wpAnyH_takeL (i := 11) 39 (v := ?_) rfl rfl (by kernel_rfl) (by kernel_rfl) (by kernel_rfl) (fun _ _ _ h => h) (by assumption) (Or.inl ⟨by rfl, ?_⟩) ?_
  rotate_left
  · intro w hSw; go_simp; (try with_reducible rfl)
  simp only [List.set_cons_zero, List.set_cons_succ]
  refine wpAnyH_takeL (i := 12) 40 (v := ?_) rfl rfl (by kernel_rfl) (by kernel_rfl) (by kernel_rfl) (fun _ _ _ h => h) (by assumption) (Or.inl ⟨by rfl, ?_⟩) ?_
  rotate_left
  · intro w hSw; go_simp; (try with_reducible rfl)
  simp only [List.set_cons_zero, List.set_cons_succ]
  refine wpAnyH_ready (rs := [13]) (by kernel_rfl) (by simp) ?_
  refine AllReadyH.cons (o := ⟨some 41, _, _, _, _, _⟩) rfl (fun K hK => ?_) (AllReadyH.nil)
  go_simp
  go_wp2_with (go_at_call 11; refine (crossS_any key nonce m v2 (l.drop k) _ HK.out.1 HK.out.2.1 hml (HV4.out.non (Fr.drew _)) (by rw [HDL.out]; omega) (HS.out.non (HF4.out.non (Fr.drew _)))).mono ?_; rintro e r2 ⟨O9, rfl, hO9, hb9, hf2⟩)
  rw [HD.out] at hb9
  have hcd : (C.drop k).length = l.length - k := by rw [List.length_drop, HCL.out]
  have hr9 := hb9.whole (by rw [hcd]; unfold maxLen; omega)
  rw [hcd] at hr9
  clear hb9 hO9 hcd
  have F2 : Hid (Fr Non w4.drew r2) := Lib.hid hf2
  clear hf2
  refine hK.out _ _ (HP4.out.non ((Fr.drew _).non F2.out)) (fun hHeld => ?_)
  clear hK K
  refine wpAnyH_takeL (i := 14) 10 (v := ?_) rfl rfl (by kernel_rfl) (by kernel_rfl) (by kernel_rfl) (fun _ _ _ h => h) (by assumption) (Or.inl ⟨by rfl, ?_⟩) ?_
  rotate_left
  · intro w hSw; go_simp; (try with_reducible rfl)
  simp only [List.set_cons_zero, List.set_cons_succ]
  refine wpAnyH_done (by kernel_rfl) ?_ _
  have hrx := HR4.out.non ((Fr.drew _).non F2.out)
  have hfx := HF4.out.non ((Fr.drew _).non F2.out)
  generalize hw5 : r2 = w5 at hr9 hrx hfx
  have HR9 := Lib.hid hr9
  have HRX := Lib.hid hrx
  have HF5 := Lib.hid hfx
  clear hw5 hr9 hrx hfx hHeld hS0
  obtain ⟨v3, rs3, hv3, -⟩ := run_subLo (P := Tryd.prog) HRX.out 31 5 Tryd.underlying31 (by kernel_rfl) .i64 k k rfl (by rw [bs_length, HCL.out]; exact hkl)
  have hv3' : Row w5 v3 (bs (C.drop k)) := by simpa [bs, List.map_drop] using hv3
  have HV3 := Lib.hid hv3'
  clear hv3 hv3' rs2
  generalize C.drop k = A at HR9 HV3
  have hS1 : (fun w' : World => Row w' v3 (bs A) ∧ Row w' (.slice (some ⟨O9, 0, none⟩) (l.length - k) (l.length - k)) (bs A)) w5.drew := ⟨HV3.out.non (Fr.drew _), HR9.out.non (Fr.drew _)⟩
  go_upto_region 5 with (fail)
  refine wp_region_held_drew (S := fun w' => Row w' v3 (bs A) ∧ Row w' (.slice (some ⟨O9, 0, none⟩) (l.length - k) (l.length - k)) (bs A)) (by kernel_rfl) hS1 (fun hHeld => ?_)
  refine wpAnyH_takeL (i := 0) 42 (v := ?_) rfl rfl (by kernel_rfl) (by kernel_rfl) (by kernel_rfl) (fun _ _ _ h => h) (by assumption) (Or.inl ⟨by rfl, ?_⟩) ?_
  rotate_left
  · intro w hSw; go_simp; (try with_reducible rfl)
  simp only [List.set_cons_zero, List.set_cons_succ]
  refine wpAnyH_takeL (i := 1) 43 (v := ?_) rfl rfl (by kernel_rfl) (by kernel_rfl) (by kernel_rfl) (fun _ _ _ h => h) (by assumption) (Or.inl ⟨by rfl, ?_⟩) ?_
  rotate_left
  · intro w hSw; go_simp; (try with_reducible rfl)
  simp only [List.set_cons_zero, List.set_cons_succ]
  refine wpAnyH_takeL (i := 2) 44 (v := ?_) rfl rfl (by kernel_rfl) (by kernel_rfl) (by kernel_rfl) (fun _ _ _ h => h) (by assumption) (Or.inl ⟨by rfl, ?_⟩) ?_
  rotate_left
  · intro w hSw; go_simp; (try with_reducible rfl)
  simp only [List.set_cons_zero, List.set_cons_succ]
  refine wpAnyH_takeL (i := 3) 45 (v := ?_) rfl rfl (by kernel_rfl) (by kernel_rfl) (by kernel_rfl) (fun _ _ _ h => h) (by assumption) (Or.inl ⟨by rfl, ?_⟩) ?_
  rotate_left
  · intro w hSw; go_simp; (try with_reducible rfl)
  simp only [List.set_cons_zero, List.set_cons_succ]
  refine wpAnyH_takeL (i := 4) 46 (v := ?_) rfl rfl (by kernel_rfl) (by kernel_rfl) (by kernel_rfl) (fun _ _ _ h => h) (by assumption) (Or.inl ⟨by rfl, ?_⟩) ?_
  rotate_left
  · intro w hSw; go_simp; (try with_reducible rfl)
  simp only [List.set_cons_zero, List.set_cons_succ]
  refine wpAnyH_takeL (i := 5) 47 (v := ?_) rfl rfl (by kernel_rfl) (by kernel_rfl) (by kernel_rfl) (fun _ _ _ h => h) (by assumption) (Or.inl ⟨by rfl, ?_⟩) ?_
  rotate_left
  · intro w hSw; go_simp; (try with_reducible rfl)
  simp only [List.set_cons_zero, List.set_cons_succ]
  refine wpAnyH_takeL (i := 6) 48 (v := ?_) rfl rfl (by kernel_rfl) (by kernel_rfl) (by kernel_rfl) (fun _ _ _ h => h) (by assumption) (Or.inl ⟨by rfl, ?_⟩) ?_
  rotate_left
  · intro w hSw; go_simp; (try with_reducible rfl)
  simp only [List.set_cons_zero, List.set_cons_succ]
  refine wpAnyH_takeL (i := 7) 49 (v := ?_) rfl rfl (by kernel_rfl) (by kernel_rfl) (by kernel_rfl) (fun _ _ _ h => h) (by assumption) (Or.inl ⟨by rfl, ?_⟩) ?_
  rotate_left
  · intro w hSw; go_simp; (try with_reducible rfl)
  simp only [List.set_cons_zero, List.set_cons_succ]
  refine wpAnyH_takeL (i := 8) 50 (v := ?_) rfl rfl (by kernel_rfl) (by kernel_rfl) (by kernel_rfl) (fun _ _ _ h => h) (by assumption) (Or.inl ⟨by rfl, ?_⟩) ?_
  rotate_left
  · intro w hSw; go_simp; (try with_reducible rfl)
  simp only [List.set_cons_zero, List.set_cons_succ]
  refine wpAnyH_takeL (i := 9) 51 (v := ?_) rfl rfl (by kernel_rfl) (by kernel_rfl) (by kernel_rfl) (fun _ _ _ h => h) (by assumption) (Or.inl ⟨by rfl, ?_⟩) ?_
  rotate_left
  · intro w hSw; go_simp; (try with_reducible rfl)
  simp only [List.set_cons_zero, List.set_cons_succ]
  refine wpAnyH_takeL (i := 10) 52 (v := ?_) rfl rfl (by kernel_rfl) (by kernel_rfl) (by kernel_rfl) (fun _ _ _ h => h) (by assumption) (Or.inl ⟨by rfl, ?_⟩) ?_
  rotate_left
  · intro w hSw; go_simp; (try with_reducible rfl)
  simp only [List.set_cons_zero, List.set_cons_succ]
  refine wpAnyH_takeL (i := 11) 53 (v := ?_) rfl rfl (by kernel_rfl) (by kernel_rfl) (by kernel_rfl) (fun _ _ _ h => h) (by assumption) (Or.inl ⟨by rfl, ?_⟩) ?_
  rotate_left
  · intro w hSw; go_simp; (try with_reducible rfl)
  simp only [List.set_cons_zero, List.set_cons_succ]
  refine wpAnyH_takeL (i := 12) 54 (v := .string ⟨A.toArray⟩) rfl rfl (by kernel_rfl) (by kernel_rfl) (by kernel_rfl) (fun _ _ _ h => h) (by assumption) (Or.inl ⟨by rfl, ?_⟩) ?_
  · intro w hSw; have hx := run_str (P := Tryd.prog) w 31 9 5 _ _ hSw.1 Tryd.underlying31 Tryd.underlying5 Tryd.underlying9; go_simp
  simp only [List.set_cons_zero, List.set_cons_succ]
  refine wpAnyH_takeL (i := 13) 55 (v := ?_) rfl rfl (by kernel_rfl) (by kernel_rfl) (by kernel_rfl) (fun _ _ _ h => h) (by assumption) (Or.inl ⟨by rfl, ?_⟩) ?_
  rotate_left
  · intro w hSw; go_simp; (try with_reducible rfl)
  simp only [List.set_cons_zero, List.set_cons_succ]
  refine wpAnyH_takeL (i := 14) 56 (v := .string ⟨A.toArray⟩) rfl rfl (by kernel_rfl) (by kernel_rfl) (by kernel_rfl) (fun _ _ _ h => h) (by assumption) (Or.inl ⟨by rfl, ?_⟩) ?_
  · intro w hSw; have hx := run_str (P := Tryd.prog) w 31 9 5 _ _ hSw.2 Tryd.underlying31 Tryd.underlying5 Tryd.underlying9; go_simp
  simp only [List.set_cons_zero, List.set_cons_succ]
  refine wpAnyH_takeL (i := 15) 57 (v := ?_) rfl rfl (by kernel_rfl) (by kernel_rfl) (by kernel_rfl) (fun _ _ _ h => h) (by assumption) (Or.inl ⟨by rfl, ?_⟩) ?_
  rotate_left
  · intro w hSw; go_simp; (try with_reducible rfl)
  simp only [List.set_cons_zero, List.set_cons_succ]
  refine wpAnyH_takeL (i := 16) 58 (v := ?_) rfl rfl (by kernel_rfl) (by kernel_rfl) (by kernel_rfl) (fun _ _ _ h => h) (by assumption) (Or.inl ⟨by rfl, ?_⟩) ?_
  rotate_left
  · intro w hSw; go_simp; (try with_reducible rfl)
  simp only [List.set_cons_zero, List.set_cons_succ]
  refine wpAnyH_takeL (i := 17) 6 (v := ?_) rfl rfl (by kernel_rfl) (by kernel_rfl) (by kernel_rfl) (fun _ _ _ h => h) (by assumption) (Or.inl ⟨by rfl, ?_⟩) ?_
  rotate_left
  · intro w hSw; go_simp; (try with_reducible rfl)
  simp only [List.set_cons_zero, List.set_cons_succ]
  refine wpAnyH_done (by kernel_rfl) ?_ _
  go_wp2_with fail
  go_ret
  exact ⟨rfl, HF5.out.non (Fr.drew _)⟩
end Go.Proofs.YtcooibfnnjgjkaaDoor
