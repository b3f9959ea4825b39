/- layer 5: bytes crossed -/
import Derived.Test.YtcooibfnnjgjkaaDoorLaw05B
namespace Go.Proofs.YtcooibfnnjgjkaaDoor
open Go.ChangeShapes Go.WideShapes Go.ChangeAt Go.RowKit

set_option maxRecDepth 100000 in
set_option maxHeartbeats 4000000 in
/-- P5.2 -/
theorem crosses5_any (W : World) (key nonce : List UInt8) (count : Nat) (v : Value) (l : List UInt8) (hL : laidMetH Tryd.prog Rows.streamCrossesRow.laid W) (hk : key.length = 32) (hn : nonce.length = 12) (hc : count < 4294967296) (hv : Row W v (bs l)) (hl : l.length ≤ 140737488351232) :
    Calls Tryd.prog 4 #[.agg (placeCells key nonce count).toArray, v] W fun e W' => e = .returned (.bool true) ∧ Fr Non W W' := by
  have HS := Lib.hid (start_5 hL)
  have HV := Lib.hid hv
  clear hL hv
  have hplen : (bs key).length = 32 := by rw [bs_length, hk]
  have hnlen : (bs nonce).length = 12 := by rw [bs_length, hn]
  have HK := Lib.hid (And.intro hk (And.intro hn hc))
  have hik : (Tryd.prog.info? 22).map (·.size) = some (bs key).length := by rw [hplen]; kernel_rfl
  have hin : (Tryd.prog.info? 23).map (·.size) = some (bs nonce).length := by rw [hnlen]; kernel_rfl
  have huk := Tryd.underlying22
  have hun := Tryd.underlying23
  obtain ⟨C, hC⟩ : ∃ C, C = streamCross key nonce count l := ⟨_, rfl⟩
  have hcl : C.length = l.length := by rw [hC, streamCross_length]
  have HC := Lib.hid hC
  have HCL := Lib.hid hcl
  clear hC hcl
  go_enter Tryd.func4, Tryd.ntmps4
  go_upto_region 1 with (fail)
  have hb1 := Blk.new W 26 (placeCells key nonce count)
  have hf1 := Fr.alloc W (.cells (placeCells key nonce count).toArray 26)
  obtain ⟨P, hP⟩ : ∃ P, P = W.heap.size := ⟨_, rfl⟩
  rw [← hP] at hb1 ⊢
  generalize W.alloc (.cells (placeCells key nonce count).toArray 26) = w2 at hb1 hf1 ⊢
  have HPB := Lib.hid (place_at hb1 hplen hnlen)
  have HF1 := Lib.hid hf1
  have HPE := Lib.hid hP
  clear hb1 hf1 hplen hnlen hk hn hc hP
  go_wp2_with fail
  refine (shown5_any _ (HS.out.non HF1.out)).mono ?_
  rintro e w3 ⟨rfl, hf3⟩
  have HF3 := Lib.hid (HF1.out.non hf3)
  have HP3 := Lib.hid (HPB.out.non hf3)
  have hstr := run_str (P := Tryd.prog) w3 31 9 5 _ _ (HV.out.non HF3.out) Tryd.underlying31 Tryd.underlying5 Tryd.underlying9
  have hcn := HP3.out.2.2
  clear hf3
  go_upto_region 3 with (fail)
  go_wp2_with ((with_reducible show wpList _ _ _ (({ op := .load _ _, .. } : Oper) :: _) _ _); first | (refine wpList_load_mid rfl 22 _ rfl P 0 rfl (bs key) _ HP3.out.1 huk rfl hik ?_) | (refine wpList_load_mid rfl 23 _ rfl P 32 rfl (bs nonce) _ HP3.out.2.1 hun rfl hin ?_))
  refine (crossS_any key nonce count v l w3 HK.out.1 HK.out.2.1 HK.out.2.2 (HV.out.non HF3.out) (by omega) (HS.out.non HF3.out)).mono ?_
  rintro e w4 ⟨O, rfl, hO, hb4, hf4⟩
  rw [← HC.out] at hb4
  have HF4 := Lib.hid (HF3.out.non hf4)
  have HP4 := Lib.hid (HP3.out.non hf4)
  have hrow : Row w4 (.slice (some ⟨O, 0, none⟩) l.length l.length) (bs C) := by
    have h := hb4.row 0 l.length (bs C) (by rw [bs_length, HCL.out]; exact Nat.le_refl _) (by unfold maxLen; omega) (fun j v hj => by rw [Nat.zero_add]; exact hj)
    rwa [bs_length, HCL.out] at h
  have HOW : Hid (W.heap.size ≤ O) := Lib.hid (Nat.le_trans HF3.out.size hO)
  have HB4 := Lib.hid hb4
  have HR4 := Lib.hid hrow
  have hS0 : (fun w' : World => w'.rangeAt P 0 (bs key) ∧ w'.rangeAt P 32 (bs nonce) ∧ w'.cell? ⟨P, 44, none⟩ = some (.int .u32 (count : Int)) ∧ Row w' (.slice (some ⟨O, 0, none⟩) l.length l.length) (bs C)) w4.drew := ⟨(HP4.out.non (Fr.drew _)).1, (HP4.out.non (Fr.drew _)).2.1, (HP4.out.non (Fr.drew _)).2.2, HR4.out.non (Fr.drew _)⟩
  clear hO hb4 hf4 hrow hstr hcn HF3 HP3
  go_upto_region 4 with (fail)
  refine wp_region_held_drew (S := fun w' => w'.rangeAt P 0 (bs key) ∧ w'.rangeAt P 32 (bs nonce) ∧ w'.cell? ⟨P, 44, none⟩ = some (.int .u32 (count : Int)) ∧ Row w' (.slice (some ⟨O, 0, none⟩) l.length l.length) (bs C)) (by kernel_rfl) hS0 (fun hHeld => ?_)
  refine wpAnyH_takeL (i := 0) 21 (v := ?_) rfl rfl (by kernel_rfl) (by kernel_rfl) (by kernel_rfl) (fun _ _ _ h => h) (by assumption) (Or.inl ⟨by rfl, ?_⟩) ?_
  rotate_left
  · intro w hSw; go_simp; (try with_reducible rfl)
  simp only [List.set_cons_zero, List.set_cons_succ]
  refine wpAnyH_takeL (i := 1) 22 (v := .string ⟨C.toArray⟩) rfl rfl (by kernel_rfl) (by kernel_rfl) (by kernel_rfl) (fun _ _ _ h => h) (by assumption) (Or.inl ⟨by rfl, ?_⟩) ?_
  · intro w hSw; have hx := run_str (P := Tryd.prog) w 31 9 5 _ _ hSw.2.2.2 Tryd.underlying31 Tryd.underlying5 Tryd.underlying9; go_simp
  simp only [List.set_cons_zero, List.set_cons_succ]
  refine wpAnyH_takeL (i := 2) 23 (v := ?_) rfl rfl (by kernel_rfl) (by kernel_rfl) (by kernel_rfl) (fun _ _ _ h => h) (by assumption) (Or.inl ⟨by rfl, ?_⟩) ?_
  rotate_left
  · intro w hSw; go_simp; (try with_reducible rfl)
  simp only [List.set_cons_zero, List.set_cons_succ]
  refine wpAnyH_takeL (i := 3) 24 (v := .agg (bs key).toArray) rfl rfl (by kernel_rfl) (by kernel_rfl) (by kernel_rfl) (fun _ _ _ h => h) (by assumption) (yieldsIf_load_mid (by rfl) _ _ rfl P (0) rfl (bs key) _ (fun w h => h.1) huk rfl hik) ?_
  simp only [List.set_cons_zero, List.set_cons_succ]
  refine wpAnyH_takeL (i := 4) 25 (v := ?_) rfl rfl (by kernel_rfl) (by kernel_rfl) (by kernel_rfl) (fun _ _ _ h => h) (by assumption) (Or.inl ⟨by rfl, ?_⟩) ?_
  rotate_left
  · intro w hSw; go_simp; (try with_reducible rfl)
  simp only [List.set_cons_zero, List.set_cons_succ]
  refine wpAnyH_takeL (i := 5) 26 (v := .agg (bs nonce).toArray) rfl rfl (by kernel_rfl) (by kernel_rfl) (by kernel_rfl) (fun _ _ _ h => h) (by assumption) (yieldsIf_load_mid (by rfl) _ _ rfl P (32) rfl (bs nonce) _ (fun w h => h.2.1) hun rfl hin) ?_
  simp only [List.set_cons_zero, List.set_cons_succ]
  refine wpAnyH_takeL (i := 6) 27 (v := ?_) rfl rfl (by kernel_rfl) (by kernel_rfl) (by kernel_rfl) (fun _ _ _ h => h) (by assumption) (Or.inl ⟨by rfl, ?_⟩) ?_
  rotate_left
  · intro w hSw; go_simp; (try with_reducible rfl)
  simp only [List.set_cons_zero, List.set_cons_succ]
  refine wpAnyH_takeL (i := 7) 28 (v := ?_) rfl rfl (by kernel_rfl) (by kernel_rfl) (by kernel_rfl) (fun _ _ _ h => h) (by assumption) (Or.inl ⟨by rfl, ?_⟩) ?_
  rotate_left
  · intro w hSw; go_simp; (try with_reducible rfl)
  simp only [List.set_cons_zero, List.set_cons_succ]
  refine wpAnyH_takeL (i := 8) 29 (v := ?_) rfl rfl (by kernel_rfl) (by kernel_rfl) (by kernel_rfl) (fun _ _ _ h => h) (by assumption) (Or.inl ⟨by rfl, ?_⟩) ?_
  rotate_left
  · intro w hSw; go_simp; (try with_reducible rfl)
  simp only [List.set_cons_zero, List.set_cons_succ]
  refine wpAnyH_ready (rs := [9]) (by kernel_rfl) (by simp) ?_
  refine AllReadyH.cons (o := ⟨some 30, _, _, _, _, _⟩) rfl (fun K hK => ?_) (AllReadyH.nil)
  go_simp
  go_wp2_with (go_at_call 12; refine (crossL_any key nonce count v l _ HK.out.1 HK.out.2.1 HK.out.2.2 (HV.out.non (HF4.out.non (Fr.drew _))) hl).mono ?_; rintro e r2 ⟨v9, rfl, ho9, hf2⟩)
  rw [← HC.out] at ho9
  have hr9 := ho9.row
  clear ho9
  have F2 : Hid (Fr Non w4.drew r2) := Lib.hid hf2
  clear hf2
  refine hK.out _ _ (⟨(HP4.out.non ((Fr.drew _).non F2.out)).1, (HP4.out.non ((Fr.drew _).non F2.out)).2.1, (HP4.out.non ((Fr.drew _).non F2.out)).2.2, HR4.out.non ((Fr.drew _).non F2.out)⟩) (fun hHeld => ?_)
  clear hK K
  refine wpAnyH_ready (rs := [10]) (by kernel_rfl) (by simp) ?_
  refine AllReadyH.cons (o := ⟨some 31, _, _, _, _, _⟩) rfl (fun K hK => ?_) (AllReadyH.nil)
  have hxs := run_str (P := Tryd.prog) r2 31 9 5 _ _ hr9 Tryd.underlying31 Tryd.underlying5 Tryd.underlying9
  go_simp
  refine hK.out _ _ (⟨(HP4.out.non ((Fr.drew _).non F2.out)).1, (HP4.out.non ((Fr.drew _).non F2.out)).2.1, (HP4.out.non ((Fr.drew _).non F2.out)).2.2, HR4.out.non ((Fr.drew _).non F2.out)⟩) (fun hHeld => ?_)
  clear hK K
  refine wpAnyH_takeL (i := 11) 32 (v := ?_) rfl rfl (by kernel_rfl) (by kernel_rfl) (by kernel_rfl) (fun _ _ _ h => h) (by assumption) (Or.inl ⟨by rfl, ?_⟩) ?_
  rotate_left
  · intro w hSw; go_simp; (try with_reducible rfl)
  simp only [List.set_cons_zero, List.set_cons_succ]
  refine wpAnyH_takeL (i := 12) 8 (v := ?_) rfl rfl (by kernel_rfl) (by kernel_rfl) (by kernel_rfl) (fun _ _ _ h => h) (by assumption) (Or.inl ⟨by rfl, ?_⟩) ?_
  rotate_left
  · intro w hSw; go_simp; (try with_reducible rfl)
  simp only [List.set_cons_zero, List.set_cons_succ]
  refine wpAnyH_done (by kernel_rfl) ?_ _
  generalize hw5 : r2 = w5
  have HF5 : Hid (Fr Non W w5) := Lib.hid (by rw [← hw5]; exact HF4.out.non ((Fr.drew _).non F2.out))
  have HB5 : Hid (Blk w5 O 5 (bs C)) := Lib.hid (by rw [← hw5]; exact HB4.out.non ((Fr.drew _).non F2.out))
  clear hw5
  clear hr9 hxs hHeld hS0 HP4 HR4 HB4 HF4 HPB
  go_wp2_with fail
  go_loopw [35] (fun i wr => ∃ (k : Nat) (L : List UInt8), k ≤ l.length ∧ i = .int .i64 k ∧ L.length = l.length ∧ Blk wr O 5 (bs L) ∧ Fr (One O) w5 wr) (fun i _ => l.length - (intOf i).toNat)
  case atStart => exact ⟨0, C, by omega, rfl, HCL.out, HB5.out, Fr.refl _ _⟩
  case round =>
    obtain ⟨k, L, hk, rfl, hLl, hbx, hfx⟩ := hrel
    have HBX := Lib.hid hbx
    have HFX := Lib.hid hfx
    have HLL := Lib.hid hLl
    clear hbx hfx hLl
    by_cases hlt : k < l.length
    · have z0 : (0 : Int) ≤ (k : Int) := by omega
      have z1 : (k : Int) < (l.length : Int) := by omega
      obtain ⟨cx, fx⟩ := HBX.out.at k _ (bs_at? L k (by rw [HLL.out]; exact hlt))
      have hxx := u8xor L[k]! 85
      have g := L[k]!.toNat_lt
      generalize L[k]! = x at cx hxx g
      have h85 : ((85 : UInt8).toNat : Int) = 85 := rfl
      rw [h85] at hxx
      clear h85
      go_wp2
      go_roundw
      case rel => exact ⟨k + 1, L.set k (x ^^^ 85), by omega, by go_num, by rw [List.length_set]; exact HLL.out, by have h := HBX.out.set k (.int .u8 ((x ^^^ 85).toNat : Int)); rw [bs_set] at h; exact h, HFX.out.trans (Fr.setCell wr ⟨O, k, none⟩ _) (fun _ h => h) (fun _ h => .inl h)⟩
      case measure => simp [intOf]; omega
    · obtain rfl : k = l.length := by omega
      have HFF := Lib.hid (HF5.out.new HFX.out (fun i h => by have h1 : i = O := h; have := HOW.out; omega))
      have hstr := run_str (P := Tryd.prog) wr 31 9 5 _ _ (HV.out.non HFF.out) Tryd.underlying31 Tryd.underlying5 Tryd.underlying9
      clear HBX HFX
      go_wp2_with fail
      go_ret
      exact ⟨rfl, HFF.out⟩
end Go.Proofs.YtcooibfnnjgjkaaDoor
