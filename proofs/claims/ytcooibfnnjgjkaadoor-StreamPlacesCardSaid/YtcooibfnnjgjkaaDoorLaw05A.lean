/- layer 5: the document's example (the head of all statements) -/
import Derived.Test.YtcooibfnnjgjkaaDoorStreamOpG
import Derived.Test.YtcooibfnnjgjkaaDoorLaid
import Derived.Test.YtcooibfnnjgjkaaDoorParts
namespace Go.Proofs.YtcooibfnnjgjkaaDoor
open Go.ChangeShapes Go.WideShapes Go.ChangeAt Go.RowKit

theorem start_of {W : World} {g : Nat} (h : ∀ (i : Nat) (z : Int), (streamStart.map fun n : Nat => (n : Int))[i]? = some z → W.cell? ⟨g, i, none⟩ = some (.int .u32 z)) : StartAt W g := by
  intro i hi
  have hl : i < streamStart.length := hi
  refine h i _ ?_
  rw [List.getElem?_map, List.getElem?_eq_getElem hl, getElem!_pos streamStart i hl]
  rfl
theorem start_5 {W : World} (h : laidMetH Tryd.prog Rows.streamBlocksRow.laid W) : StartAt W 0 := by
  obtain ⟨ps, h, -⟩ := h
  obtain ⟨-, f1⟩ := laid_cons h
  refine start_of ?_
  exact f1 (t := 43) (n := 4) (zs := streamStart.map fun n : Nat => (n : Int)) rfl (by kernel_rfl) (by kernel_rfl) (by kernel_rfl) Tryd.underlying24 (by kernel_rfl)

def keyTo (k : Nat) : List UInt8 := (List.range k).map UInt8.ofNat ++ List.replicate (32 - k) 0
theorem keyTo_length (k : Nat) (h : k ≤ 32) : (keyTo k).length = 32 := by simp [keyTo]; omega
theorem keyTo_set (k : Nat) (h : k < 32) : (keyTo k).set k (UInt8.ofNat k) = keyTo (k + 1) := by
  unfold keyTo
  rw [show 32 - k = (32 - (k + 1)) + 1 by omega, List.replicate_succ, List.set_append_right _ _ (by simp), List.length_map, List.length_range, Nat.sub_self, List.set_cons_zero, List.range_succ, List.map_append, List.append_assoc]
  rfl
def shownNonce : List UInt8 := [0, 0, 0, 9, 0, 0, 0, 74, 0, 0, 0, 0]
theorem shown8 : (streamBlock (keyTo 32) shownNonce 1).take 8 = [16, 241, 231, 228, 209, 59, 89, 21] := by kernel_rfl
theorem built_nonce : Tryd.prog.built 23 [(3, .int .u8 9), (7, .int .u8 74)] = some (bs shownNonce).toArray := by kernel_rfl
/-- an array in memory reads from its beginning -/
theorem row_take {w : World} {X t : Nat} {D : List UInt8} (h : Blk w X t (bs D)) (hD : D.length = 64) (k : Nat) (hk : k ≤ 64) : Row w (.slice (some ⟨X, 0, none⟩) k 64) (bs (D.take k)) := by
  have hl2 : (bs (D.take k)).length = k := by rw [bs_length, List.length_take, hD]; omega
  have h := h.row 0 64 (bs (D.take k)) (by rw [hl2]; exact hk) (by unfold maxLen; omega) (fun j v hj => by
    rw [Nat.zero_add]
    simp only [bs, List.map_take] at hj ⊢
    rw [List.getElem?_take] at hj
    split at hj
    · exact hj
    · cases hj)
  rw [hl2] at h
  exact h

set_option maxRecDepth 100000 in
set_option maxHeartbeats 1000000 in
theorem shown5_any (w : World) (hS : StartAt w 0) : Calls Tryd.prog 8 #[] w fun e w' => e = .returned (.bool true) ∧ Fr Non w w' := by
  have HS := Lib.hid hS
  have hzv : ∀ w, (zeroValue 28).run Tryd.prog w = .ok (.agg (bs (List.replicate 64 0)).toArray) w := fun _ => by kernel_rfl
  have HZV := Lib.hid hzv
  have hif : (Tryd.prog.info? 28).map (·.size) = some 64 := by kernel_rfl
  have HIF := Lib.hid hif
  have hik : (Tryd.prog.info? 22).map (·.size) = some (bs (keyTo 32)).length := by kernel_rfl
  have HIK := Lib.hid hik
  clear hS hzv hif hik
  go_enter Tryd.func8, Tryd.ntmps8
  go_wp2_with fail
  have hb1 : Blk (w.alloc (.cells #[.int .u8 0, .int .u8 0, .int .u8 0, .int .u8 0, .int .u8 0, .int .u8 0, .int .u8 0, .int .u8 0, .int .u8 0, .int .u8 0, .int .u8 0, .int .u8 0, .int .u8 0, .int .u8 0, .int .u8 0, .int .u8 0, .int .u8 0, .int .u8 0, .int .u8 0, .int .u8 0, .int .u8 0, .int .u8 0, .int .u8 0, .int .u8 0, .int .u8 0, .int .u8 0, .int .u8 0, .int .u8 0, .int .u8 0, .int .u8 0, .int .u8 0, .int .u8 0] 22)) w.heap.size 22 (bs (keyTo 0)) := Blk.new w _ _
  have hf1 := Fr.alloc w (.cells #[.int .u8 0, .int .u8 0, .int .u8 0, .int .u8 0, .int .u8 0, .int .u8 0, .int .u8 0, .int .u8 0, .int .u8 0, .int .u8 0, .int .u8 0, .int .u8 0, .int .u8 0, .int .u8 0, .int .u8 0, .int .u8 0, .int .u8 0, .int .u8 0, .int .u8 0, .int .u8 0, .int .u8 0, .int .u8 0, .int .u8 0, .int .u8 0, .int .u8 0, .int .u8 0, .int .u8 0, .int .u8 0, .int .u8 0, .int .u8 0, .int .u8 0, .int .u8 0] 22)
  generalize w.alloc (.cells #[.int .u8 0, .int .u8 0, .int .u8 0, .int .u8 0, .int .u8 0, .int .u8 0, .int .u8 0, .int .u8 0, .int .u8 0, .int .u8 0, .int .u8 0, .int .u8 0, .int .u8 0, .int .u8 0, .int .u8 0, .int .u8 0, .int .u8 0, .int .u8 0, .int .u8 0, .int .u8 0, .int .u8 0, .int .u8 0, .int .u8 0, .int .u8 0, .int .u8 0, .int .u8 0, .int .u8 0, .int .u8 0, .int .u8 0, .int .u8 0, .int .u8 0, .int .u8 0] 22) = w1 at hb1 hf1 ⊢
  obtain ⟨K, hK⟩ : ∃ K, K = w.heap.size := ⟨_, rfl⟩
  rw [← hK] at hb1 ⊢
  have HK := Lib.hid hK
  have HB1 := Lib.hid hb1
  have HF1 := Lib.hid hf1
  clear hK hb1 hf1
  go_loopw [4] (fun i wr => ∃ k : Nat, k ≤ 32 ∧ i = .int .i64 k ∧ Blk wr K 22 (bs (keyTo k)) ∧ Fr (One K) w1 wr) (fun i _ => 32 - (intOf i).toNat)
  case atStart => exact ⟨0, by omega, rfl, HB1.out, Fr.refl _ _⟩
  case round =>
    obtain ⟨k, hk, rfl, hbx, hfx⟩ := hrel
    have HBX := Lib.hid hbx
    have HFX := Lib.hid hfx
    clear hbx hfx
    by_cases hlt : k < 32
    · have z1 : (k : Int) < 32 := by omega
      obtain ⟨old, cu, fz⟩ := HBX.out.has k (by rw [bs_length, keyTo_length k (by omega)]; exact hlt)
      have hst := HBX.out.set k (.int .u8 ((UInt8.ofNat k).toNat : Int))
      rw [bs_set, keyTo_set k hlt] at hst
      have hu : ((UInt8.ofNat k).toNat : Int) = (k : Int) := by rw [UInt8.toNat_ofNat']; omega
      rw [hu] at hst
      have HST := Lib.hid hst
      clear hst hu
      go_wp2
      go_roundw
      case rel => exact ⟨k + 1, by omega, by go_num, HST.out, HFX.out.trans (Fr.setCell wr ⟨K, k, none⟩ _) (fun _ h => h) (fun _ h => .inl h)⟩
      case measure => simp [intOf]; omega
    · obtain rfl : k = 32 := by omega
      have HF2 := Lib.hid (HF1.out.new HFX.out (fun i h => by have h1 : i = K := h; have := HK.out; omega))
      go_upto_region 7 with (fail)
      refine wp_region_lit ?_
      refine wpList_load_mid rfl _ _ rfl K 0 rfl (bs (keyTo 32)) _ (HBX.out.range 0 _ (fun j v hv => by simpa using hv)) Tryd.underlying22 rfl HIK.out ?_
      simp only [Act.put, List.setIfInBounds_toArray, List.set_cons_succ, List.set_cons_zero]
      refine wpList_build_as rfl 23 [(3, .const (.int .u8 9)), (7, .const (.int .u8 74))] rfl _ _ built_nonce rfl ?_
      go_wp2_with fail
      refine (block_any (keyTo 32) shownNonce 1 _ rfl rfl (by omega) (HS.out.non HF2.out)).mono ?_
      rintro e w4 ⟨rfl, hf4⟩
      have HD : Hid ((streamBlock (keyTo 32) shownNonce 1).length = 64 ∧ (streamBlock (keyTo 32) shownNonce 1).take 8 = [16, 241, 231, 228, 209, 59, 89, 21]) := Lib.hid ⟨streamBlock_length _ _ _, shown8⟩
      generalize streamBlock (keyTo 32) shownNonce 1 = D at HD
      have HF4 := Lib.hid (HF2.out.non hf4)
      clear hf4 HF2 HBX HFX HF1 HB1
      go_upto_region 8 with ((with_reducible show wpList _ _ _ (({ op := .alloc _, .. } : Oper) :: _) _ _); refine wpList_var rfl rfl 28 3 (.tmp 14) rfl rfl rfl rfl _ (bs D) HZV.out (by rw [bs_length, bs_length, HD.out.1]; rfl) (by rw [bs_length, HD.out.1]; exact HIF.out) (bs_one _) (by simp) (fun _ => rfl) ?_; intro w5 hb5 hf5 hs5; clear hs5; simp only [List.set_cons_succ, List.set_cons_zero])
      obtain ⟨X, hX⟩ : ∃ X, X = w4.heap.size := ⟨_, rfl⟩
      rw [← hX] at hb5 ⊢
      have HF5 := Lib.hid (HF4.out.non hf5)
      have hr8 := row_take hb5 HD.out.1 8 (by omega)
      rw [HD.out.2] at hr8
      have hsl := run_arrHi (P := Tryd.prog) Tryd.underlying28 (by kernel_rfl) X 0 .i64 8 8 rfl (by omega)
      have hx1 := run_str (P := Tryd.prog) w5 31 9 5 _ _ hr8 Tryd.underlying31 Tryd.underlying5 Tryd.underlying9
      clear hr8 hb5 hf5 hX HD
      go_wp2_with fail
      go_ret
      exact ⟨rfl, HF5.out⟩
end Go.Proofs.YtcooibfnnjgjkaaDoor
