/- package stream: words as bytes; a block -/
import Derived.Test.YtcooibfnnjgjkaaDoorStreamOpD
namespace Go.Proofs.YtcooibfnnjgjkaaDoor
open Go.ChangeShapes Go.WideShapes Go.ChangeAt Go.RowKit

theorem bytes_set (y : List Nat) (n k : Nat) (h : k < n) : (wordBytes y k ++ List.replicate (n - k) 0).set k (wordByte y k) = wordBytes y (k + 1) ++ List.replicate (n - (k + 1)) 0 := by
  rw [show n - k = (n - (k + 1)) + 1 by omega, List.replicate_succ, List.set_append_right _ _ (by rw [wordBytes_length]; exact Nat.le_refl _), wordBytes_length, Nat.sub_self, List.set_cons_zero, wordBytes, List.append_assoc]
  rfl
theorem wordByte_int (y : List Nat) (k x : Nat) (h : y[k / 4]! = x) : (x : Int) / 2 ^ (8 * (k % 4)) % 256 = ((wordByte y k).toNat : Int) := by
  rw [wordByte_nat, h, Int.natCast_emod, Int.natCast_ediv, Int.natCast_pow]
  rfl
set_option maxRecDepth 100000 in
set_option maxHeartbeats 4000000 in
theorem laidS_any (y : List Nat) (w : World) (hy : Ws y) :
    Calls Tryd.prog 15 #[.agg (us y).toArray] w fun e w' => e = .returned (.agg (bs (wordBytes y 64)).toArray) ∧ Fr Non w w' := by
  have HY := Lib.hid hy
  clear hy
  go_enter Tryd.func15, Tryd.ntmps15
  go_wp2_with fail
  have hb1 := Blk.new w 37 (us y)
  have hf1 := Fr.alloc w (.cells (us y).toArray 37)
  have hs1 : (w.alloc (.cells (us y).toArray 37)).heap.size = w.heap.size + 1 := by simp
  generalize w.alloc (.cells (us y).toArray 37) = w1 at hb1 hf1 hs1 ⊢
  have hb2 : Blk (w1.alloc (.cells #[.int .u8 0, .int .u8 0, .int .u8 0, .int .u8 0, .int .u8 0, .int .u8 0, .int .u8 0, .int .u8 0, .int .u8 0, .int .u8 0, .int .u8 0, .int .u8 0, .int .u8 0, .int .u8 0, .int .u8 0, .int .u8 0, .int .u8 0, .int .u8 0, .int .u8 0, .int .u8 0, .int .u8 0, .int .u8 0, .int .u8 0, .int .u8 0, .int .u8 0, .int .u8 0, .int .u8 0, .int .u8 0, .int .u8 0, .int .u8 0, .int .u8 0, .int .u8 0, .int .u8 0, .int .u8 0, .int .u8 0, .int .u8 0, .int .u8 0, .int .u8 0, .int .u8 0, .int .u8 0, .int .u8 0, .int .u8 0, .int .u8 0, .int .u8 0, .int .u8 0, .int .u8 0, .int .u8 0, .int .u8 0, .int .u8 0, .int .u8 0, .int .u8 0, .int .u8 0, .int .u8 0, .int .u8 0, .int .u8 0, .int .u8 0, .int .u8 0, .int .u8 0, .int .u8 0, .int .u8 0, .int .u8 0, .int .u8 0, .int .u8 0, .int .u8 0] 28)) w1.heap.size 28 (bs (List.replicate 64 0)) := Blk.new w1 _ _
  have hf2 := Fr.alloc w1 (.cells #[.int .u8 0, .int .u8 0, .int .u8 0, .int .u8 0, .int .u8 0, .int .u8 0, .int .u8 0, .int .u8 0, .int .u8 0, .int .u8 0, .int .u8 0, .int .u8 0, .int .u8 0, .int .u8 0, .int .u8 0, .int .u8 0, .int .u8 0, .int .u8 0, .int .u8 0, .int .u8 0, .int .u8 0, .int .u8 0, .int .u8 0, .int .u8 0, .int .u8 0, .int .u8 0, .int .u8 0, .int .u8 0, .int .u8 0, .int .u8 0, .int .u8 0, .int .u8 0, .int .u8 0, .int .u8 0, .int .u8 0, .int .u8 0, .int .u8 0, .int .u8 0, .int .u8 0, .int .u8 0, .int .u8 0, .int .u8 0, .int .u8 0, .int .u8 0, .int .u8 0, .int .u8 0, .int .u8 0, .int .u8 0, .int .u8 0, .int .u8 0, .int .u8 0, .int .u8 0, .int .u8 0, .int .u8 0, .int .u8 0, .int .u8 0, .int .u8 0, .int .u8 0, .int .u8 0, .int .u8 0, .int .u8 0, .int .u8 0, .int .u8 0, .int .u8 0] 28)
  have hs2 : (w1.alloc (.cells #[.int .u8 0, .int .u8 0, .int .u8 0, .int .u8 0, .int .u8 0, .int .u8 0, .int .u8 0, .int .u8 0, .int .u8 0, .int .u8 0, .int .u8 0, .int .u8 0, .int .u8 0, .int .u8 0, .int .u8 0, .int .u8 0, .int .u8 0, .int .u8 0, .int .u8 0, .int .u8 0, .int .u8 0, .int .u8 0, .int .u8 0, .int .u8 0, .int .u8 0, .int .u8 0, .int .u8 0, .int .u8 0, .int .u8 0, .int .u8 0, .int .u8 0, .int .u8 0, .int .u8 0, .int .u8 0, .int .u8 0, .int .u8 0, .int .u8 0, .int .u8 0, .int .u8 0, .int .u8 0, .int .u8 0, .int .u8 0, .int .u8 0, .int .u8 0, .int .u8 0, .int .u8 0, .int .u8 0, .int .u8 0, .int .u8 0, .int .u8 0, .int .u8 0, .int .u8 0, .int .u8 0, .int .u8 0, .int .u8 0, .int .u8 0, .int .u8 0, .int .u8 0, .int .u8 0, .int .u8 0, .int .u8 0, .int .u8 0, .int .u8 0, .int .u8 0] 28)).heap.size = w1.heap.size + 1 := by simp
  generalize w1.alloc (.cells #[.int .u8 0, .int .u8 0, .int .u8 0, .int .u8 0, .int .u8 0, .int .u8 0, .int .u8 0, .int .u8 0, .int .u8 0, .int .u8 0, .int .u8 0, .int .u8 0, .int .u8 0, .int .u8 0, .int .u8 0, .int .u8 0, .int .u8 0, .int .u8 0, .int .u8 0, .int .u8 0, .int .u8 0, .int .u8 0, .int .u8 0, .int .u8 0, .int .u8 0, .int .u8 0, .int .u8 0, .int .u8 0, .int .u8 0, .int .u8 0, .int .u8 0, .int .u8 0, .int .u8 0, .int .u8 0, .int .u8 0, .int .u8 0, .int .u8 0, .int .u8 0, .int .u8 0, .int .u8 0, .int .u8 0, .int .u8 0, .int .u8 0, .int .u8 0, .int .u8 0, .int .u8 0, .int .u8 0, .int .u8 0, .int .u8 0, .int .u8 0, .int .u8 0, .int .u8 0, .int .u8 0, .int .u8 0, .int .u8 0, .int .u8 0, .int .u8 0, .int .u8 0, .int .u8 0, .int .u8 0, .int .u8 0, .int .u8 0, .int .u8 0, .int .u8 0] 28) = w2 at hb2 hf2 hs2 ⊢
  have hb3 : Blk (w2.alloc (.cells #[.int .u8 0, .int .u8 0, .int .u8 0, .int .u8 0, .int .u8 0, .int .u8 0, .int .u8 0, .int .u8 0, .int .u8 0, .int .u8 0, .int .u8 0, .int .u8 0, .int .u8 0, .int .u8 0, .int .u8 0, .int .u8 0, .int .u8 0, .int .u8 0, .int .u8 0, .int .u8 0, .int .u8 0, .int .u8 0, .int .u8 0, .int .u8 0, .int .u8 0, .int .u8 0, .int .u8 0, .int .u8 0, .int .u8 0, .int .u8 0, .int .u8 0, .int .u8 0, .int .u8 0, .int .u8 0, .int .u8 0, .int .u8 0, .int .u8 0, .int .u8 0, .int .u8 0, .int .u8 0, .int .u8 0, .int .u8 0, .int .u8 0, .int .u8 0, .int .u8 0, .int .u8 0, .int .u8 0, .int .u8 0, .int .u8 0, .int .u8 0, .int .u8 0, .int .u8 0, .int .u8 0, .int .u8 0, .int .u8 0, .int .u8 0, .int .u8 0, .int .u8 0, .int .u8 0, .int .u8 0, .int .u8 0, .int .u8 0, .int .u8 0, .int .u8 0] 28)) w2.heap.size 28 (bs (List.replicate 64 0)) := Blk.new w2 _ _
  have hf3 := Fr.alloc w2 (.cells #[.int .u8 0, .int .u8 0, .int .u8 0, .int .u8 0, .int .u8 0, .int .u8 0, .int .u8 0, .int .u8 0, .int .u8 0, .int .u8 0, .int .u8 0, .int .u8 0, .int .u8 0, .int .u8 0, .int .u8 0, .int .u8 0, .int .u8 0, .int .u8 0, .int .u8 0, .int .u8 0, .int .u8 0, .int .u8 0, .int .u8 0, .int .u8 0, .int .u8 0, .int .u8 0, .int .u8 0, .int .u8 0, .int .u8 0, .int .u8 0, .int .u8 0, .int .u8 0, .int .u8 0, .int .u8 0, .int .u8 0, .int .u8 0, .int .u8 0, .int .u8 0, .int .u8 0, .int .u8 0, .int .u8 0, .int .u8 0, .int .u8 0, .int .u8 0, .int .u8 0, .int .u8 0, .int .u8 0, .int .u8 0, .int .u8 0, .int .u8 0, .int .u8 0, .int .u8 0, .int .u8 0, .int .u8 0, .int .u8 0, .int .u8 0, .int .u8 0, .int .u8 0, .int .u8 0, .int .u8 0, .int .u8 0, .int .u8 0, .int .u8 0, .int .u8 0] 28)
  generalize w2.alloc (.cells #[.int .u8 0, .int .u8 0, .int .u8 0, .int .u8 0, .int .u8 0, .int .u8 0, .int .u8 0, .int .u8 0, .int .u8 0, .int .u8 0, .int .u8 0, .int .u8 0, .int .u8 0, .int .u8 0, .int .u8 0, .int .u8 0, .int .u8 0, .int .u8 0, .int .u8 0, .int .u8 0, .int .u8 0, .int .u8 0, .int .u8 0, .int .u8 0, .int .u8 0, .int .u8 0, .int .u8 0, .int .u8 0, .int .u8 0, .int .u8 0, .int .u8 0, .int .u8 0, .int .u8 0, .int .u8 0, .int .u8 0, .int .u8 0, .int .u8 0, .int .u8 0, .int .u8 0, .int .u8 0, .int .u8 0, .int .u8 0, .int .u8 0, .int .u8 0, .int .u8 0, .int .u8 0, .int .u8 0, .int .u8 0, .int .u8 0, .int .u8 0, .int .u8 0, .int .u8 0, .int .u8 0, .int .u8 0, .int .u8 0, .int .u8 0, .int .u8 0, .int .u8 0, .int .u8 0, .int .u8 0, .int .u8 0, .int .u8 0, .int .u8 0, .int .u8 0] 28) = w3 at hb3 hf3 ⊢
  rw [hs1] at hb2 hs2
  rw [hs2] at hb3
  have HYB := Lib.hid ((hb1.non hf2).non hf3)
  have HRB := Lib.hid (hb2.non hf3)
  have HFR := Lib.hid ((hf1.non hf2).non hf3)
  obtain ⟨X, hX⟩ : ∃ X, X = w.heap.size + 1 + 1 := ⟨_, rfl⟩
  rw [← hX] at hb3 ⊢
  have HX := Lib.hid hX
  have HB0 := Lib.hid hb3
  clear hb1 hb2 hb3 hf1 hf2 hf3 hs1 hs2 hX
  go_loopw [5] (fun i wr => ∃ k : Nat, k ≤ 64 ∧ i = .int .i64 k ∧ Blk wr X 28 (bs (wordBytes y k ++ List.replicate (64 - k) 0)) ∧ Fr (One X) w3 wr) (fun i _ => 64 - (intOf i).toNat)
  case atStart => exact ⟨0, by omega, rfl, HB0.out, Fr.refl _ _⟩
  case round =>
    obtain ⟨k, hk, rfl, hbx, hfx⟩ := hrel
    have HBX := Lib.hid hbx
    have HFX := Lib.hid hfx
    clear hbx hfx
    by_cases hlt : k < 64
    · obtain ⟨p, hp⟩ : ∃ p, p = k / 4 := ⟨_, rfl⟩
      have cy : wr.cell? ⟨w.heap.size, p, none⟩ = some (.int .u32 (y[p]! : Int)) := ((HYB.out.frame HFX.out (fun h => by have h1 : w.heap.size = X := h; have := HX.out; omega)).at p _ (us_at y p (by rw [HY.out.1]; omega))).1
      have hby := get_lt HY.out.2 p
      have z1 : (k : Int) < 64 := by omega
      have tp : ((k : Int) / 4).toNat = p := by omega
      obtain ⟨old, cu, fz⟩ := HBX.out.has k (by rw [bs_length]; simp [wordBytes_length]; omega)
      have HW := Lib.hid (wordByte_int y k (y[p]!) (by rw [hp]))
      have hst := HBX.out.set k (.int .u8 ((wordByte y k).toNat : Int))
      rw [bs_set, bytes_set y 64 k hlt] at hst
      have HST := Lib.hid hst
      clear hp hst
      generalize y[p]! = x at cy hby HW
      go_wp2
      rw [HW.out]
      go_roundw
      case rel => exact ⟨k + 1, by omega, by go_num, HST.out, HFX.out.trans (Fr.setCell wr ⟨X, k, none⟩ _) (fun _ h => h) (fun _ h => .inl h)⟩
      case measure => simp [intOf]; omega
    · obtain rfl : k = 64 := by omega
      have hfw := HFR.out.new HFX.out (fun i h => by have h1 : i = X := h; have := HX.out; omega)
      have hrb := HRB.out.frame HFX.out (fun h => by have h1 : w.heap.size + 1 = X := h; have := HX.out; omega)
      have hyl : (bs (wordBytes y 64)).length = 64 := by rw [bs_length, wordBytes_length]
      have hy1 := bs_one (wordBytes y 64)
      obtain ⟨ys, hys⟩ : ∃ ys, ys = bs (wordBytes y 64) := ⟨_, rfl⟩
      have hb16 : Blk wr X 28 ys := by
        rw [hys]
        have h := HBX.out
        rwa [show 64 - 64 = 0 from rfl, List.replicate_zero, List.append_nil] at h
      rw [← hys] at hyl hy1
      have HYS := Lib.hid hys
      have hi : (Tryd.prog.info? 28).map (·.size) = some ys.length := by rw [hyl]; kernel_rfl
      have HB16 := Lib.hid (And.intro hb16 (And.intro hfw (And.intro hrb (And.intro hyl (And.intro hy1 hi)))))
      clear hys HBX HFX HFR HRB HYB HB0 hb16 hfw hrb hyl hy1 hi
      go_upto_region 7 with (fail)
      refine wp_region_lit ?_
      refine wpList_whole rfl rfl 28 20 (.tmp 3) (.tmp 2) rfl rfl rfl rfl X (w.heap.size + 1) _ _ ys _ HB16.out.1 HB16.out.2.2.1 (by rw [HB16.out.2.2.2.1]; rfl) _ Tryd.underlying28 rfl HB16.out.2.2.2.2.2 HB16.out.2.2.2.2.1 (by simp) rfl (fun _ => rfl) ?_
      intro w' hb' hf' _
      have HRV := Lib.hid (hb'.loadVar (P := Tryd.prog) 28 _ Tryd.underlying28 rfl HB16.out.2.2.2.2.2)
      have HFF : Hid (Fr Non w w') := Lib.hid (HB16.out.2.1.new hf' (fun i h => by have h1 : i = w.heap.size + 1 := h; omega))
      clear hb' hf' HB16
      repeat (first | go_skip | go_step)
      refine bodyPost_ret (v := .agg ys.toArray) (by have h := HRV.out; simp [results, Tryd.results15, asAddr, h]) rfl ⟨by rw [HYS.out], HFF.out⟩
end Go.Proofs.YtcooibfnnjgjkaaDoor
