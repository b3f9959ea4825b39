/- GOpStrB: StreamOpE, StreamOpF, StreamOpG, one behind the other. -/
import Derived.Test.YthfpkdbhihcniaaDoorGOpStrA
import Derived.Deep.OwnRows

/- package stream: words as bytes; a block -/
namespace Go.Proofs.YthfpkdbhihcniaaDoor
open Go.ChangeShapes Go.WideShapes Go.ChangeAt Go.RowKit

theorem bytes_set (y : List Nat) (n k : Nat) (h : k < n) : (wordBytes y k ++ List.replicate (n - k) 0).set k (wordByte y k) = wordBytes y (k + 1) ++ List.replicate (n - (k + 1)) 0 := by
  rw [show n - k = (n - (k + 1)) + 1 by omega, List.replicate_succ, List.set_append_right _ _ (by rw [wordBytes_length]; exact Nat.le_refl _), wordBytes_length, Nat.sub_self, List.set_cons_zero, wordBytes, List.append_assoc]
  rfl
theorem wordByte_int (y : List Nat) (k x : Nat) (h : y[k / 4]! = x) : (x : Int) / 2 ^ (8 * (k % 4)) % 256 = ((wordByte y k).toNat : Int) := by
  rw [wordByte_nat, h, Int.natCast_emod, Int.natCast_ediv, Int.natCast_pow]
  rfl
set_option maxRecDepth 100000 in
set_option maxHeartbeats 4000000 in
theorem laidS_any (y : List Nat) (w : World) (hy : Ws y) :
    Calls Tryd.prog 35 #[.agg (us y).toArray] w fun e w' => e = .returned (.agg (bs (wordBytes y 64)).toArray) ∧ Fr Non w w' := by
  have HY := Lib.hid hy
  clear hy
  go_enter Tryd.func35, Tryd.ntmps35
  go_wp2_with fail
  have hb1 := Blk.new w 64 (us y)
  have hf1 := Fr.alloc w (.cells (us y).toArray 64)
  have hs1 : (w.alloc (.cells (us y).toArray 64)).heap.size = w.heap.size + 1 := by simp
  generalize w.alloc (.cells (us y).toArray 64) = w1 at hb1 hf1 hs1 ⊢
  have hb2 : Blk (w1.alloc (.cells #[.int .u8 0, .int .u8 0, .int .u8 0, .int .u8 0, .int .u8 0, .int .u8 0, .int .u8 0, .int .u8 0, .int .u8 0, .int .u8 0, .int .u8 0, .int .u8 0, .int .u8 0, .int .u8 0, .int .u8 0, .int .u8 0, .int .u8 0, .int .u8 0, .int .u8 0, .int .u8 0, .int .u8 0, .int .u8 0, .int .u8 0, .int .u8 0, .int .u8 0, .int .u8 0, .int .u8 0, .int .u8 0, .int .u8 0, .int .u8 0, .int .u8 0, .int .u8 0, .int .u8 0, .int .u8 0, .int .u8 0, .int .u8 0, .int .u8 0, .int .u8 0, .int .u8 0, .int .u8 0, .int .u8 0, .int .u8 0, .int .u8 0, .int .u8 0, .int .u8 0, .int .u8 0, .int .u8 0, .int .u8 0, .int .u8 0, .int .u8 0, .int .u8 0, .int .u8 0, .int .u8 0, .int .u8 0, .int .u8 0, .int .u8 0, .int .u8 0, .int .u8 0, .int .u8 0, .int .u8 0, .int .u8 0, .int .u8 0, .int .u8 0, .int .u8 0] 50)) w1.heap.size 50 (bs (List.replicate 64 0)) := Blk.new w1 _ _
  have hf2 := Fr.alloc w1 (.cells #[.int .u8 0, .int .u8 0, .int .u8 0, .int .u8 0, .int .u8 0, .int .u8 0, .int .u8 0, .int .u8 0, .int .u8 0, .int .u8 0, .int .u8 0, .int .u8 0, .int .u8 0, .int .u8 0, .int .u8 0, .int .u8 0, .int .u8 0, .int .u8 0, .int .u8 0, .int .u8 0, .int .u8 0, .int .u8 0, .int .u8 0, .int .u8 0, .int .u8 0, .int .u8 0, .int .u8 0, .int .u8 0, .int .u8 0, .int .u8 0, .int .u8 0, .int .u8 0, .int .u8 0, .int .u8 0, .int .u8 0, .int .u8 0, .int .u8 0, .int .u8 0, .int .u8 0, .int .u8 0, .int .u8 0, .int .u8 0, .int .u8 0, .int .u8 0, .int .u8 0, .int .u8 0, .int .u8 0, .int .u8 0, .int .u8 0, .int .u8 0, .int .u8 0, .int .u8 0, .int .u8 0, .int .u8 0, .int .u8 0, .int .u8 0, .int .u8 0, .int .u8 0, .int .u8 0, .int .u8 0, .int .u8 0, .int .u8 0, .int .u8 0, .int .u8 0] 50)
  have hs2 : (w1.alloc (.cells #[.int .u8 0, .int .u8 0, .int .u8 0, .int .u8 0, .int .u8 0, .int .u8 0, .int .u8 0, .int .u8 0, .int .u8 0, .int .u8 0, .int .u8 0, .int .u8 0, .int .u8 0, .int .u8 0, .int .u8 0, .int .u8 0, .int .u8 0, .int .u8 0, .int .u8 0, .int .u8 0, .int .u8 0, .int .u8 0, .int .u8 0, .int .u8 0, .int .u8 0, .int .u8 0, .int .u8 0, .int .u8 0, .int .u8 0, .int .u8 0, .int .u8 0, .int .u8 0, .int .u8 0, .int .u8 0, .int .u8 0, .int .u8 0, .int .u8 0, .int .u8 0, .int .u8 0, .int .u8 0, .int .u8 0, .int .u8 0, .int .u8 0, .int .u8 0, .int .u8 0, .int .u8 0, .int .u8 0, .int .u8 0, .int .u8 0, .int .u8 0, .int .u8 0, .int .u8 0, .int .u8 0, .int .u8 0, .int .u8 0, .int .u8 0, .int .u8 0, .int .u8 0, .int .u8 0, .int .u8 0, .int .u8 0, .int .u8 0, .int .u8 0, .int .u8 0] 50)).heap.size = w1.heap.size + 1 := by simp
  generalize w1.alloc (.cells #[.int .u8 0, .int .u8 0, .int .u8 0, .int .u8 0, .int .u8 0, .int .u8 0, .int .u8 0, .int .u8 0, .int .u8 0, .int .u8 0, .int .u8 0, .int .u8 0, .int .u8 0, .int .u8 0, .int .u8 0, .int .u8 0, .int .u8 0, .int .u8 0, .int .u8 0, .int .u8 0, .int .u8 0, .int .u8 0, .int .u8 0, .int .u8 0, .int .u8 0, .int .u8 0, .int .u8 0, .int .u8 0, .int .u8 0, .int .u8 0, .int .u8 0, .int .u8 0, .int .u8 0, .int .u8 0, .int .u8 0, .int .u8 0, .int .u8 0, .int .u8 0, .int .u8 0, .int .u8 0, .int .u8 0, .int .u8 0, .int .u8 0, .int .u8 0, .int .u8 0, .int .u8 0, .int .u8 0, .int .u8 0, .int .u8 0, .int .u8 0, .int .u8 0, .int .u8 0, .int .u8 0, .int .u8 0, .int .u8 0, .int .u8 0, .int .u8 0, .int .u8 0, .int .u8 0, .int .u8 0, .int .u8 0, .int .u8 0, .int .u8 0, .int .u8 0] 50) = w2 at hb2 hf2 hs2 ⊢
  have hb3 : Blk (w2.alloc (.cells #[.int .u8 0, .int .u8 0, .int .u8 0, .int .u8 0, .int .u8 0, .int .u8 0, .int .u8 0, .int .u8 0, .int .u8 0, .int .u8 0, .int .u8 0, .int .u8 0, .int .u8 0, .int .u8 0, .int .u8 0, .int .u8 0, .int .u8 0, .int .u8 0, .int .u8 0, .int .u8 0, .int .u8 0, .int .u8 0, .int .u8 0, .int .u8 0, .int .u8 0, .int .u8 0, .int .u8 0, .int .u8 0, .int .u8 0, .int .u8 0, .int .u8 0, .int .u8 0, .int .u8 0, .int .u8 0, .int .u8 0, .int .u8 0, .int .u8 0, .int .u8 0, .int .u8 0, .int .u8 0, .int .u8 0, .int .u8 0, .int .u8 0, .int .u8 0, .int .u8 0, .int .u8 0, .int .u8 0, .int .u8 0, .int .u8 0, .int .u8 0, .int .u8 0, .int .u8 0, .int .u8 0, .int .u8 0, .int .u8 0, .int .u8 0, .int .u8 0, .int .u8 0, .int .u8 0, .int .u8 0, .int .u8 0, .int .u8 0, .int .u8 0, .int .u8 0] 50)) w2.heap.size 50 (bs (List.replicate 64 0)) := Blk.new w2 _ _
  have hf3 := Fr.alloc w2 (.cells #[.int .u8 0, .int .u8 0, .int .u8 0, .int .u8 0, .int .u8 0, .int .u8 0, .int .u8 0, .int .u8 0, .int .u8 0, .int .u8 0, .int .u8 0, .int .u8 0, .int .u8 0, .int .u8 0, .int .u8 0, .int .u8 0, .int .u8 0, .int .u8 0, .int .u8 0, .int .u8 0, .int .u8 0, .int .u8 0, .int .u8 0, .int .u8 0, .int .u8 0, .int .u8 0, .int .u8 0, .int .u8 0, .int .u8 0, .int .u8 0, .int .u8 0, .int .u8 0, .int .u8 0, .int .u8 0, .int .u8 0, .int .u8 0, .int .u8 0, .int .u8 0, .int .u8 0, .int .u8 0, .int .u8 0, .int .u8 0, .int .u8 0, .int .u8 0, .int .u8 0, .int .u8 0, .int .u8 0, .int .u8 0, .int .u8 0, .int .u8 0, .int .u8 0, .int .u8 0, .int .u8 0, .int .u8 0, .int .u8 0, .int .u8 0, .int .u8 0, .int .u8 0, .int .u8 0, .int .u8 0, .int .u8 0, .int .u8 0, .int .u8 0, .int .u8 0] 50)
  generalize w2.alloc (.cells #[.int .u8 0, .int .u8 0, .int .u8 0, .int .u8 0, .int .u8 0, .int .u8 0, .int .u8 0, .int .u8 0, .int .u8 0, .int .u8 0, .int .u8 0, .int .u8 0, .int .u8 0, .int .u8 0, .int .u8 0, .int .u8 0, .int .u8 0, .int .u8 0, .int .u8 0, .int .u8 0, .int .u8 0, .int .u8 0, .int .u8 0, .int .u8 0, .int .u8 0, .int .u8 0, .int .u8 0, .int .u8 0, .int .u8 0, .int .u8 0, .int .u8 0, .int .u8 0, .int .u8 0, .int .u8 0, .int .u8 0, .int .u8 0, .int .u8 0, .int .u8 0, .int .u8 0, .int .u8 0, .int .u8 0, .int .u8 0, .int .u8 0, .int .u8 0, .int .u8 0, .int .u8 0, .int .u8 0, .int .u8 0, .int .u8 0, .int .u8 0, .int .u8 0, .int .u8 0, .int .u8 0, .int .u8 0, .int .u8 0, .int .u8 0, .int .u8 0, .int .u8 0, .int .u8 0, .int .u8 0, .int .u8 0, .int .u8 0, .int .u8 0, .int .u8 0] 50) = w3 at hb3 hf3 ⊢
  rw [hs1] at hb2 hs2
  rw [hs2] at hb3
  have HYB := Lib.hid ((hb1.non hf2).non hf3)
  have HRB := Lib.hid (hb2.non hf3)
  have HFR := Lib.hid ((hf1.non hf2).non hf3)
  obtain ⟨X, hX⟩ : ∃ X, X = w.heap.size + 1 + 1 := ⟨_, rfl⟩
  rw [← hX] at hb3 ⊢
  have HX := Lib.hid hX
  have HB0 := Lib.hid hb3
  clear hb1 hb2 hb3 hf1 hf2 hf3 hs1 hs2 hX
  go_loopw [5] (fun i wr => ∃ k : Nat, k ≤ 64 ∧ i = .int .i64 k ∧ Blk wr X 50 (bs (wordBytes y k ++ List.replicate (64 - k) 0)) ∧ Fr (One X) w3 wr) (fun i _ => 64 - (intOf i).toNat)
  case atStart => exact ⟨0, by omega, rfl, HB0.out, Fr.refl _ _⟩
  case round =>
    obtain ⟨k, hk, rfl, hbx, hfx⟩ := hrel
    have HBX := Lib.hid hbx
    have HFX := Lib.hid hfx
    clear hbx hfx
    by_cases hlt : k < 64
    · obtain ⟨p, hp⟩ : ∃ p, p = k / 4 := ⟨_, rfl⟩
      have cy : wr.cell? ⟨w.heap.size, p, none⟩ = some (.int .u32 (y[p]! : Int)) := ((HYB.out.frame HFX.out (fun h => by have h1 : w.heap.size = X := h; have := HX.out; omega)).at p _ (us_at y p (by rw [HY.out.1]; omega))).1
      have hby := get_lt HY.out.2 p
      have z1 : (k : Int) < 64 := by omega
      have tp : ((k : Int) / 4).toNat = p := by omega
      obtain ⟨old, cu, fz⟩ := HBX.out.has k (by rw [bs_length]; simp [wordBytes_length]; omega)
      have HW := Lib.hid (wordByte_int y k (y[p]!) (by rw [hp]))
      have hst := HBX.out.set k (.int .u8 ((wordByte y k).toNat : Int))
      rw [bs_set, bytes_set y 64 k hlt] at hst
      have HST := Lib.hid hst
      clear hp hst
      generalize y[p]! = x at cy hby HW
      go_wp2
      rw [HW.out]
      go_roundw
      case rel => exact ⟨k + 1, by omega, by go_num, HST.out, HFX.out.trans (Fr.setCell wr ⟨X, k, none⟩ _) (fun _ h => h) (fun _ h => .inl h)⟩
      case measure => simp [intOf]; omega
    · obtain rfl : k = 64 := by omega
      have hfw := HFR.out.new HFX.out (fun i h => by have h1 : i = X := h; have := HX.out; omega)
      have hrb := HRB.out.frame HFX.out (fun h => by have h1 : w.heap.size + 1 = X := h; have := HX.out; omega)
      have hyl : (bs (wordBytes y 64)).length = 64 := by rw [bs_length, wordBytes_length]
      have hy1 := bs_one (wordBytes y 64)
      obtain ⟨ys, hys⟩ : ∃ ys, ys = bs (wordBytes y 64) := ⟨_, rfl⟩
      have hb16 : Blk wr X 50 ys := by
        rw [hys]
        have h := HBX.out
        rwa [show 64 - 64 = 0 from rfl, List.replicate_zero, List.append_nil] at h
      rw [← hys] at hyl hy1
      have HYS := Lib.hid hys
      have hi : (Tryd.prog.info? 50).map (·.size) = some ys.length := by rw [hyl]; kernel_rfl
      have HB16 := Lib.hid (And.intro hb16 (And.intro hfw (And.intro hrb (And.intro hyl (And.intro hy1 hi)))))
      clear hys HBX HFX HFR HRB HYB HB0 hb16 hfw hrb hyl hy1 hi
      go_upto_region 7 with (fail)
      refine wp_region_lit ?_
      refine wpList_whole rfl rfl 50 20 (.tmp 3) (.tmp 2) rfl rfl rfl rfl X (w.heap.size + 1) _ _ ys _ HB16.out.1 HB16.out.2.2.1 (by rw [HB16.out.2.2.2.1]; rfl) _ Tryd.underlying50 rfl HB16.out.2.2.2.2.2 HB16.out.2.2.2.2.1 (by simp) rfl (fun _ => rfl) ?_
      intro w' hb' hf' _
      have HRV := Lib.hid (hb'.loadVar (P := Tryd.prog) 50 _ Tryd.underlying50 rfl HB16.out.2.2.2.2.2)
      have HFF : Hid (Fr Non w w') := Lib.hid (HB16.out.2.1.new hf' (fun i h => by have h1 : i = w.heap.size + 1 := h; omega))
      clear hb' hf' HB16
      repeat (first | go_skip | go_step)
      refine bodyPost_ret (v := .agg ys.toArray) (by have h := HRV.out; simp [results, Tryd.results35, asAddr, h]) rfl ⟨by rw [HYS.out], HFF.out⟩
end Go.Proofs.YthfpkdbhihcniaaDoor

/- package stream: a block -/
namespace Go.Proofs.YthfpkdbhihcniaaDoor
open Go.ChangeShapes Go.WideShapes Go.ChangeAt Go.RowKit

set_option maxRecDepth 100000 in
set_option maxHeartbeats 4000000 in
theorem sblock_any (key nonce : List UInt8) (count : Nat) (w : World) (hk : key.length = 32) (hn : nonce.length = 12) (hc : count < 4294967296) (hS : StartAt w 1) :
    Calls Tryd.prog 22 #[.agg (bs key).toArray, .agg (bs nonce).toArray, .int .u32 count] w fun e w' => e = .returned (.agg (bs (streamBlock key nonce count)).toArray) ∧ Fr Non w w' := by
  have hok := begun_ok key nonce hc
  have HC := Lib.hid hc
  have HK := Lib.hid hk
  have HN := Lib.hid hn
  have HS := Lib.hid hS
  have hi16 : ∀ y : List Nat, Ws y → (Tryd.prog.info? 64).map (·.size) = some (us y).length := fun y h => by rw [us_length, h.1]; kernel_rfl
  have HI16 := Lib.hid hi16
  have hzv : ∀ w, (zeroValue 64).run Tryd.prog w = .ok (.agg (us (List.replicate 16 0)).toArray) w := fun _ => by kernel_rfl
  have HZV := Lib.hid hzv
  have hzl : ∀ y : List Nat, Ws y → (us (List.replicate 16 0)).length = (us y).length := fun y h => by rw [us_length, us_length, h.1]; rfl
  have HZL := Lib.hid hzl
  have hik : (Tryd.prog.info? 22).map (·.size) = some (bs key).length := by rw [bs_length, hk]; kernel_rfl
  have hin : (Tryd.prog.info? 25).map (·.size) = some (bs nonce).length := by rw [bs_length, hn]; kernel_rfl
  have HIK := Lib.hid (And.intro hik hin)
  clear hk hn hS hi16 hik hin hc hzv hzl
  obtain ⟨x, hx⟩ : ∃ x, x = begun key nonce count := ⟨_, rfl⟩
  rw [← hx] at hok
  have HX := Lib.hid hx
  have HOK := Lib.hid hok
  have HE : Hid (streamBlock key nonce count = wordBytes (plusTo (stirs 10 x) x 16) 64) := Lib.hid (by rw [hx]; rfl)
  clear hx hok
  go_enter Tryd.func22, Tryd.ntmps22
  go_upto_region 1 with (fail)
  have hb1 := Blk.new w 22 (bs key)
  have hf1 := Fr.alloc w (.cells (bs key).toArray 22)
  have hs1 : (w.alloc (.cells (bs key).toArray 22)).heap.size = w.heap.size + 1 := by simp
  generalize w.alloc (.cells (bs key).toArray 22) = w1 at hb1 hf1 hs1 ⊢
  have hb2 := Blk.new w1 25 (bs nonce)
  have hf2 := Fr.alloc w1 (.cells (bs nonce).toArray 25)
  have hs2 : (w1.alloc (.cells (bs nonce).toArray 25)).heap.size = w1.heap.size + 1 := by simp
  generalize w1.alloc (.cells (bs nonce).toArray 25) = w2 at hb2 hf2 hs2 ⊢
  have hb3 : Blk (w2.alloc (.cells #[.int .u8 0, .int .u8 0, .int .u8 0, .int .u8 0, .int .u8 0, .int .u8 0, .int .u8 0, .int .u8 0, .int .u8 0, .int .u8 0, .int .u8 0, .int .u8 0, .int .u8 0, .int .u8 0, .int .u8 0, .int .u8 0, .int .u8 0, .int .u8 0, .int .u8 0, .int .u8 0, .int .u8 0, .int .u8 0, .int .u8 0, .int .u8 0, .int .u8 0, .int .u8 0, .int .u8 0, .int .u8 0, .int .u8 0, .int .u8 0, .int .u8 0, .int .u8 0, .int .u8 0, .int .u8 0, .int .u8 0, .int .u8 0, .int .u8 0, .int .u8 0, .int .u8 0, .int .u8 0, .int .u8 0, .int .u8 0, .int .u8 0, .int .u8 0, .int .u8 0, .int .u8 0, .int .u8 0, .int .u8 0, .int .u8 0, .int .u8 0, .int .u8 0, .int .u8 0, .int .u8 0, .int .u8 0, .int .u8 0, .int .u8 0, .int .u8 0, .int .u8 0, .int .u8 0, .int .u8 0, .int .u8 0, .int .u8 0, .int .u8 0, .int .u8 0] 50)) w2.heap.size 50 (bs (List.replicate 64 0)) := Blk.new w2 _ _
  have hf3 := Fr.alloc w2 (.cells #[.int .u8 0, .int .u8 0, .int .u8 0, .int .u8 0, .int .u8 0, .int .u8 0, .int .u8 0, .int .u8 0, .int .u8 0, .int .u8 0, .int .u8 0, .int .u8 0, .int .u8 0, .int .u8 0, .int .u8 0, .int .u8 0, .int .u8 0, .int .u8 0, .int .u8 0, .int .u8 0, .int .u8 0, .int .u8 0, .int .u8 0, .int .u8 0, .int .u8 0, .int .u8 0, .int .u8 0, .int .u8 0, .int .u8 0, .int .u8 0, .int .u8 0, .int .u8 0, .int .u8 0, .int .u8 0, .int .u8 0, .int .u8 0, .int .u8 0, .int .u8 0, .int .u8 0, .int .u8 0, .int .u8 0, .int .u8 0, .int .u8 0, .int .u8 0, .int .u8 0, .int .u8 0, .int .u8 0, .int .u8 0, .int .u8 0, .int .u8 0, .int .u8 0, .int .u8 0, .int .u8 0, .int .u8 0, .int .u8 0, .int .u8 0, .int .u8 0, .int .u8 0, .int .u8 0, .int .u8 0, .int .u8 0, .int .u8 0, .int .u8 0, .int .u8 0] 50)
  have hs3 : (w2.alloc (.cells #[.int .u8 0, .int .u8 0, .int .u8 0, .int .u8 0, .int .u8 0, .int .u8 0, .int .u8 0, .int .u8 0, .int .u8 0, .int .u8 0, .int .u8 0, .int .u8 0, .int .u8 0, .int .u8 0, .int .u8 0, .int .u8 0, .int .u8 0, .int .u8 0, .int .u8 0, .int .u8 0, .int .u8 0, .int .u8 0, .int .u8 0, .int .u8 0, .int .u8 0, .int .u8 0, .int .u8 0, .int .u8 0, .int .u8 0, .int .u8 0, .int .u8 0, .int .u8 0, .int .u8 0, .int .u8 0, .int .u8 0, .int .u8 0, .int .u8 0, .int .u8 0, .int .u8 0, .int .u8 0, .int .u8 0, .int .u8 0, .int .u8 0, .int .u8 0, .int .u8 0, .int .u8 0, .int .u8 0, .int .u8 0, .int .u8 0, .int .u8 0, .int .u8 0, .int .u8 0, .int .u8 0, .int .u8 0, .int .u8 0, .int .u8 0, .int .u8 0, .int .u8 0, .int .u8 0, .int .u8 0, .int .u8 0, .int .u8 0, .int .u8 0, .int .u8 0] 50)).heap.size = w2.heap.size + 1 := by simp
  generalize w2.alloc (.cells #[.int .u8 0, .int .u8 0, .int .u8 0, .int .u8 0, .int .u8 0, .int .u8 0, .int .u8 0, .int .u8 0, .int .u8 0, .int .u8 0, .int .u8 0, .int .u8 0, .int .u8 0, .int .u8 0, .int .u8 0, .int .u8 0, .int .u8 0, .int .u8 0, .int .u8 0, .int .u8 0, .int .u8 0, .int .u8 0, .int .u8 0, .int .u8 0, .int .u8 0, .int .u8 0, .int .u8 0, .int .u8 0, .int .u8 0, .int .u8 0, .int .u8 0, .int .u8 0, .int .u8 0, .int .u8 0, .int .u8 0, .int .u8 0, .int .u8 0, .int .u8 0, .int .u8 0, .int .u8 0, .int .u8 0, .int .u8 0, .int .u8 0, .int .u8 0, .int .u8 0, .int .u8 0, .int .u8 0, .int .u8 0, .int .u8 0, .int .u8 0, .int .u8 0, .int .u8 0, .int .u8 0, .int .u8 0, .int .u8 0, .int .u8 0, .int .u8 0, .int .u8 0, .int .u8 0, .int .u8 0, .int .u8 0, .int .u8 0, .int .u8 0, .int .u8 0] 50) = w3 at hb3 hf3 hs3 ⊢
  rw [hs1] at hb2 hs2
  rw [hs2] at hb3 hs3
  have HKB := Lib.hid ((hb1.non hf2).non hf3)
  have HNB := Lib.hid (hb2.non hf3)
  have HRB := Lib.hid hb3
  have HFR := Lib.hid ((hf1.non hf2).non hf3)
  have HS3 := Lib.hid hs3
  clear hb1 hb2 hb3 hf1 hf2 hf3 hs1 hs2 hs3
  refine wp_region_lit ?_
  refine wpList_load_mid rfl _ _ rfl w.heap.size 0 rfl (bs key) _ (HKB.out.range 0 _ (fun j v hv => by simpa using hv)) Tryd.underlying22 rfl HIK.out.1 ?_
  refine wpList_load_mid rfl _ _ rfl (w.heap.size + 1) 0 rfl (bs nonce) _ (HNB.out.range 0 _ (fun j v hv => by simpa using hv)) Tryd.underlying25 rfl HIK.out.2 ?_
  go_wp2_with fail
  refine (begun_any key nonce count _ HK.out HN.out HC.out (HS.out.non HFR.out)).mono ?_
  rintro e w4 ⟨rfl, hf4⟩
  rw [← HX.out]
  go_upto_region 2 with ((with_reducible show wpList _ _ _ (({ op := .alloc _, .. } : Oper) :: _) _ _); refine wpList_var rfl rfl 64 7 (.tmp 13) rfl rfl rfl rfl _ (us x) HZV.out (HZL.out x HOK.out) (HI16.out x HOK.out) (us_one _) (by simp) (fun _ => rfl) ?_; intro w5 hb5 hf5 hs5; simp only [List.set_cons_succ, List.set_cons_zero])
  obtain ⟨X, hX⟩ : ∃ X, X = w4.heap.size := ⟨_, rfl⟩
  rw [← hX] at hb5 hs5 ⊢
  have hwX : w.heap.size + 1 + 1 + 1 ≤ X := by have := hf4.size; have := HS3.out; omega
  have HFR5 := Lib.hid ((HFR.out.non hf4).non hf5)
  have HRB5 := Lib.hid ((HRB.out.non hf4).non hf5)
  have HXB5 := Lib.hid hb5
  have HS5 := Lib.hid hs5
  clear hX hf4 hf5 hb5 hs5 HKB HNB HRB HFR HS3 HIK HS HK HN HC
  refine wp_region_lit ?_
  refine wpList_load_mid rfl _ _ rfl X 0 rfl (us x) _ (HXB5.out.range 0 _ (fun j v hv => by simpa using hv)) Tryd.underlying64 rfl (HI16.out x HOK.out) ?_
  go_wp2_with fail
  refine (stirred_any x _ HOK.out).mono ?_
  rintro e w6 ⟨rfl, hf6⟩
  have hso := stirs_ok HOK.out 10
  generalize stirs 10 x = s at HE hso ⊢
  have HSO := Lib.hid hso
  clear hso
  go_upto_region 3 with ((with_reducible show wpList _ _ _ (({ op := .alloc _, .. } : Oper) :: _) _ _); refine wpList_var rfl rfl 64 8 (.tmp 15) rfl rfl rfl rfl _ (us s) HZV.out (HZL.out s HSO.out) (HI16.out s HSO.out) (us_one _) (by simp) (fun _ => rfl) ?_; intro w7 hb7 hf7 hs7; simp only [List.set_cons_succ, List.set_cons_zero])
  obtain ⟨Y, hY⟩ : ∃ Y, Y = w6.heap.size := ⟨_, rfl⟩
  rw [← hY] at hb7 hs7 ⊢
  have hXY : X < Y := by have := hf6.size; have := HS5.out; omega
  have HFR7 := Lib.hid ((HFR5.out.non hf6).non hf7)
  have HRB7 := Lib.hid ((HRB5.out.non hf6).non hf7)
  have HXB7 := Lib.hid ((HXB5.out.non hf6).non hf7)
  have HYB7 := Lib.hid hb7
  clear hY hf6 hf7 hb7 hs7 HFR5 HRB5 HXB5 HS5 HZV HZL
  go_wp2_with fail
  go_loopw [16] (fun i wr => ∃ k : Nat, k ≤ 16 ∧ i = .int .i64 k ∧ Blk wr Y 64 (us (plusTo s x k)) ∧ Fr (One Y) w7 wr) (fun i _ => 16 - (intOf i).toNat)
  case atStart => exact ⟨0, by omega, rfl, (by have e : plusTo s x 0 = s := (by simp [plusTo]); rw [e]; exact HYB7.out), Fr.refl _ _⟩
  case round =>
    obtain ⟨k, hk, rfl, hbx, hfx⟩ := hrel
    have HBX := Lib.hid hbx
    have HFX := Lib.hid hfx
    clear hbx hfx
    by_cases hlt : k < 16
    · obtain ⟨cy, fy⟩ := HBX.out.at k _ (us_at? _ _ _ (plusTo_at s x k (by rw [HSO.out.1]; exact hlt)))
      obtain ⟨cx, -⟩ := (HXB7.out.frame HFX.out (fun h => by have h1 : X = Y := h; omega)).at k _ (us_at x k (by rw [HOK.out.1]; exact hlt))
      have hst := HBX.out.set k (.int .u32 (((s[k]! + x[k]!) % 4294967296 : Nat) : Int))
      rw [us_set, plusTo_set s x k (by rw [HSO.out.1]; exact hlt)] at hst
      have HST := Lib.hid hst
      have o1 := get_lt HSO.out.2 k
      have o2 := get_lt HOK.out.2 k
      have z1 : (k : Int) < 16 := by omega
      clear hst
      generalize s[k]! = a at cy HST o1
      generalize x[k]! = b at cx HST o2
      go_upto_region 6 with (fail)
      go_still_tail 8, (by kernel_rfl)
      change wpList _ _ _ _ _ wr.drew
      have e : IntKind.u32.wrap ((a : Int) + (b : Int)) = (((a + b) % 4294967296 : Nat) : Int) := by go_num
      rw [e]
      generalize (a + b) % 4294967296 = v at HST ⊢
      clear e
      go_wp2
      go_roundw
      case rel => exact ⟨k + 1, by omega, by go_num, HST.out.non (Fr.drew _), (HFX.out.trans (Fr.setCell wr ⟨Y, k, none⟩ (.int .u32 (v : Int))) (fun _ h => h) (fun _ h => .inl h)).thenNon (Fr.drew _)⟩
      case measure => simp [intOf]; omega
    · obtain rfl : k = 16 := by omega
      have hpo : Ws (plusTo s x 16) := ⟨by rw [plusTo_length s x 16 (by rw [HSO.out.1]; exact Nat.le_refl _)]; exact HSO.out.1, plusTo_lt x 16 HSO.out.2⟩
      generalize plusTo s x 16 = z at HBX HE hpo
      have HPO := Lib.hid hpo
      have HFZ := Lib.hid (HFR7.out.new HFX.out (fun i h => by have h1 : i = Y := h; omega))
      have HRZ := Lib.hid (HRB7.out.frame HFX.out (fun h => by have h1 : w.heap.size + 1 + 1 = Y := h; omega))
      clear hpo HFX HFR7 HRB7 HXB7 HYB7
      go_upto_region 8 with (fail)
      refine wp_region_lit ?_
      refine wpList_load_mid rfl _ _ rfl Y 0 rfl (us z) _ (HBX.out.range 0 _ (fun j v hv => by simpa using hv)) Tryd.underlying64 rfl (HI16.out z HPO.out) ?_
      go_wp2_with fail
      refine (laidS_any z _ HPO.out).mono ?_
      rintro e w8 ⟨rfl, hf8⟩
      rw [← HE.out]
      have hyl : (bs (streamBlock key nonce count)).length = 64 := by rw [bs_length, streamBlock_length]
      have hy1 := bs_one (streamBlock key nonce count)
      have HF8 := Lib.hid (HFZ.out.non hf8)
      have HR8 := Lib.hid (HRZ.out.non hf8)
      obtain ⟨ys, hys⟩ : ∃ ys, ys = bs (streamBlock key nonce count) := ⟨_, rfl⟩
      rw [← hys] at hyl hy1 ⊢
      have HYS := Lib.hid hys
      have hi : (Tryd.prog.info? 50).map (·.size) = some ys.length := by rw [hyl]; kernel_rfl
      have HHI := Lib.hid (And.intro hyl (And.intro hy1 hi))
      clear hyl hy1 hi hys hf8 HE HFZ HRZ HBX HPO HSO HOK HX HI16
      dsimp only
      repeat (first | go_skip | ((with_reducible show wpList _ _ _ (({ op := .store _ _ _, .. } : Oper) :: _) _ _); refine wpList_put rfl 50 (.tmp 6) (.tmp 29) rfl rfl (w.heap.size + 1 + 1) _ _ ys HR8.out (by rw [HHI.out.1]; rfl) HHI.out.2.2 HHI.out.2.1 rfl rfl ?_; intro w9 hb9 hf9 _) | go_step | go_back)
      have HRV := Lib.hid (hb9.loadVar (P := Tryd.prog) 50 _ Tryd.underlying50 rfl HHI.out.2.2)
      have HFF : Hid (Fr Non w w9) := Lib.hid (HF8.out.new hf9 (fun i h => by have h1 : i = w.heap.size + 1 + 1 := h; omega))
      clear hb9 hf9 HR8 HF8 HHI
      refine bodyPost_ret (v := .agg ys.toArray) (by have h := HRV.out; simp [results, Tryd.results22, asAddr, h]) rfl ⟨by rw [HYS.out], HFF.out⟩
end Go.Proofs.YthfpkdbhihcniaaDoor

/- package stream: bytes crossed -/
namespace Go.Proofs.YthfpkdbhihcniaaDoor
open Go.ChangeShapes Go.WideShapes Go.ChangeAt Go.RowKit

theorem made_bytes (n : Nat) : (madeCells #[.int .u8 0] n) = (bs (List.replicate n 0)).toArray := by
  apply Array.ext
  · simp [size_madeCells, bs_length]
  · intro i h1 h2
    simp [madeCells, bs]
    rw [Nat.mod_one]
    rfl
theorem bs_at? (l : List UInt8) (p : Nat) (h : p < l.length) : (bs l)[p]? = some (.int .u8 (l[p]!.toNat : Int)) := by simp [bs, h]
theorem StartAt.frameT {w w' : World} {g : Nat} {T : Nat → Prop} (h : StartAt w g) (f : Fr T w w') (hn : ¬ T g) : StartAt w' g := fun i hi => f.cell (h i hi) hn
theorem StartAt.lt {w : World} {g : Nat} (h : StartAt w g) : g < w.heap.size := World.block_lt_of_cell? _ _ (h 0 (by omega))
def Two (a b : Nat) : Nat → Prop := fun i => i = a ∨ i = b
theorem cross_set (key nonce : List UInt8) (count : Nat) (l : List UInt8) (n k : Nat) (h : k < n) : (crossTo key nonce count l k ++ List.replicate (n - k) 0).set k (l[k]! ^^^ streamAt key nonce count k) = crossTo key nonce count l (k + 1) ++ List.replicate (n - (k + 1)) 0 := by
  rw [show n - k = (n - (k + 1)) + 1 by omega, List.replicate_succ, List.set_append_right _ _ (by rw [crossTo_length]; exact Nat.le_refl _), crossTo_length, Nat.sub_self, List.set_cons_zero, crossTo, List.append_assoc]
  rfl
theorem Tryd.info5s : (Tryd.prog.info? 5).map (fun i => (i.zero, i.size, i.bytes)) = some (some (.int .u8 0), 1, 1) := by kernel_rfl
set_option maxRecDepth 100000 in
set_option maxHeartbeats 4000000 in
theorem crossS_any (key nonce : List UInt8) (count : Nat) (v : Value) (l : List UInt8) (w : World) (hk : key.length = 32) (hn : nonce.length = 12) (hc : count < 4294967296) (hv : Row w v (bs l)) (hl : l.length ≤ 140737488355328) (hS : StartAt w 1) :
    Calls Tryd.prog 16 #[.agg (bs key).toArray, .agg (bs nonce).toArray, .int .u32 count, v] w fun e w' => ∃ O, e = .returned (.slice (some ⟨O, 0, none⟩) l.length l.length) ∧ w.heap.size ≤ O ∧ Blk w' O 5 (bs (streamCross key nonce count l)) ∧ Fr Non w w' := by
  obtain ⟨a, c, rfl, _⟩ := id hv
  obtain ⟨i0, hi⟩ := info_parts Tryd.info5s
  rw [bs_length] at hv ⊢
  have hlen := run_lenRow (P := Tryd.prog) hv 27 5 Tryd.underlying27
  rw [bs_length] at hlen
  have HI := Lib.hid hi
  have HC := Lib.hid hc
  have HK := Lib.hid hk
  have HN := Lib.hid hn
  have HV := Lib.hid hv
  have HS := Lib.hid hS
  have hik : (Tryd.prog.info? 22).map (·.size) = some (bs key).length := by rw [bs_length, hk]; kernel_rfl
  have hin : (Tryd.prog.info? 25).map (·.size) = some (bs nonce).length := by rw [bs_length, hn]; kernel_rfl
  have HIK := Lib.hid (And.intro hik hin)
  have hi64 : ∀ m, (Tryd.prog.info? 50).map (·.size) = some (bs (streamBlock key nonce m)).length := fun m => by rw [bs_length, streamBlock_length]; kernel_rfl
  have HI64 := Lib.hid hi64
  clear hi hk hn hc hv hS hik hin hi64
  go_enter Tryd.func16, Tryd.ntmps16
  go_upto_region 1 with (fail)
  have hb1 := Blk.new w 22 (bs key)
  have hf1 := Fr.alloc w (.cells (bs key).toArray 22)
  have hs1 : (w.alloc (.cells (bs key).toArray 22)).heap.size = w.heap.size + 1 := by simp
  generalize w.alloc (.cells (bs key).toArray 22) = w1 at hb1 hf1 hs1 ⊢
  have hb2 := Blk.new w1 25 (bs nonce)
  have hf2 := Fr.alloc w1 (.cells (bs nonce).toArray 25)
  have hs2 : (w1.alloc (.cells (bs nonce).toArray 25)).heap.size = w1.heap.size + 1 := by simp
  generalize w1.alloc (.cells (bs nonce).toArray 25) = w2 at hb2 hf2 hs2 ⊢
  rw [hs1] at hb2 hs2
  have HKB := Lib.hid (hb1.non hf2)
  have HNB := Lib.hid hb2
  have HFR := Lib.hid (hf1.non hf2)
  have HS2 := Lib.hid hs2
  clear hb1 hb2 hf1 hf2 hs1 hs2
  go_wp2_with ((with_reducible show wpList _ _ _ (({ op := .makeSlice _ _ _, .. } : Oper) :: _) _ _); refine wpList_make_row _ rfl _ _ 27 rfl 5 i0 (.int .u8 0) Tryd.underlying27 HI.out.1 HI.out.2.1 HI.out.2.2.1 rfl .i64 .i64 l.length rfl rfl (by rw [HI.out.2.2.2]; omega) (by omega) ?_; rw [made_bytes])
  have hb3 := Blk.new w2 5 (bs (List.replicate l.length 0))
  have hf3 := Fr.alloc w2 (.cells (bs (List.replicate l.length 0)).toArray 5)
  have hs3 : (w2.alloc (.cells (bs (List.replicate l.length 0)).toArray 5)).heap.size = w2.heap.size + 1 := by simp
  generalize w2.alloc (.cells (bs (List.replicate l.length 0)).toArray 5) = w3 at hb3 hf3 hs3 ⊢
  have hb4 : Blk (w3.alloc (.cells #[.int .u8 0, .int .u8 0, .int .u8 0, .int .u8 0, .int .u8 0, .int .u8 0, .int .u8 0, .int .u8 0, .int .u8 0, .int .u8 0, .int .u8 0, .int .u8 0, .int .u8 0, .int .u8 0, .int .u8 0, .int .u8 0, .int .u8 0, .int .u8 0, .int .u8 0, .int .u8 0, .int .u8 0, .int .u8 0, .int .u8 0, .int .u8 0, .int .u8 0, .int .u8 0, .int .u8 0, .int .u8 0, .int .u8 0, .int .u8 0, .int .u8 0, .int .u8 0, .int .u8 0, .int .u8 0, .int .u8 0, .int .u8 0, .int .u8 0, .int .u8 0, .int .u8 0, .int .u8 0, .int .u8 0, .int .u8 0, .int .u8 0, .int .u8 0, .int .u8 0, .int .u8 0, .int .u8 0, .int .u8 0, .int .u8 0, .int .u8 0, .int .u8 0, .int .u8 0, .int .u8 0, .int .u8 0, .int .u8 0, .int .u8 0, .int .u8 0, .int .u8 0, .int .u8 0, .int .u8 0, .int .u8 0, .int .u8 0, .int .u8 0, .int .u8 0] 50)) w3.heap.size 50 (bs (List.replicate 64 0)) := Blk.new w3 _ _
  have hf4 := Fr.alloc w3 (.cells #[.int .u8 0, .int .u8 0, .int .u8 0, .int .u8 0, .int .u8 0, .int .u8 0, .int .u8 0, .int .u8 0, .int .u8 0, .int .u8 0, .int .u8 0, .int .u8 0, .int .u8 0, .int .u8 0, .int .u8 0, .int .u8 0, .int .u8 0, .int .u8 0, .int .u8 0, .int .u8 0, .int .u8 0, .int .u8 0, .int .u8 0, .int .u8 0, .int .u8 0, .int .u8 0, .int .u8 0, .int .u8 0, .int .u8 0, .int .u8 0, .int .u8 0, .int .u8 0, .int .u8 0, .int .u8 0, .int .u8 0, .int .u8 0, .int .u8 0, .int .u8 0, .int .u8 0, .int .u8 0, .int .u8 0, .int .u8 0, .int .u8 0, .int .u8 0, .int .u8 0, .int .u8 0, .int .u8 0, .int .u8 0, .int .u8 0, .int .u8 0, .int .u8 0, .int .u8 0, .int .u8 0, .int .u8 0, .int .u8 0, .int .u8 0, .int .u8 0, .int .u8 0, .int .u8 0, .int .u8 0, .int .u8 0, .int .u8 0, .int .u8 0, .int .u8 0] 50)
  generalize w3.alloc (.cells #[.int .u8 0, .int .u8 0, .int .u8 0, .int .u8 0, .int .u8 0, .int .u8 0, .int .u8 0, .int .u8 0, .int .u8 0, .int .u8 0, .int .u8 0, .int .u8 0, .int .u8 0, .int .u8 0, .int .u8 0, .int .u8 0, .int .u8 0, .int .u8 0, .int .u8 0, .int .u8 0, .int .u8 0, .int .u8 0, .int .u8 0, .int .u8 0, .int .u8 0, .int .u8 0, .int .u8 0, .int .u8 0, .int .u8 0, .int .u8 0, .int .u8 0, .int .u8 0, .int .u8 0, .int .u8 0, .int .u8 0, .int .u8 0, .int .u8 0, .int .u8 0, .int .u8 0, .int .u8 0, .int .u8 0, .int .u8 0, .int .u8 0, .int .u8 0, .int .u8 0, .int .u8 0, .int .u8 0, .int .u8 0, .int .u8 0, .int .u8 0, .int .u8 0, .int .u8 0, .int .u8 0, .int .u8 0, .int .u8 0, .int .u8 0, .int .u8 0, .int .u8 0, .int .u8 0, .int .u8 0, .int .u8 0, .int .u8 0, .int .u8 0, .int .u8 0] 50) = w4 at hb4 hf4 ⊢
  rw [hs3] at hb4
  obtain ⟨O, hO⟩ : ∃ O, O = w2.heap.size := ⟨_, rfl⟩
  rw [← hO] at hb3 hb4 ⊢
  have hOw : w.heap.size + 1 + 1 ≤ O := by have := HS2.out; omega
  have HKB4 := Lib.hid ((HKB.out.non hf3).non hf4)
  have HNB4 := Lib.hid ((HNB.out.non hf3).non hf4)
  have HFR4 := Lib.hid ((HFR.out.non hf3).non hf4)
  have HO4 := Lib.hid (hb3.non hf4)
  have HM4 := Lib.hid hb4
  clear hb3 hb4 hf3 hf4 hs3 hO HKB HNB HFR HS2
  go_loopw [17] (fun i wr => ∃ (k : Nat) (now : List UInt8), k ≤ l.length ∧ i = .int .i64 k ∧ now.length = 64 ∧ (k % 64 ≠ 0 → now = streamBlock key nonce ((count + k / 64) % 4294967296)) ∧ Blk wr O 5 (bs (crossTo key nonce count l k ++ List.replicate (l.length - k) 0)) ∧ Blk wr (O + 1) 50 (bs now) ∧ Fr (Two O (O + 1)) w4 wr) (fun i _ => l.length - (intOf i).toNat)
  case atStart => exact ⟨0, List.replicate 64 0, by omega, rfl, by simp, fun h => absurd rfl h, HO4.out, HM4.out, Fr.refl _ _⟩
  case round =>
    obtain ⟨k, now, hk, rfl, hnl, hnow, hbo, hbm, hfx⟩ := hrel
    have HBO := Lib.hid hbo
    have HBM := Lib.hid hbm
    have HFX := Lib.hid hfx
    have HNW := Lib.hid hnow
    have HNL := Lib.hid hnl
    clear hbo hbm hfx hnow hnl
    by_cases hlt : k < l.length
    · have z1 : (k : Int) < (l.length : Int) := by omega
      obtain ⟨p, hp⟩ : ∃ p, p = k % 64 := ⟨_, rfl⟩
      have tp : ((k : Int) % 64).toNat = p := by omega
      have hkL : (k : Int) ≤ 140737488355328 := by omega
      have hp64 : p < 64 := by omega
      by_cases h0 : k % 64 = 0
      case pos =>
        have b0 : ((k : Int) % 64 == 0) = true := by simp; omega
        have b1 : decide ((k : Int) % 64 = 0) = true := by simp; omega
        go_upto_region 7 with (fail)
        refine wp_region_lit ?_
        refine wpList_load_mid rfl _ _ rfl w.heap.size 0 rfl (bs key) _ ((HKB4.out.frame HFX.out (fun h => by have h1 : w.heap.size = O ∨ w.heap.size = O + 1 := h; omega)).range 0 _ (fun j v hv => by simpa using hv)) Tryd.underlying22 rfl HIK.out.1 ?_
        refine wpList_load_mid rfl _ _ rfl (w.heap.size + 1) 0 rfl (bs nonce) _ ((HNB4.out.frame HFX.out (fun h => by have h1 : w.heap.size + 1 = O ∨ w.heap.size + 1 = O + 1 := h; omega)).range 0 _ (fun j v hv => by simpa using hv)) Tryd.underlying25 rfl HIK.out.2 ?_
        go_wp2_with fail
        obtain ⟨m, hm⟩ : ∃ m, m = (count + k / 64) % 4294967296 := ⟨_, rfl⟩
        have hmi : ((count : Int) + (k : Int) / 64) % 4294967296 = (m : Int) := by omega
        have hml : m < 4294967296 := by omega
        rw [hmi]
        refine (sblock_any key nonce m _ HK.out HN.out hml ((HS.out.non HFR4.out).frameT HFX.out (fun h => by have h1 : 1 = O ∨ 1 = O + 1 := h; have h2 := HS.out.lt; omega))).mono ?_
        rintro e w5 ⟨rfl, hf5⟩
        have hi6 := HI64.out m
        have hy1 := bs_one (streamBlock key nonce m)
        have hnl2 : (streamBlock key nonce m).length = 64 := streamBlock_length _ _ _
        obtain ⟨now2, hnow2⟩ : ∃ now2, now2 = streamBlock key nonce m := ⟨_, rfl⟩
        rw [← hnow2] at hi6 hy1 hnl2 ⊢
        have HNOW2 : Hid (now2 = streamBlock key nonce ((count + k / 64) % 4294967296)) := Lib.hid (by rw [hnow2, hm])
        have HNL2 := Lib.hid hnl2
        have HHI := Lib.hid (And.intro hi6 hy1)
        have HF5 := Lib.hid hf5
        clear hi6 hy1 hnow2 hm hmi hml hnl2 hf5 b0 b1
        go_upto_region 8 with ((with_reducible show wpList _ _ _ (({ op := .store _ _ _, .. } : Oper) :: _) _ _); refine wpList_put rfl 50 (.tmp 10) (.tmp 30) rfl rfl (O + 1) _ _ (bs now2) (HBM.out.non HF5.out) (by rw [bs_length, bs_length, HNL.out, HNL2.out]) HHI.out.1 HHI.out.2 rfl rfl ?_; intro w6 hb6 hf6 _)
        have HBM2 := Lib.hid hb6
        have HBO2 := Lib.hid ((HBO.out.non HF5.out).frame hf6 (fun h => by have h1 : O = O + 1 := h; omega))
        have HFX2 := Lib.hid ((HFX.out.thenNon HF5.out).trans hf6 (fun _ h => h) (fun i h => .inl (.inr h)))
        clear hb6 hf6 HBM HBO HFX HF5 HHI HNW HNL
        obtain ⟨cm, -⟩ := HBM2.out.at p _ (bs_at? now2 p (by rw [HNL2.out]; omega))
        obtain ⟨old, cu, fz⟩ := HBO2.out.has k (by rw [bs_length, List.length_append, crossTo_length, List.length_replicate]; omega)
        obtain ⟨-, -, -, hall⟩ := (HV.out.frame (HFR4.out.new HFX2.out (fun i h => by have h1 : i = O ∨ i = O + 1 := h; omega)) (fun _ _ _ _ _ h => h)).bytes
        obtain ⟨bb, off, rfl, hcell⟩ := hall k hlt
        have hst := HBO2.out.set k (.int .u8 ((l[k]! ^^^ now2[p]!).toNat : Int))
        have hxx := u8xor l[k]! now2[p]!
        have hxs : now2[p]! = streamAt key nonce count k := by rw [HNOW2.out, hp]; rfl
        rw [bs_set, hxs, cross_set key nonce count l l.length k hlt, ← hxs] at hst
        have HST := Lib.hid hst
        have HXX := Lib.hid hxx
        have g1 := l[k]!.toNat_lt
        have g2 := now2[p]!.toNat_lt
        have z0 : (0 : Int) ≤ (k : Int) := by omega
        have z2 : (0 : Int) ≤ (p : Int) := by omega
        have z3 : (p : Int) < 64 := by omega
        have em : (k : Int).tmod 64 = (p : Int) := by rw [Int.tmod_eq_emod_of_nonneg z0]; omega
        clear hst hxx hxs hp tp hall
        generalize l[k]! = x at hcell HST HXX g1
        generalize now2[p]! = y at cm HST HXX g2
        go_still_tail 12, (by kernel_rfl)
        change wpList _ _ _ _ _ (w6 : World).drew
        rw [HXX.out]
        go_wp2
        go_roundw
        case rel =>
          refine ⟨k + 1, now2, by omega, by go_num, HNL2.out, fun h => ?_, HST.out.non (Fr.drew _), ?_, (HFX2.out.trans (Fr.setCell w6 ⟨O, k, none⟩ _) (fun _ h => h) (fun i h => .inl (.inl h))).thenNon (Fr.drew _)⟩
          · rw [show (k + 1) / 64 = k / 64 by omega]; exact HNOW2.out
          · exact (HBM2.out.frame (Fr.setCell w6 ⟨O, k, none⟩ _) (fun h => by have h1 : O + 1 = O := h; omega)).non (Fr.drew _)
        case measure => simp [intOf]; omega
      case neg =>
        have b0 : ((k : Int) % 64 == 0) = false := by simp; omega
        have b1 : decide ((k : Int) % 64 = 0) = false := by simp; omega
        go_upto_region 8 with (fail)
        obtain ⟨now2, hn2⟩ : ∃ now2, now2 = now := ⟨_, rfl⟩
        have HNOW2 : Hid (now2 = streamBlock key nonce ((count + k / 64) % 4294967296)) := Lib.hid (by rw [hn2]; exact HNW.out h0)
        have HNL2 : Hid (now2.length = 64) := Lib.hid (by rw [hn2]; exact HNL.out)
        have HBM2 : Hid (Blk wr (O + 1) 50 (bs now2)) := Lib.hid (by rw [hn2]; exact HBM.out)
        have HBO2 := HBO
        have HFX2 := HFX
        clear HBM HBO HFX HNW HNL hn2 b0 b1
        obtain ⟨cm, -⟩ := HBM2.out.at p _ (bs_at? now2 p (by rw [HNL2.out]; omega))
        obtain ⟨old, cu, fz⟩ := HBO2.out.has k (by rw [bs_length, List.length_append, crossTo_length, List.length_replicate]; omega)
        obtain ⟨-, -, -, hall⟩ := (HV.out.frame (HFR4.out.new HFX2.out (fun i h => by have h1 : i = O ∨ i = O + 1 := h; omega)) (fun _ _ _ _ _ h => h)).bytes
        obtain ⟨bb, off, rfl, hcell⟩ := hall k hlt
        have hst := HBO2.out.set k (.int .u8 ((l[k]! ^^^ now2[p]!).toNat : Int))
        have hxx := u8xor l[k]! now2[p]!
        have hxs : now2[p]! = streamAt key nonce count k := by rw [HNOW2.out, hp]; rfl
        rw [bs_set, hxs, cross_set key nonce count l l.length k hlt, ← hxs] at hst
        have HST := Lib.hid hst
        have HXX := Lib.hid hxx
        have g1 := l[k]!.toNat_lt
        have g2 := now2[p]!.toNat_lt
        have z0 : (0 : Int) ≤ (k : Int) := by omega
        have z2 : (0 : Int) ≤ (p : Int) := by omega
        have z3 : (p : Int) < 64 := by omega
        have em : (k : Int).tmod 64 = (p : Int) := by rw [Int.tmod_eq_emod_of_nonneg z0]; omega
        clear hst hxx hxs hp tp hall
        generalize l[k]! = x at hcell HST HXX g1
        generalize now2[p]! = y at cm HST HXX g2
        go_still_tail 12, (by kernel_rfl)
        change wpList _ _ _ _ _ (wr : World).drew
        rw [HXX.out]
        go_wp2
        go_roundw
        case rel =>
          refine ⟨k + 1, now2, by omega, by go_num, HNL2.out, fun h => ?_, HST.out.non (Fr.drew _), ?_, (HFX2.out.trans (Fr.setCell wr ⟨O, k, none⟩ _) (fun _ h => h) (fun i h => .inl (.inl h))).thenNon (Fr.drew _)⟩
          · rw [show (k + 1) / 64 = k / 64 by omega]; exact HNOW2.out
          · exact (HBM2.out.frame (Fr.setCell wr ⟨O, k, none⟩ _) (fun h => by have h1 : O + 1 = O := h; omega)).non (Fr.drew _)
        case measure => simp [intOf]; omega
    · obtain rfl : k = l.length := by omega
      have hres : Blk wr O 5 (bs (streamCross key nonce count l)) := by
        have h := HBO.out
        rwa [Nat.sub_self, List.replicate_zero, List.append_nil] at h
      have HRES := Lib.hid hres
      have HFF := Lib.hid (HFR4.out.new HFX.out (fun i h => by have h1 : i = O ∨ i = O + 1 := h; omega))
      clear hres HBO HBM HFX HNW
      go_wp2
      go_ret
      exact ⟨O, rfl, by omega, HRES.out, HFF.out⟩
end Go.Proofs.YthfpkdbhihcniaaDoor
