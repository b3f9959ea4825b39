/- package stream: a block -/
import Derived.Test.YtcooibfnnjgjkaaDoorStreamOpE
namespace Go.Proofs.YtcooibfnnjgjkaaDoor
open Go.ChangeShapes Go.WideShapes Go.ChangeAt Go.RowKit

set_option maxRecDepth 100000 in
set_option maxHeartbeats 4000000 in
theorem block_any (key nonce : List UInt8) (count : Nat) (w : World) (hk : key.length = 32) (hn : nonce.length = 12) (hc : count < 4294967296) (hS : StartAt w 0) :
    Calls Tryd.prog 9 #[.agg (bs key).toArray, .agg (bs nonce).toArray, .int .u32 count] w fun e w' => e = .returned (.agg (bs (streamBlock key nonce count)).toArray) ∧ Fr Non w w' := by
  have hok := begun_ok key nonce hc
  have HC := Lib.hid hc
  have HK := Lib.hid hk
  have HN := Lib.hid hn
  have HS := Lib.hid hS
  have hi16 : ∀ y : List Nat, Ws y → (Tryd.prog.info? 37).map (·.size) = some (us y).length := fun y h => by rw [us_length, h.1]; kernel_rfl
  have HI16 := Lib.hid hi16
  have hzv : ∀ w, (zeroValue 37).run Tryd.prog w = .ok (.agg (us (List.replicate 16 0)).toArray) w := fun _ => by kernel_rfl
  have HZV := Lib.hid hzv
  have hzl : ∀ y : List Nat, Ws y → (us (List.replicate 16 0)).length = (us y).length := fun y h => by rw [us_length, us_length, h.1]; rfl
  have HZL := Lib.hid hzl
  have hik : (Tryd.prog.info? 22).map (·.size) = some (bs key).length := by rw [bs_length, hk]; kernel_rfl
  have hin : (Tryd.prog.info? 23).map (·.size) = some (bs nonce).length := by rw [bs_length, hn]; kernel_rfl
  have HIK := Lib.hid (And.intro hik hin)
  clear hk hn hS hi16 hik hin hc hzv hzl
  obtain ⟨x, hx⟩ : ∃ x, x = begun key nonce count := ⟨_, rfl⟩
  rw [← hx] at hok
  have HX := Lib.hid hx
  have HOK := Lib.hid hok
  have HE : Hid (streamBlock key nonce count = wordBytes (plusTo (stirs 10 x) x 16) 64) := Lib.hid (by rw [hx]; rfl)
  clear hx hok
  go_enter Tryd.func9, Tryd.ntmps9
  go_upto_region 1 with (fail)
  have hb1 := Blk.new w 22 (bs key)
  have hf1 := Fr.alloc w (.cells (bs key).toArray 22)
  have hs1 : (w.alloc (.cells (bs key).toArray 22)).heap.size = w.heap.size + 1 := by simp
  generalize w.alloc (.cells (bs key).toArray 22) = w1 at hb1 hf1 hs1 ⊢
  have hb2 := Blk.new w1 23 (bs nonce)
  have hf2 := Fr.alloc w1 (.cells (bs nonce).toArray 23)
  have hs2 : (w1.alloc (.cells (bs nonce).toArray 23)).heap.size = w1.heap.size + 1 := by simp
  generalize w1.alloc (.cells (bs nonce).toArray 23) = w2 at hb2 hf2 hs2 ⊢
  have hb3 : Blk (w2.alloc (.cells #[.int .u8 0, .int .u8 0, .int .u8 0, .int .u8 0, .int .u8 0, .int .u8 0, .int .u8 0, .int .u8 0, .int .u8 0, .int .u8 0, .int .u8 0, .int .u8 0, .int .u8 0, .int .u8 0, .int .u8 0, .int .u8 0, .int .u8 0, .int .u8 0, .int .u8 0, .int .u8 0, .int .u8 0, .int .u8 0, .int .u8 0, .int .u8 0, .int .u8 0, .int .u8 0, .int .u8 0, .int .u8 0, .int .u8 0, .int .u8 0, .int .u8 0, .int .u8 0, .int .u8 0, .int .u8 0, .int .u8 0, .int .u8 0, .int .u8 0, .int .u8 0, .int .u8 0, .int .u8 0, .int .u8 0, .int .u8 0, .int .u8 0, .int .u8 0, .int .u8 0, .int .u8 0, .int .u8 0, .int .u8 0, .int .u8 0, .int .u8 0, .int .u8 0, .int .u8 0, .int .u8 0, .int .u8 0, .int .u8 0, .int .u8 0, .int .u8 0, .int .u8 0, .int .u8 0, .int .u8 0, .int .u8 0, .int .u8 0, .int .u8 0, .int .u8 0] 28)) w2.heap.size 28 (bs (List.replicate 64 0)) := Blk.new w2 _ _
  have hf3 := Fr.alloc w2 (.cells #[.int .u8 0, .int .u8 0, .int .u8 0, .int .u8 0, .int .u8 0, .int .u8 0, .int .u8 0, .int .u8 0, .int .u8 0, .int .u8 0, .int .u8 0, .int .u8 0, .int .u8 0, .int .u8 0, .int .u8 0, .int .u8 0, .int .u8 0, .int .u8 0, .int .u8 0, .int .u8 0, .int .u8 0, .int .u8 0, .int .u8 0, .int .u8 0, .int .u8 0, .int .u8 0, .int .u8 0, .int .u8 0, .int .u8 0, .int .u8 0, .int .u8 0, .int .u8 0, .int .u8 0, .int .u8 0, .int .u8 0, .int .u8 0, .int .u8 0, .int .u8 0, .int .u8 0, .int .u8 0, .int .u8 0, .int .u8 0, .int .u8 0, .int .u8 0, .int .u8 0, .int .u8 0, .int .u8 0, .int .u8 0, .int .u8 0, .int .u8 0, .int .u8 0, .int .u8 0, .int .u8 0, .int .u8 0, .int .u8 0, .int .u8 0, .int .u8 0, .int .u8 0, .int .u8 0, .int .u8 0, .int .u8 0, .int .u8 0, .int .u8 0, .int .u8 0] 28)
  have hs3 : (w2.alloc (.cells #[.int .u8 0, .int .u8 0, .int .u8 0, .int .u8 0, .int .u8 0, .int .u8 0, .int .u8 0, .int .u8 0, .int .u8 0, .int .u8 0, .int .u8 0, .int .u8 0, .int .u8 0, .int .u8 0, .int .u8 0, .int .u8 0, .int .u8 0, .int .u8 0, .int .u8 0, .int .u8 0, .int .u8 0, .int .u8 0, .int .u8 0, .int .u8 0, .int .u8 0, .int .u8 0, .int .u8 0, .int .u8 0, .int .u8 0, .int .u8 0, .int .u8 0, .int .u8 0, .int .u8 0, .int .u8 0, .int .u8 0, .int .u8 0, .int .u8 0, .int .u8 0, .int .u8 0, .int .u8 0, .int .u8 0, .int .u8 0, .int .u8 0, .int .u8 0, .int .u8 0, .int .u8 0, .int .u8 0, .int .u8 0, .int .u8 0, .int .u8 0, .int .u8 0, .int .u8 0, .int .u8 0, .int .u8 0, .int .u8 0, .int .u8 0, .int .u8 0, .int .u8 0, .int .u8 0, .int .u8 0, .int .u8 0, .int .u8 0, .int .u8 0, .int .u8 0] 28)).heap.size = w2.heap.size + 1 := by simp
  generalize w2.alloc (.cells #[.int .u8 0, .int .u8 0, .int .u8 0, .int .u8 0, .int .u8 0, .int .u8 0, .int .u8 0, .int .u8 0, .int .u8 0, .int .u8 0, .int .u8 0, .int .u8 0, .int .u8 0, .int .u8 0, .int .u8 0, .int .u8 0, .int .u8 0, .int .u8 0, .int .u8 0, .int .u8 0, .int .u8 0, .int .u8 0, .int .u8 0, .int .u8 0, .int .u8 0, .int .u8 0, .int .u8 0, .int .u8 0, .int .u8 0, .int .u8 0, .int .u8 0, .int .u8 0, .int .u8 0, .int .u8 0, .int .u8 0, .int .u8 0, .int .u8 0, .int .u8 0, .int .u8 0, .int .u8 0, .int .u8 0, .int .u8 0, .int .u8 0, .int .u8 0, .int .u8 0, .int .u8 0, .int .u8 0, .int .u8 0, .int .u8 0, .int .u8 0, .int .u8 0, .int .u8 0, .int .u8 0, .int .u8 0, .int .u8 0, .int .u8 0, .int .u8 0, .int .u8 0, .int .u8 0, .int .u8 0, .int .u8 0, .int .u8 0, .int .u8 0, .int .u8 0] 28) = w3 at hb3 hf3 hs3 ⊢
  rw [hs1] at hb2 hs2
  rw [hs2] at hb3 hs3
  have HKB := Lib.hid ((hb1.non hf2).non hf3)
  have HNB := Lib.hid (hb2.non hf3)
  have HRB := Lib.hid hb3
  have HFR := Lib.hid ((hf1.non hf2).non hf3)
  have HS3 := Lib.hid hs3
  clear hb1 hb2 hb3 hf1 hf2 hf3 hs1 hs2 hs3
  refine wp_region_lit ?_
  refine wpList_load_mid rfl _ _ rfl w.heap.size 0 rfl (bs key) _ (HKB.out.range 0 _ (fun j v hv => by simpa using hv)) Tryd.underlying22 rfl HIK.out.1 ?_
  refine wpList_load_mid rfl _ _ rfl (w.heap.size + 1) 0 rfl (bs nonce) _ (HNB.out.range 0 _ (fun j v hv => by simpa using hv)) Tryd.underlying23 rfl HIK.out.2 ?_
  go_wp2_with fail
  refine (begun_any key nonce count _ HK.out HN.out HC.out (HS.out.non HFR.out)).mono ?_
  rintro e w4 ⟨rfl, hf4⟩
  rw [← HX.out]
  go_upto_region 2 with ((with_reducible show wpList _ _ _ (({ op := .alloc _, .. } : Oper) :: _) _ _); refine wpList_var rfl rfl 37 7 (.tmp 13) rfl rfl rfl rfl _ (us x) HZV.out (HZL.out x HOK.out) (HI16.out x HOK.out) (us_one _) (by simp) (fun _ => rfl) ?_; intro w5 hb5 hf5 hs5; simp only [List.set_cons_succ, List.set_cons_zero])
  obtain ⟨X, hX⟩ : ∃ X, X = w4.heap.size := ⟨_, rfl⟩
  rw [← hX] at hb5 hs5 ⊢
  have hwX : w.heap.size + 1 + 1 + 1 ≤ X := by have := hf4.size; have := HS3.out; omega
  have HFR5 := Lib.hid ((HFR.out.non hf4).non hf5)
  have HRB5 := Lib.hid ((HRB.out.non hf4).non hf5)
  have HXB5 := Lib.hid hb5
  have HS5 := Lib.hid hs5
  clear hX hf4 hf5 hb5 hs5 HKB HNB HRB HFR HS3 HIK HS HK HN HC
  refine wp_region_lit ?_
  refine wpList_load_mid rfl _ _ rfl X 0 rfl (us x) _ (HXB5.out.range 0 _ (fun j v hv => by simpa using hv)) Tryd.underlying37 rfl (HI16.out x HOK.out) ?_
  go_wp2_with fail
  refine (stirred_any x _ HOK.out).mono ?_
  rintro e w6 ⟨rfl, hf6⟩
  have hso := stirs_ok HOK.out 10
  generalize stirs 10 x = s at HE hso ⊢
  have HSO := Lib.hid hso
  clear hso
  go_upto_region 3 with ((with_reducible show wpList _ _ _ (({ op := .alloc _, .. } : Oper) :: _) _ _); refine wpList_var rfl rfl 37 8 (.tmp 15) rfl rfl rfl rfl _ (us s) HZV.out (HZL.out s HSO.out) (HI16.out s HSO.out) (us_one _) (by simp) (fun _ => rfl) ?_; intro w7 hb7 hf7 hs7; simp only [List.set_cons_succ, List.set_cons_zero])
  obtain ⟨Y, hY⟩ : ∃ Y, Y = w6.heap.size := ⟨_, rfl⟩
  rw [← hY] at hb7 hs7 ⊢
  have hXY : X < Y := by have := hf6.size; have := HS5.out; omega
  have HFR7 := Lib.hid ((HFR5.out.non hf6).non hf7)
  have HRB7 := Lib.hid ((HRB5.out.non hf6).non hf7)
  have HXB7 := Lib.hid ((HXB5.out.non hf6).non hf7)
  have HYB7 := Lib.hid hb7
  clear hY hf6 hf7 hb7 hs7 HFR5 HRB5 HXB5 HS5 HZV HZL
  go_wp2_with fail
  go_loopw [16] (fun i wr => ∃ k : Nat, k ≤ 16 ∧ i = .int .i64 k ∧ Blk wr Y 37 (us (plusTo s x k)) ∧ Fr (One Y) w7 wr) (fun i _ => 16 - (intOf i).toNat)
  case atStart => exact ⟨0, by omega, rfl, (by have e : plusTo s x 0 = s := (by simp [plusTo]); rw [e]; exact HYB7.out), Fr.refl _ _⟩
  case round =>
    obtain ⟨k, hk, rfl, hbx, hfx⟩ := hrel
    have HBX := Lib.hid hbx
    have HFX := Lib.hid hfx
    clear hbx hfx
    by_cases hlt : k < 16
    · obtain ⟨cy, fy⟩ := HBX.out.at k _ (us_at? _ _ _ (plusTo_at s x k (by rw [HSO.out.1]; exact hlt)))
      obtain ⟨cx, -⟩ := (HXB7.out.frame HFX.out (fun h => by have h1 : X = Y := h; omega)).at k _ (us_at x k (by rw [HOK.out.1]; exact hlt))
      have hst := HBX.out.set k (.int .u32 (((s[k]! + x[k]!) % 4294967296 : Nat) : Int))
      rw [us_set, plusTo_set s x k (by rw [HSO.out.1]; exact hlt)] at hst
      have HST := Lib.hid hst
      have o1 := get_lt HSO.out.2 k
      have o2 := get_lt HOK.out.2 k
      have z1 : (k : Int) < 16 := by omega
      clear hst
      generalize s[k]! = a at cy HST o1
      generalize x[k]! = b at cx HST o2
      go_upto_region 6 with (fail)
      go_still_tail 8, (by kernel_rfl)
      change wpList _ _ _ _ _ wr.drew
      have e : IntKind.u32.wrap ((a : Int) + (b : Int)) = (((a + b) % 4294967296 : Nat) : Int) := by go_num
      rw [e]
      generalize (a + b) % 4294967296 = v at HST ⊢
      clear e
      go_wp2
      go_roundw
      case rel => exact ⟨k + 1, by omega, by go_num, HST.out.non (Fr.drew _), (HFX.out.trans (Fr.setCell wr ⟨Y, k, none⟩ (.int .u32 (v : Int))) (fun _ h => h) (fun _ h => .inl h)).thenNon (Fr.drew _)⟩
      case measure => simp [intOf]; omega
    · obtain rfl : k = 16 := by omega
      have hpo : Ws (plusTo s x 16) := ⟨by rw [plusTo_length s x 16 (by rw [HSO.out.1]; exact Nat.le_refl _)]; exact HSO.out.1, plusTo_lt x 16 HSO.out.2⟩
      generalize plusTo s x 16 = z at HBX HE hpo
      have HPO := Lib.hid hpo
      have HFZ := Lib.hid (HFR7.out.new HFX.out (fun i h => by have h1 : i = Y := h; omega))
      have HRZ := Lib.hid (HRB7.out.frame HFX.out (fun h => by have h1 : w.heap.size + 1 + 1 = Y := h; omega))
      clear hpo HFX HFR7 HRB7 HXB7 HYB7
      go_upto_region 8 with (fail)
      refine wp_region_lit ?_
      refine wpList_load_mid rfl _ _ rfl Y 0 rfl (us z) _ (HBX.out.range 0 _ (fun j v hv => by simpa using hv)) Tryd.underlying37 rfl (HI16.out z HPO.out) ?_
      go_wp2_with fail
      refine (laidS_any z _ HPO.out).mono ?_
      rintro e w8 ⟨rfl, hf8⟩
      rw [← HE.out]
      have hyl : (bs (streamBlock key nonce count)).length = 64 := by rw [bs_length, streamBlock_length]
      have hy1 := bs_one (streamBlock key nonce count)
      have HF8 := Lib.hid (HFZ.out.non hf8)
      have HR8 := Lib.hid (HRZ.out.non hf8)
      obtain ⟨ys, hys⟩ : ∃ ys, ys = bs (streamBlock key nonce count) := ⟨_, rfl⟩
      rw [← hys] at hyl hy1 ⊢
      have HYS := Lib.hid hys
      have hi : (Tryd.prog.info? 28).map (·.size) = some ys.length := by rw [hyl]; kernel_rfl
      have HHI := Lib.hid (And.intro hyl (And.intro hy1 hi))
      clear hyl hy1 hi hys hf8 HE HFZ HRZ HBX HPO HSO HOK HX HI16
      dsimp only
      repeat (first | go_skip | ((with_reducible show wpList _ _ _ (({ op := .store _ _ _, .. } : Oper) :: _) _ _); refine wpList_put rfl 28 (.tmp 6) (.tmp 29) rfl rfl (w.heap.size + 1 + 1) _ _ ys HR8.out (by rw [HHI.out.1]; rfl) HHI.out.2.2 HHI.out.2.1 rfl rfl ?_; intro w9 hb9 hf9 _) | go_step | go_back)
      have HRV := Lib.hid (hb9.loadVar (P := Tryd.prog) 28 _ Tryd.underlying28 rfl HHI.out.2.2)
      have HFF : Hid (Fr Non w w9) := Lib.hid (HF8.out.new hf9 (fun i h => by have h1 : i = w.heap.size + 1 + 1 := h; omega))
      clear hb9 hf9 HR8 HF8 HHI
      refine bodyPost_ret (v := .agg ys.toArray) (by have h := HRV.out; simp [results, Tryd.results9, asAddr, h]) rfl ⟨by rw [HYS.out], HFF.out⟩
end Go.Proofs.YtcooibfnnjgjkaaDoor
