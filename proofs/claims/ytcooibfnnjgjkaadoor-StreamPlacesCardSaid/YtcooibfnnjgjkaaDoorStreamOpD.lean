/- package stream: the rounds -/
import Derived.Test.YtcooibfnnjgjkaaDoorStreamOpC
namespace Go.Proofs.YtcooibfnnjgjkaaDoor
open Go.ChangeShapes Go.WideShapes Go.ChangeAt Go.RowKit

theorem fourDown (k : Nat) (h : k < 4) : Four k (4 + k) (8 + k) (12 + k) := by constructor <;> omega
theorem fourAslant (k : Nat) (h : k < 4) : Four k (4 + (k + 1) % 4) (8 + (k + 2) % 4) (12 + (k + 3) % 4) := by constructor <;> omega
set_option maxRecDepth 100000 in
set_option maxHeartbeats 4000000 in
theorem stirred_any (y : List Nat) (w : World) (hy : Ws y) :
    Calls Tryd.prog 14 #[.agg (us y).toArray] w fun e w' => e = .returned (.agg (us (stirs 10 y)).toArray) ∧ Fr Non w w' := by
  have HY := Lib.hid hy
  clear hy
  go_enter Tryd.func14, Tryd.ntmps14
  go_wp2_with fail
  have hb1 := Blk.new w 37 (us y)
  have hf1 := Fr.alloc w (.cells (us y).toArray 37)
  have hs1 : (w.alloc (.cells (us y).toArray 37)).heap.size = w.heap.size + 1 := by simp
  generalize w.alloc (.cells (us y).toArray 37) = w1 at hb1 hf1 hs1 ⊢
  have hb2 : Blk (w1.alloc (.cells #[.int .u32 0, .int .u32 0, .int .u32 0, .int .u32 0, .int .u32 0, .int .u32 0, .int .u32 0, .int .u32 0, .int .u32 0, .int .u32 0, .int .u32 0, .int .u32 0, .int .u32 0, .int .u32 0, .int .u32 0, .int .u32 0] 37)) w1.heap.size 37 (us (List.replicate 16 0)) := Blk.new w1 _ _
  have hf2 := Fr.alloc w1 (.cells #[.int .u32 0, .int .u32 0, .int .u32 0, .int .u32 0, .int .u32 0, .int .u32 0, .int .u32 0, .int .u32 0, .int .u32 0, .int .u32 0, .int .u32 0, .int .u32 0, .int .u32 0, .int .u32 0, .int .u32 0, .int .u32 0] 37)
  generalize w1.alloc (.cells #[.int .u32 0, .int .u32 0, .int .u32 0, .int .u32 0, .int .u32 0, .int .u32 0, .int .u32 0, .int .u32 0, .int .u32 0, .int .u32 0, .int .u32 0, .int .u32 0, .int .u32 0, .int .u32 0, .int .u32 0, .int .u32 0] 37) = w2 at hb2 hf2 ⊢
  rw [hs1] at hb2
  have hbx := hb1.non hf2
  have HRB := Lib.hid hb2
  have HFR := Lib.hid (hf1.non hf2)
  obtain ⟨X, hX⟩ : ∃ X, X = w.heap.size := ⟨_, rfl⟩
  rw [← hX] at hbx ⊢
  have HX := Lib.hid hX
  clear hb1 hb2 hf1 hf2 hs1 hX
  have HB0 := Lib.hid hbx
  clear hbx
  go_loopw [5] (fun i wr => ∃ m : Nat, m ≤ 10 ∧ i = .int .i64 m ∧ Blk wr X 37 (us (stirs m y)) ∧ Fr (One X) w2 wr) (fun i _ => 10 - (intOf i).toNat)
  case atStart => exact ⟨0, by omega, rfl, HB0.out, Fr.refl _ _⟩
  case round =>
    obtain ⟨m, hm, rfl, hbx, hfx⟩ := hrel
    have HBX := Lib.hid hbx
    have HFX := Lib.hid hfx
    clear hbx hfx
    by_cases hmt : m < 10
    · have hok := stirs_ok HY.out m
      have HM : Hid (aslant 4 (downs 4 (stirs m y)) = stirs (m + 1) y) := Lib.hid rfl
      generalize stirs m y = s at HBX hok HM
      have HOK := Lib.hid hok
      have zm : (m : Int) < 10 := by omega
      clear hok
      go_wp2
      go_loopw [7] (fun i wq => ∃ k : Nat, k ≤ 4 ∧ i = .int .i64 k ∧ Blk wq X 37 (us (downs k s)) ∧ Fr (One X) w2 wq) (fun i _ => 4 - (intOf i).toNat)
      case atStart => exact ⟨0, by omega, rfl, HBX.out, HFX.out⟩
      case round =>
        obtain ⟨k, hk, rfl, hbq, hfq⟩ := hrel
        have HBQ := Lib.hid hbq
        have HFQ := Lib.hid hfq
        clear hbq hfq
        by_cases hlt : k < 4
        · obtain ⟨p4, h4⟩ : ∃ p, p = 4 + k := ⟨_, rfl⟩
          obtain ⟨p8, h8⟩ : ∃ p, p = 8 + k := ⟨_, rfl⟩
          obtain ⟨p12, h12⟩ : ∃ p, p = 12 + k := ⟨_, rfl⟩
          have e4 : IntKind.i64.wrap (4 + (k : Int)) = (p4 : Int) := by rw [IntWalk.i64_in _ (by omega)]; omega
          have e8 : IntKind.i64.wrap (8 + (k : Int)) = (p8 : Int) := by rw [IntWalk.i64_in _ (by omega)]; omega
          have e12 : IntKind.i64.wrap (12 + (k : Int)) = (p12 : Int) := by rw [IntWalk.i64_in _ (by omega)]; omega
          have hfour := fourDown k hlt
          have HD : Hid (quarter (downs k s) k p4 p8 p12 = downs (k + 1) s) := Lib.hid (by rw [h4, h8, h12]; rfl)
          rw [← h4, ← h8, ← h12] at hfour
          have HFO := Lib.hid hfour
          have z1 : (k : Int) < 4 := by omega
          clear hfour h4 h8 h12
          go_wp2_with fail
          refine (quarterS_any X 37 (downs k s) k p4 p8 p12 _ HBQ.out (downs_ok HOK.out k) HFO.out).mono ?_
          rintro e wn ⟨rfl, hbn, hfn⟩
          rw [HD.out] at hbn
          have HBN := Lib.hid hbn
          have HFN := Lib.hid (HFQ.out.trans hfn (fun _ h => h) (fun _ h => .inl h))
          clear hbn hfn e4 e8 e12
          go_wp2
          go_roundw
          case rel => exact ⟨k + 1, by omega, by go_num, HBN.out, HFN.out⟩
          case measure => simp [intOf]; omega
        · obtain rfl : k = 4 := by omega
          go_wp2
          rw [show ((4 : Nat) : Int) = 4 from rfl]
          obtain ⟨s2, hs2⟩ : ∃ s2, s2 = downs 4 s := ⟨_, rfl⟩
          have HBQ2 : Hid (Blk _ X 37 (us s2)) := Lib.hid (by rw [hs2]; exact HBQ.out)
          have HOK2 : Hid (Ws s2) := Lib.hid (by rw [hs2]; exact downs_ok HOK.out 4)
          have HM2 : Hid (aslant 4 s2 = stirs (m + 1) y) := Lib.hid (by rw [hs2]; exact HM.out)
          clear hs2 HBQ HM HOK
          go_loopw [19] (fun i wq => ∃ k : Nat, k ≤ 4 ∧ i = .int .i64 k ∧ Blk wq X 37 (us (aslant k s2)) ∧ Fr (One X) w2 wq) (fun i _ => 4 - (intOf i).toNat)
          case atStart => exact ⟨0, by omega, rfl, HBQ2.out, HFQ.out⟩
          case round =>
            clear HFQ HBQ2
            obtain ⟨k, hk, rfl, hbq, hfq⟩ := hrel
            have HBQ := Lib.hid hbq
            have HFQ := Lib.hid hfq
            clear hbq hfq
            by_cases hlt : k < 4
            · obtain ⟨p4, h4⟩ : ∃ p, p = 4 + (k + 1) % 4 := ⟨_, rfl⟩
              obtain ⟨p8, h8⟩ : ∃ p, p = 8 + (k + 2) % 4 := ⟨_, rfl⟩
              obtain ⟨p12, h12⟩ : ∃ p, p = 12 + (k + 3) % 4 := ⟨_, rfl⟩
              have e4 : Hid ((4 : Int) + ((k : Int) + 1) % 4 = (p4 : Int)) := Lib.hid (by omega)
              have e8 : Hid ((8 : Int) + ((k : Int) + 2) % 4 = (p8 : Int)) := Lib.hid (by omega)
              have e12 : Hid ((12 : Int) + ((k : Int) + 3) % 4 = (p12 : Int)) := Lib.hid (by omega)
              have hfour := fourAslant k hlt
              have HD : Hid (quarter (aslant k s2) k p4 p8 p12 = aslant (k + 1) s2) := Lib.hid (by rw [h4, h8, h12]; rfl)
              rw [← h4, ← h8, ← h12] at hfour
              have HFO := Lib.hid hfour
              have z1 : (k : Int) < 4 := by omega
              clear hfour h4 h8 h12
              go_wp2_with fail
              rw [e4.out, e8.out, e12.out]
              refine (quarterS_any X 37 (aslant k s2) k p4 p8 p12 _ HBQ.out (aslant_ok HOK2.out k) HFO.out).mono ?_
              rintro e wn ⟨rfl, hbn, hfn⟩
              rw [HD.out] at hbn
              have HBN := Lib.hid hbn
              have HFN := Lib.hid (HFQ.out.trans hfn (fun _ h => h) (fun _ h => .inl h))
              clear hbn hfn
              go_wp2
              go_roundw
              case rel => exact ⟨k + 1, by omega, by go_num, HBN.out, HFN.out⟩
              case measure => simp [intOf]; omega
            · obtain rfl : k = 4 := by omega
              have HBN : Hid (Blk _ X 37 (us (stirs (m + 1) y))) := Lib.hid (by rw [← HM2.out]; exact HBQ.out)
              clear HBQ HM2 HOK2
              go_wp2
              go_roundw
              case rel => exact ⟨m + 1, by omega, by go_num, HBN.out, HFQ.out⟩
              case measure => simp [intOf]; omega
    · obtain rfl : m = 10 := by omega
      have hw := stirs_ok HY.out 10
      have hfw := HFR.out.new HFX.out (fun i h => by have h1 : i = X := h; have := HX.out; omega)
      have hrb := HRB.out.frame HFX.out (fun h => by have h1 : w.heap.size + 1 = X := h; have := HX.out; omega)
      have hyl : (us (stirs 10 y)).length = 16 := by rw [us_length]; exact hw.1
      have hy1 := us_one (stirs 10 y)
      obtain ⟨ys, hys⟩ : ∃ ys, ys = us (stirs 10 y) := ⟨_, rfl⟩
      have hb16 : Blk wr X 37 ys := by rw [hys]; exact HBX.out
      rw [← hys] at hyl hy1
      have HYS := Lib.hid hys
      have hi : (Tryd.prog.info? 37).map (·.size) = some ys.length := by rw [hyl]; kernel_rfl
      have HB16 := Lib.hid (And.intro hb16 (And.intro hfw (And.intro hrb (And.intro hyl (And.intro hy1 hi)))))
      clear hys HBX HFX HFR HRB hb16 hfw hrb hyl hy1 hi hw
      go_upto_region 14 with (fail)
      refine wp_region_lit ?_
      refine wpList_whole rfl rfl 37 38 (.tmp 1) (.tmp 2) rfl rfl rfl rfl X (X + 1) _ _ ys _ HB16.out.1 (by rw [HX.out]; exact HB16.out.2.2.1) (by rw [HB16.out.2.2.2.1]; rfl) _ Tryd.underlying37 rfl HB16.out.2.2.2.2.2 HB16.out.2.2.2.2.1 (by simp) rfl (fun _ => rfl) ?_
      intro w' hb' hf' _
      have HRV := Lib.hid (hb'.loadVar (P := Tryd.prog) 37 _ Tryd.underlying37 rfl HB16.out.2.2.2.2.2)
      have HFF : Hid (Fr Non w w') := Lib.hid (HB16.out.2.1.new hf' (fun i h => by have h1 : i = X + 1 := h; have := HX.out; omega))
      clear hb' hf' HB16
      repeat (first | go_skip | go_step)
      refine bodyPost_ret (v := .agg ys.toArray) (by have h := HRV.out; simp [results, Tryd.results14, asAddr, h]) rfl ⟨by rw [HYS.out], HFF.out⟩
end Go.Proofs.YtcooibfnnjgjkaaDoor
