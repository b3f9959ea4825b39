/- package stream: the words of a block -/
import Derived.Test.YtcooibfnnjgjkaaDoorStreamOpB
namespace Go.Proofs.YtcooibfnnjgjkaaDoor
open Go.ChangeShapes Go.WideShapes Go.ChangeAt Go.RowKit

/-- the four words that stand ahead of the key's -/
def StartAt (w : World) (g : Nat) : Prop := ∀ i, i < 4 → w.cell? ⟨g, i, none⟩ = some (.int .u32 (streamStart[i]! : Int))
theorem StartAt.non {w w' : World} {g : Nat} (h : StartAt w g) (f : Fr Non w w') : StartAt w' g := fun i hi => f.cell (h i hi) (fun h => h)
set_option maxRecDepth 100000 in
set_option maxHeartbeats 4000000 in
theorem begun_any (key nonce : List UInt8) (count : Nat) (w : World) (hk : key.length = 32) (hn : nonce.length = 12) (hc : count < 4294967296) (hS : StartAt w 0) :
    Calls Tryd.prog 13 #[.agg (bs key).toArray, .agg (bs nonce).toArray, .int .u32 count] w fun e w' => e = .returned (.agg (us (begun key nonce count)).toArray) ∧ Fr Non w w' := by
  have hg : 0 < w.heap.size := World.block_lt_of_cell? _ _ (hS 0 (by omega))
  have B1 := Lib.hid (begun_start key nonce count)
  have B2 := Lib.hid (begun_key key nonce count)
  have B3 := Lib.hid (begun_count key nonce count)
  have B4 := Lib.hid (begun_nonce key nonce count)
  have BL := Lib.hid (begun_ok key nonce hc).1
  obtain ⟨b, hb⟩ : ∃ b, b = begun key nonce count := ⟨_, rfl⟩
  rw [← hb] at B1 B2 B3 B4 BL
  have HBE := Lib.hid hb
  have HK := Lib.hid hk
  have HN := Lib.hid hn
  have HS := Lib.hid hS
  have HG := Lib.hid hg
  clear hk hn hS hg hb hc
  go_enter Tryd.func13, Tryd.ntmps13
  go_wp2_with fail
  have hb1 := Blk.new w 22 (bs key)
  have hf1 := Fr.alloc w (.cells (bs key).toArray 22)
  have hs1 : (w.alloc (.cells (bs key).toArray 22)).heap.size = w.heap.size + 1 := by simp
  generalize w.alloc (.cells (bs key).toArray 22) = w1 at hb1 hf1 hs1 ⊢
  have hb2 := Blk.new w1 23 (bs nonce)
  have hf2 := Fr.alloc w1 (.cells (bs nonce).toArray 23)
  have hs2 : (w1.alloc (.cells (bs nonce).toArray 23)).heap.size = w1.heap.size + 1 := by simp
  generalize w1.alloc (.cells (bs nonce).toArray 23) = w2 at hb2 hf2 hs2 ⊢
  have hb3 : Blk (w2.alloc (.cells #[.int .u32 0, .int .u32 0, .int .u32 0, .int .u32 0, .int .u32 0, .int .u32 0, .int .u32 0, .int .u32 0, .int .u32 0, .int .u32 0, .int .u32 0, .int .u32 0, .int .u32 0, .int .u32 0, .int .u32 0, .int .u32 0] 37)) w2.heap.size 37 (us (List.replicate 16 0)) := Blk.new w2 _ _
  have hf3 := Fr.alloc w2 (.cells #[.int .u32 0, .int .u32 0, .int .u32 0, .int .u32 0, .int .u32 0, .int .u32 0, .int .u32 0, .int .u32 0, .int .u32 0, .int .u32 0, .int .u32 0, .int .u32 0, .int .u32 0, .int .u32 0, .int .u32 0, .int .u32 0] 37)
  have hs3 : (w2.alloc (.cells #[.int .u32 0, .int .u32 0, .int .u32 0, .int .u32 0, .int .u32 0, .int .u32 0, .int .u32 0, .int .u32 0, .int .u32 0, .int .u32 0, .int .u32 0, .int .u32 0, .int .u32 0, .int .u32 0, .int .u32 0, .int .u32 0] 37)).heap.size = w2.heap.size + 1 := by simp
  generalize w2.alloc (.cells #[.int .u32 0, .int .u32 0, .int .u32 0, .int .u32 0, .int .u32 0, .int .u32 0, .int .u32 0, .int .u32 0, .int .u32 0, .int .u32 0, .int .u32 0, .int .u32 0, .int .u32 0, .int .u32 0, .int .u32 0, .int .u32 0] 37) = w3 at hb3 hf3 hs3 ⊢
  have hb4 : Blk (w3.alloc (.cells #[.int .u32 0, .int .u32 0, .int .u32 0, .int .u32 0, .int .u32 0, .int .u32 0, .int .u32 0, .int .u32 0, .int .u32 0, .int .u32 0, .int .u32 0, .int .u32 0, .int .u32 0, .int .u32 0, .int .u32 0, .int .u32 0] 37)) w3.heap.size 37 (us (List.replicate 16 0)) := Blk.new w3 _ _
  have hf4 := Fr.alloc w3 (.cells #[.int .u32 0, .int .u32 0, .int .u32 0, .int .u32 0, .int .u32 0, .int .u32 0, .int .u32 0, .int .u32 0, .int .u32 0, .int .u32 0, .int .u32 0, .int .u32 0, .int .u32 0, .int .u32 0, .int .u32 0, .int .u32 0] 37)
  generalize w3.alloc (.cells #[.int .u32 0, .int .u32 0, .int .u32 0, .int .u32 0, .int .u32 0, .int .u32 0, .int .u32 0, .int .u32 0, .int .u32 0, .int .u32 0, .int .u32 0, .int .u32 0, .int .u32 0, .int .u32 0, .int .u32 0, .int .u32 0] 37) = w4 at hb4 hf4 ⊢
  rw [hs1] at hb2 hs2
  rw [hs2] at hb3 hs3
  rw [hs3] at hb4
  have HKB := Lib.hid (((hb1.non hf2).non hf3).non hf4)
  have HNB := Lib.hid ((hb2.non hf3).non hf4)
  have HRB := Lib.hid (hb3.non hf4)
  have HFR := Lib.hid (((hf1.non hf2).non hf3).non hf4)
  obtain ⟨X, hX⟩ : ∃ X, X = w.heap.size + 1 + 1 + 1 := ⟨_, rfl⟩
  rw [← hX] at hb4 ⊢
  have HX := Lib.hid hX
  rw [← fillTo_0 b] at hb4
  clear hb1 hb2 hb3 hf1 hf2 hf3 hf4 hs1 hs2 hs3 hX
  go_loopw [11] (fun i wr => ∃ k : Nat, k ≤ 4 ∧ i = .int .i64 k ∧ Blk wr X 37 (us (fillTo b k)) ∧ Fr (One X) w4 wr) (fun i _ => 4 - (intOf i).toNat)
  case atStart => exact ⟨0, by omega, rfl, hb4, Fr.refl _ _⟩
  case round =>
    obtain ⟨k, hk, rfl, hbx, hfx⟩ := hrel
    have HBX := Lib.hid hbx
    have HFX := Lib.hid hfx
    clear hbx hfx
    by_cases hlt : k < 4
    · have cs : wr.cell? ⟨0, k, none⟩ = some (.int .u32 (streamStart[k]! : Int)) := HFX.out.cell (HFR.out.cell (HS.out k hlt) (fun h => h)) (fun h => by have h1 : 0 = X := h; have := HX.out; have := HG.out; omega)
      have hst := HBX.out.set k (.int .u32 (streamStart[k]! : Int))
      rw [us_set, ← B1.out k hlt, fillTo_set b BL.out k (by omega), B1.out k hlt] at hst
      obtain ⟨old, cu, fz⟩ := HBX.out.has k (by rw [us_length, fillTo_length b BL.out k (by omega)]; omega)
      have HST := Lib.hid hst
      clear hst
      generalize streamStart[k]! = x at cs HST
      have z0 : (0 : Int) ≤ (k : Int) := by omega
      have z1 : (k : Int) < 4 := by omega
      have z2 : (k : Int) < 16 := by omega
      go_wp2
      go_roundw
      case rel => exact ⟨k + 1, by omega, by go_num, HST.out, HFX.out.trans (Fr.setCell wr ⟨X, k, none⟩ _) (fun _ h => h) (fun _ h => .inl h)⟩
      case measure => simp [intOf]; omega
    · obtain rfl : k = 4 := by omega
      go_wp2
      rw [show ((4 : Nat) : Int) = 4 from rfl]
      have hbx := HBX.out
      have hfx := HFX.out
      clear HBX HFX
      go_loopw [20] (fun i wr => ∃ k : Nat, k ≤ 8 ∧ i = .int .i64 k ∧ Blk wr X 37 (us (fillTo b (4 + k))) ∧ Fr (One X) w4 wr) (fun i _ => 8 - (intOf i).toNat)
      case atStart => exact ⟨0, by omega, rfl, hbx, hfx⟩
      case round =>
        clear hbx hfx
        obtain ⟨k, hk, rfl, hbx, hfx⟩ := hrel
        have HBX := Lib.hid hbx
        have HFX := Lib.hid hfx
        clear hbx hfx
        by_cases hlt : k < 8
        · obtain ⟨j, hj⟩ : ∃ j, j = 4 * k := ⟨_, rfl⟩
          have hc : ∀ i, i < 32 → wr.cell? ⟨w.heap.size, i, none⟩ = some (.int .u8 ((key[i]!).toNat : Int)) := fun i hi =>
            ((HKB.out.frame HFX.out (fun h => by have h1 : w.heap.size = X := h; have := HX.out; omega)).at i _ (by simp [bs, HK.out, hi])).1
          have c0 := hc j (by omega)
          have c1 := hc (j + 1) (by omega)
          have c2 := hc (j + 2) (by omega)
          have c3 := hc (j + 3) (by omega)
          have g0 := key[j]!.toNat_lt
          have g1 := key[j + 1]!.toNat_lt
          have g2 := key[j + 2]!.toNat_lt
          have g3 := key[j + 3]!.toNat_lt
          have E : Hid (b[4 + k]! = key[j]!.toNat + key[j + 1]!.toNat * 256 + key[j + 2]!.toNat * 65536 + key[j + 3]!.toNat * 16777216) := Lib.hid (by rw [B2.out k hlt, hj]; rfl)
          have hset := fillTo_set b BL.out (4 + k) (by omega)
          have HSET := Lib.hid hset
          generalize key[j]!.toNat = x0 at c0 g0 E
          generalize key[j + 1]!.toNat = x1 at c1 g1 E
          generalize key[j + 2]!.toNat = x2 at c2 g2 E
          generalize key[j + 3]!.toNat = x3 at c3 g3 E
          have hlo := run_arrLo (P := Tryd.prog) Tryd.underlying22 (by kernel_rfl) w.heap.size 0 .i64 (j : Int) j rfl (by omega)
          rw [Nat.zero_add] at hlo
          have h4 : 4 ≤ 32 - j := by omega
          have harr : ∀ w', (Instr.arrayAt 45 (.slice (some ⟨w.heap.size, j, none⟩) (32 - j) (32 - j))).run Tryd.prog w' = .ok (.pointer (some ⟨w.heap.size, j, none⟩)) w' := fun w' => run_arrayAt (P := Tryd.prog) (w := w') 45 5 4 (some ⟨w.heap.size, j, none⟩) (32 - j) (32 - j) Tryd.underlying45 h4
          have e0 : IntKind.i64.wrap (4 * (k : Int)) = (j : Int) := by rw [IntWalk.i64_in _ (by omega)]; omega
          have e1 : IntKind.i64.wrap (4 + (k : Int)) = 4 + (k : Int) := IntWalk.i64_in _ (by omega)
          have t1 : ((4 : Int) + (k : Int)).toNat = 4 + k := by omega
          have z0 : (0 : Int) ≤ (k : Int) := by omega
          have z1 : (k : Int) < 8 := by omega
          have z2 : (0 : Int) ≤ 4 + (k : Int) := by omega
          have z3 : (4 : Int) + (k : Int) < 16 := by omega
          obtain ⟨old, cu, fz⟩ := HBX.out.has (4 + k) (by rw [us_length, fillTo_length b BL.out _ (by omega)]; omega)
          clear hc hj hset
          go_wp2_with fail
          refine (wordS_any x0 x1 x2 x3 _ g0 g1 g2 g3).mono ?_
          rintro e wn ⟨rfl, hfn⟩
          have hbn := HBX.out.non hfn
          have hst := hbn.set (4 + k) (.int .u32 ((x0 + x1 * 256 + x2 * 65536 + x3 * 16777216 : Nat) : Int))
          rw [us_set, ← E.out, HSET.out, E.out] at hst
          have HST := Lib.hid hst
          have HFN := Lib.hid hfn
          replace cu := hfn.cell cu (fun h => h)
          obtain ⟨-, -, fz2⟩ := hbn.has (4 + k) (by rw [us_length, fillTo_length b BL.out _ (by omega)]; omega)
          clear hbn hst hfn c0 c1 c2 c3 hlo harr e0 fz
          generalize x0 + x1 * 256 + x2 * 65536 + x3 * 16777216 = x at HST ⊢
          go_wp2
          go_roundw
          case rel => exact ⟨k + 1, by omega, by go_num, HST.out, (HFX.out.thenNon HFN.out).trans (Fr.setCell wn ⟨X, 4 + k, none⟩ _) (fun _ h => h) (fun _ h => .inl h)⟩
          case measure => simp [intOf]; omega
        · obtain rfl : k = 8 := by omega
          obtain ⟨old, cu, fz⟩ := HBX.out.has 12 (by rw [us_length, fillTo_length b BL.out _ (by omega)]; omega)
          have h12 := HBX.out.set 12 (.int .u32 (count : Int))
          rw [us_set, ← B3.out, fillTo_set b BL.out 12 (by omega), B3.out] at h12
          have HBX2 := Lib.hid h12
          have HFX2 := Lib.hid (HFX.out.trans (Fr.setCell wr ⟨X, 12, none⟩ (.int .u32 (count : Int))) (fun _ h => h) (fun _ h => .inl h))
          go_wp2
          rw [show ((8 : Nat) : Int) = 8 from rfl]
          generalize wr.setCell ⟨X, 12, none⟩ (.int .u32 (count : Int)) = wq at HBX2 HFX2 ⊢
          have hbx := HBX2.out
          have hfx := HFX2.out
          clear HBX HFX HBX2 HFX2 h12 cu fz old
          go_loopw [35] (fun i wr => ∃ k : Nat, k ≤ 3 ∧ i = .int .i64 k ∧ Blk wr X 37 (us (fillTo b (13 + k))) ∧ Fr (One X) w4 wr) (fun i _ => 3 - (intOf i).toNat)
          case atStart => exact ⟨0, by omega, rfl, hbx, hfx⟩
          case round =>
            clear hbx hfx
            obtain ⟨k, hk, rfl, hbx, hfx⟩ := hrel
            have HBX := Lib.hid hbx
            have HFX := Lib.hid hfx
            clear hbx hfx
            by_cases hlt : k < 3
            · obtain ⟨j, hj⟩ : ∃ j, j = 4 * k := ⟨_, rfl⟩
              have hc : ∀ i, i < 12 → wr.cell? ⟨w.heap.size + 1, i, none⟩ = some (.int .u8 ((nonce[i]!).toNat : Int)) := fun i hi =>
                ((HNB.out.frame HFX.out (fun h => by have h1 : w.heap.size + 1 = X := h; have := HX.out; omega)).at i _ (by simp [bs, HN.out, hi])).1
              have c0 := hc j (by omega)
              have c1 := hc (j + 1) (by omega)
              have c2 := hc (j + 2) (by omega)
              have c3 := hc (j + 3) (by omega)
              have g0 := nonce[j]!.toNat_lt
              have g1 := nonce[j + 1]!.toNat_lt
              have g2 := nonce[j + 2]!.toNat_lt
              have g3 := nonce[j + 3]!.toNat_lt
              have E : Hid (b[13 + k]! = nonce[j]!.toNat + nonce[j + 1]!.toNat * 256 + nonce[j + 2]!.toNat * 65536 + nonce[j + 3]!.toNat * 16777216) := Lib.hid (by rw [B4.out k hlt, hj]; rfl)
              have hset := fillTo_set b BL.out (13 + k) (by omega)
              have HSET := Lib.hid hset
              generalize nonce[j]!.toNat = x0 at c0 g0 E
              generalize nonce[j + 1]!.toNat = x1 at c1 g1 E
              generalize nonce[j + 2]!.toNat = x2 at c2 g2 E
              generalize nonce[j + 3]!.toNat = x3 at c3 g3 E
              have hlo := run_arrLo (P := Tryd.prog) Tryd.underlying23 (by kernel_rfl) (w.heap.size + 1) 0 .i64 (j : Int) j rfl (by omega)
              rw [Nat.zero_add] at hlo
              have h4 : 4 ≤ 12 - j := by omega
              have harr : ∀ w', (Instr.arrayAt 45 (.slice (some ⟨w.heap.size + 1, j, none⟩) (12 - j) (12 - j))).run Tryd.prog w' = .ok (.pointer (some ⟨w.heap.size + 1, j, none⟩)) w' := fun w' => run_arrayAt (P := Tryd.prog) (w := w') 45 5 4 (some ⟨w.heap.size + 1, j, none⟩) (12 - j) (12 - j) Tryd.underlying45 h4
              have e0 : IntKind.i64.wrap (4 * (k : Int)) = (j : Int) := by rw [IntWalk.i64_in _ (by omega)]; omega
              have e1 : IntKind.i64.wrap (13 + (k : Int)) = 13 + (k : Int) := IntWalk.i64_in _ (by omega)
              have t1 : ((13 : Int) + (k : Int)).toNat = 13 + k := by omega
              have z0 : (0 : Int) ≤ (k : Int) := by omega
              have z1 : (k : Int) < 3 := by omega
              have z2 : (0 : Int) ≤ 13 + (k : Int) := by omega
              have z3 : (13 : Int) + (k : Int) < 16 := by omega
              obtain ⟨old, cu, fz⟩ := HBX.out.has (13 + k) (by rw [us_length, fillTo_length b BL.out _ (by omega)]; omega)
              clear hc hj hset
              go_wp2_with fail
              refine (wordS_any x0 x1 x2 x3 _ g0 g1 g2 g3).mono ?_
              rintro e wn ⟨rfl, hfn⟩
              have hbn := HBX.out.non hfn
              have hst := hbn.set (13 + k) (.int .u32 ((x0 + x1 * 256 + x2 * 65536 + x3 * 16777216 : Nat) : Int))
              rw [us_set, ← E.out, HSET.out, E.out] at hst
              have HST := Lib.hid hst
              have HFN := Lib.hid hfn
              replace cu := hfn.cell cu (fun h => h)
              obtain ⟨-, -, fz2⟩ := hbn.has (13 + k) (by rw [us_length, fillTo_length b BL.out _ (by omega)]; omega)
              clear hbn hst hfn c0 c1 c2 c3 hlo harr e0 fz
              generalize x0 + x1 * 256 + x2 * 65536 + x3 * 16777216 = x at HST ⊢
              go_wp2
              go_roundw
              case rel => exact ⟨k + 1, by omega, by go_num, HST.out, (HFX.out.thenNon HFN.out).trans (Fr.setCell wn ⟨X, 13 + k, none⟩ _) (fun _ h => h) (fun _ h => .inl h)⟩
              case measure => simp [intOf]; omega
            · obtain rfl : k = 3 := by omega
              have hb16 := HBX.out
              rw [show 13 + 3 = 16 from rfl, fillTo_16 b BL.out] at hb16
              have hfw := HFR.out.new HFX.out (fun i h => by have h1 : i = X := h; have := HX.out; omega)
              have hrb := HRB.out.frame HFX.out (fun h => by have h1 : w.heap.size + 1 + 1 = X := h; have := HX.out; omega)
              have hyl : (us b).length = 16 := by rw [us_length]; exact BL.out
              have hy1 := us_one b
              obtain ⟨ys, hys⟩ : ∃ ys, ys = us b := ⟨_, rfl⟩
              rw [← hys] at hb16 hyl hy1
              have HYS : Hid (ys = us (begun key nonce count)) := Lib.hid (by rw [hys, HBE.out])
              have hi : (Tryd.prog.info? 37).map (·.size) = some ys.length := by rw [hyl]; kernel_rfl
              clear hys HBX HFX HFR HRB HKB HNB HS B1 B2 B3 B4 HBE BL
              have HB16 := Lib.hid (And.intro hb16 (And.intro hfw (And.intro hrb (And.intro hyl (And.intro hy1 hi)))))
              clear hb16 hfw hrb hyl hy1 hi
              go_upto_region 18 with (fail)
              refine wp_region_lit ?_
              refine wpList_whole rfl rfl 37 48 (.tmp 7) (.tmp 6) rfl rfl rfl rfl X (w.heap.size + 1 + 1) _ _ ys _ HB16.out.1 HB16.out.2.2.1 (by rw [HB16.out.2.2.2.1]; rfl) _ Tryd.underlying37 rfl HB16.out.2.2.2.2.2 HB16.out.2.2.2.2.1 (by simp) rfl (fun _ => rfl) ?_
              intro w' hb' hf' _
              have HRV := Lib.hid (hb'.loadVar (P := Tryd.prog) 37 _ Tryd.underlying37 rfl HB16.out.2.2.2.2.2)
              have HFF : Hid (Fr Non w w') := Lib.hid (HB16.out.2.1.new hf' (fun i h => by have h1 : i = w.heap.size + 1 + 1 := h; omega))
              clear hb' hf' HB16
              repeat (first | go_skip | go_step)
              refine bodyPost_ret (v := .agg ys.toArray) (by have h := HRV.out; simp [results, Tryd.results13, asAddr, h]) rfl ⟨by rw [HYS.out], HFF.out⟩
end Go.Proofs.YtcooibfnnjgjkaaDoor
