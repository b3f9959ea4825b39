/- GRefStrB: StreamRefC, StreamRefD, StreamRefE, one behind the other. -/
import Derived.Test.YthfpkdbhihcniaaDoorGRefStrA
import Derived.Test.YthfpkdbhihcniaaDoorGround
import Derived.Deep.RegionHeldLaw

/- the document's stream: a word -/
namespace Go.Proofs.YthfpkdbhihcniaaDoor
open Go.ChangeShapes Go.WideShapes Go.ChangeAt Go.RowKit

set_option maxRecDepth 100000 in
set_option maxHeartbeats 1000000 in
theorem wordL_any (v : Value) (l : List UInt8) (i : Nat) (w : World) (hv : Row w v (bs l)) (hi : i + 4 ≤ l.length) :
    Calls Tryd.prog 39 #[v, .int .i64 i] w fun e w' => e = .returned (.int .u32 (le4 l i : Nat)) ∧ ∃ n, w' = w.drewN n := by
  obtain ⟨a, c, rfl, _⟩ := id hv
  obtain ⟨hn, hlc, hm, h1⟩ := hv.bytes
  rw [bs_length] at *
  clear hn
  unfold maxLen at hm
  have hbo : ∃ b off, a = some ⟨b, off, none⟩ := by obtain ⟨b, off, e, _⟩ := h1 0 (by omega); exact ⟨b, off, e⟩
  obtain ⟨b, off, rfl⟩ := hbo
  have hc : ∀ j, j < l.length → w.cell? ⟨b, off + j, none⟩ = some (.int .u8 ((l[j]!).toNat : Int)) := by
    intro j hj
    obtain ⟨b', off', e, h⟩ := h1 j hj
    injection e with e
    injection e with e1 e2
    subst e1 e2
    exact h
  have c0 := hc i (by omega)
  have c1 := hc (i + 1) (by omega)
  have c2 := hc (i + 2) (by omega)
  have c3 := hc (i + 3) (by omega)
  have g0 := l[i]!.toNat_lt
  have g1 := l[i + 1]!.toNat_lt
  have g2 := l[i + 2]!.toNat_lt
  have g3 := l[i + 3]!.toNat_lt
  have E : Hid (le4 l i = l[i]!.toNat + l[i + 1]!.toNat * 256 + l[i + 2]!.toNat * 65536 + l[i + 3]!.toNat * 16777216) := Lib.hid rfl
  generalize l[i]!.toNat = x0 at c0 g0 E
  generalize l[i + 1]!.toNat = x1 at c1 g1 E
  generalize l[i + 2]!.toNat = x2 at c2 g2 E
  generalize l[i + 3]!.toNat = x3 at c3 g3 E
  have hz : (0 : Int) ≤ (i : Int) := by omega
  have hz1 : (0 : Int) ≤ (i : Int) + 1 := by omega
  have hz2 : (0 : Int) ≤ (i : Int) + 2 := by omega
  have hz3 : (0 : Int) ≤ (i : Int) + 3 := by omega
  have hy : (i : Int) < (l.length : Int) := by omega
  have hy1 : (i : Int) + 1 < (l.length : Int) := by omega
  have hy2 : (i : Int) + 2 < (l.length : Int) := by omega
  have hy3 : (i : Int) + 3 < (l.length : Int) := by omega
  have t1 : ((i : Int) + 1).toNat = i + 1 := by omega
  have t2 : ((i : Int) + 2).toNat = i + 2 := by omega
  have t3 : ((i : Int) + 3).toNat = i + 3 := by omega
  have e1 : IntKind.i64.wrap ((i : Int) + 1) = (i : Int) + 1 := IntWalk.i64_in _ (by omega)
  have e2 : IntKind.i64.wrap ((i : Int) + 2) = (i : Int) + 2 := IntWalk.i64_in _ (by omega)
  have e3 : IntKind.i64.wrap ((i : Int) + 3) = (i : Int) + 3 := IntWalk.i64_in _ (by omega)
  clear hc h1 hv
  go_enter Tryd.func39, Tryd.ntmps39
  go_wp2
  go_quiet (fail)
  go_wp2
  go_ret
  exact ⟨retInt (by rw [E.out]; omega), _, rfl⟩
end Go.Proofs.YthfpkdbhihcniaaDoor

/- the document's stream: a block -/
namespace Go.Proofs.YthfpkdbhihcniaaDoor
open Go.ChangeShapes Go.WideShapes Go.ChangeAt Go.RowKit

theorem fourDownL (k : Nat) (h : k < 4) : Four k (4 + k) (8 + k) (12 + k) := by constructor <;> omega
theorem fourAslantL (k : Nat) (h : k < 4) : Four k (4 + (k + 1) % 4) (8 + (k + 2) % 4) (12 + (k + 3) % 4) := by constructor <;> omega
theorem bytesL_set (y : List Nat) (n k : Nat) (h : k < n) : (wordBytes y k ++ List.replicate (n - k) 0).set k (wordByte y k) = wordBytes y (k + 1) ++ List.replicate (n - (k + 1)) 0 := by
  rw [show n - k = (n - (k + 1)) + 1 by omega, List.replicate_succ, List.set_append_right _ _ (by rw [wordBytes_length]; exact Nat.le_refl _), wordBytes_length, Nat.sub_self, List.set_cons_zero, wordBytes, List.append_assoc]
  rfl
theorem wordByteL_int (y : List Nat) (k x : Nat) (h : y[k / 4]! = x) : (x : Int) / 2 ^ (8 * (k % 4)) % 256 = ((wordByte y k).toNat : Int) := by
  rw [wordByte_nat, h, Int.natCast_emod, Int.natCast_ediv, Int.natCast_pow]
  rfl
theorem start_fill (b : List Nat) (hb : b.length = 16) (h : ∀ k, k < 4 → b[k]! = streamStart[k]!) : fillTo b 4 = [1634760805, 857760878, 2036477234, 1797285236, 0, 0, 0, 0, 0, 0, 0, 0, 0, 0, 0, 0] := by
  match b, hb with
  | [b0, b1, b2, b3, b4, b5, b6, b7, b8, b9, b10, b11, b12, b13, b14, b15], _ =>
    have h0 : b0 = 1634760805 := h 0 (by omega)
    have h1 : b1 = 857760878 := h 1 (by omega)
    have h2 : b2 = 2036477234 := h 2 (by omega)
    have h3 : b3 = 1797285236 := h 3 (by omega)
    subst h0 h1 h2 h3
    rfl
theorem built_start : Tryd.prog.built 64 [(0, .int .u32 1634760805), (1, .int .u32 857760878), (2, .int .u32 2036477234), (3, .int .u32 1797285236)] = some (us [1634760805, 857760878, 2036477234, 1797285236, 0, 0, 0, 0, 0, 0, 0, 0, 0, 0, 0, 0]).toArray := by kernel_rfl
set_option maxRecDepth 100000 in
set_option maxHeartbeats 4000000 in
theorem blockL_any (key nonce : List UInt8) (count : Nat) (w : World) (hk : key.length = 32) (hn : nonce.length = 12) (hc : count < 4294967296) :
    Calls Tryd.prog 30 #[.agg (bs key).toArray, .agg (bs nonce).toArray, .int .u32 count] w fun e w' => e = .returned (.agg (bs (streamBlock key nonce count)).toArray) ∧ Fr Non w w' := by
  have B1 := Lib.hid (begun_start key nonce count)
  have B2 := Lib.hid (begun_key key nonce count)
  have B3 := Lib.hid (begun_count key nonce count)
  have B4 := Lib.hid (begun_nonce key nonce count)
  have BO := Lib.hid (begun_ok key nonce hc)
  have BL := Lib.hid (begun_ok key nonce hc).1
  have HE : Hid (streamBlock key nonce count = wordBytes (plusTo (stirs 10 (begun key nonce count)) (begun key nonce count) 16) 64) := Lib.hid rfl
  generalize begun key nonce count = b at B1 B2 B3 B4 BL BO HE
  have HK := Lib.hid hk
  have HN := Lib.hid hn
  have hzv : ∀ w, (zeroValue 64).run Tryd.prog w = .ok (.agg (us (List.replicate 16 0)).toArray) w := fun _ => by kernel_rfl
  have HZV := Lib.hid hzv
  have hi16 : ∀ y : List Nat, Ws y → (Tryd.prog.info? 64).map (·.size) = some (us y).length := fun y h => by rw [us_length, h.1]; kernel_rfl
  have HI16 := Lib.hid hi16
  have hzl : ∀ y : List Nat, Ws y → (us (List.replicate 16 0)).length = (us y).length := fun y h => by rw [us_length, us_length, h.1]; rfl
  have HZL := Lib.hid hzl
  have hzz : ∀ y z : List Nat, Ws y → Ws z → (us y).length = (us z).length := fun y z h h2 => by rw [us_length, us_length, h.1, h2.1]
  have HZZ := Lib.hid hzz
  clear hk hn hc hzv hi16 hzl hzz
  go_enter Tryd.func30, Tryd.ntmps30
  go_upto_region 1 with (fail)
  have hb1 := Blk.new w 22 (bs key)
  have hf1 := Fr.alloc w (.cells (bs key).toArray 22)
  have hs1 : (w.alloc (.cells (bs key).toArray 22)).heap.size = w.heap.size + 1 := by simp
  generalize w.alloc (.cells (bs key).toArray 22) = w1 at hb1 hf1 hs1 ⊢
  have hb2 := Blk.new w1 25 (bs nonce)
  have hf2 := Fr.alloc w1 (.cells (bs nonce).toArray 25)
  have hs2 : (w1.alloc (.cells (bs nonce).toArray 25)).heap.size = w1.heap.size + 1 := by simp
  generalize w1.alloc (.cells (bs nonce).toArray 25) = w2 at hb2 hf2 hs2 ⊢
  have hb3 : Blk (w2.alloc (.cells #[.int .u8 0, .int .u8 0, .int .u8 0, .int .u8 0, .int .u8 0, .int .u8 0, .int .u8 0, .int .u8 0, .int .u8 0, .int .u8 0, .int .u8 0, .int .u8 0, .int .u8 0, .int .u8 0, .int .u8 0, .int .u8 0, .int .u8 0, .int .u8 0, .int .u8 0, .int .u8 0, .int .u8 0, .int .u8 0, .int .u8 0, .int .u8 0, .int .u8 0, .int .u8 0, .int .u8 0, .int .u8 0, .int .u8 0, .int .u8 0, .int .u8 0, .int .u8 0, .int .u8 0, .int .u8 0, .int .u8 0, .int .u8 0, .int .u8 0, .int .u8 0, .int .u8 0, .int .u8 0, .int .u8 0, .int .u8 0, .int .u8 0, .int .u8 0, .int .u8 0, .int .u8 0, .int .u8 0, .int .u8 0, .int .u8 0, .int .u8 0, .int .u8 0, .int .u8 0, .int .u8 0, .int .u8 0, .int .u8 0, .int .u8 0, .int .u8 0, .int .u8 0, .int .u8 0, .int .u8 0, .int .u8 0, .int .u8 0, .int .u8 0, .int .u8 0] 50)) w2.heap.size 50 (bs (List.replicate 64 0)) := Blk.new w2 _ _
  have hf3 := Fr.alloc w2 (.cells #[.int .u8 0, .int .u8 0, .int .u8 0, .int .u8 0, .int .u8 0, .int .u8 0, .int .u8 0, .int .u8 0, .int .u8 0, .int .u8 0, .int .u8 0, .int .u8 0, .int .u8 0, .int .u8 0, .int .u8 0, .int .u8 0, .int .u8 0, .int .u8 0, .int .u8 0, .int .u8 0, .int .u8 0, .int .u8 0, .int .u8 0, .int .u8 0, .int .u8 0, .int .u8 0, .int .u8 0, .int .u8 0, .int .u8 0, .int .u8 0, .int .u8 0, .int .u8 0, .int .u8 0, .int .u8 0, .int .u8 0, .int .u8 0, .int .u8 0, .int .u8 0, .int .u8 0, .int .u8 0, .int .u8 0, .int .u8 0, .int .u8 0, .int .u8 0, .int .u8 0, .int .u8 0, .int .u8 0, .int .u8 0, .int .u8 0, .int .u8 0, .int .u8 0, .int .u8 0, .int .u8 0, .int .u8 0, .int .u8 0, .int .u8 0, .int .u8 0, .int .u8 0, .int .u8 0, .int .u8 0, .int .u8 0, .int .u8 0, .int .u8 0, .int .u8 0] 50)
  have hs3 : (w2.alloc (.cells #[.int .u8 0, .int .u8 0, .int .u8 0, .int .u8 0, .int .u8 0, .int .u8 0, .int .u8 0, .int .u8 0, .int .u8 0, .int .u8 0, .int .u8 0, .int .u8 0, .int .u8 0, .int .u8 0, .int .u8 0, .int .u8 0, .int .u8 0, .int .u8 0, .int .u8 0, .int .u8 0, .int .u8 0, .int .u8 0, .int .u8 0, .int .u8 0, .int .u8 0, .int .u8 0, .int .u8 0, .int .u8 0, .int .u8 0, .int .u8 0, .int .u8 0, .int .u8 0, .int .u8 0, .int .u8 0, .int .u8 0, .int .u8 0, .int .u8 0, .int .u8 0, .int .u8 0, .int .u8 0, .int .u8 0, .int .u8 0, .int .u8 0, .int .u8 0, .int .u8 0, .int .u8 0, .int .u8 0, .int .u8 0, .int .u8 0, .int .u8 0, .int .u8 0, .int .u8 0, .int .u8 0, .int .u8 0, .int .u8 0, .int .u8 0, .int .u8 0, .int .u8 0, .int .u8 0, .int .u8 0, .int .u8 0, .int .u8 0, .int .u8 0, .int .u8 0] 50)).heap.size = w2.heap.size + 1 := by simp
  generalize w2.alloc (.cells #[.int .u8 0, .int .u8 0, .int .u8 0, .int .u8 0, .int .u8 0, .int .u8 0, .int .u8 0, .int .u8 0, .int .u8 0, .int .u8 0, .int .u8 0, .int .u8 0, .int .u8 0, .int .u8 0, .int .u8 0, .int .u8 0, .int .u8 0, .int .u8 0, .int .u8 0, .int .u8 0, .int .u8 0, .int .u8 0, .int .u8 0, .int .u8 0, .int .u8 0, .int .u8 0, .int .u8 0, .int .u8 0, .int .u8 0, .int .u8 0, .int .u8 0, .int .u8 0, .int .u8 0, .int .u8 0, .int .u8 0, .int .u8 0, .int .u8 0, .int .u8 0, .int .u8 0, .int .u8 0, .int .u8 0, .int .u8 0, .int .u8 0, .int .u8 0, .int .u8 0, .int .u8 0, .int .u8 0, .int .u8 0, .int .u8 0, .int .u8 0, .int .u8 0, .int .u8 0, .int .u8 0, .int .u8 0, .int .u8 0, .int .u8 0, .int .u8 0, .int .u8 0, .int .u8 0, .int .u8 0, .int .u8 0, .int .u8 0, .int .u8 0, .int .u8 0] 50) = w3 at hb3 hf3 hs3 ⊢
  rw [hs1] at hb2 hs2
  rw [hs2] at hb3 hs3
  have HKB := Lib.hid ((hb1.non hf2).non hf3)
  have HNB := Lib.hid (hb2.non hf3)
  have HRB := Lib.hid hb3
  have HFR := Lib.hid ((hf1.non hf2).non hf3)
  clear hb1 hb2 hb3 hf1 hf2 hf3 hs1 hs2
  refine wp_region_lit ?_
  refine wpList_build_as rfl 64 [(0, .const (.int .u32 1634760805)), (1, .const (.int .u32 857760878)), (2, .const (.int .u32 2036477234)), (3, .const (.int .u32 1797285236))] rfl _ _ built_start rfl ?_
  simp only [Act.put, List.setIfInBounds_toArray, List.set_cons_succ, List.set_cons_zero]
  refine wpList_var rfl rfl 64 7 (.tmp 17) rfl rfl rfl rfl _ (us [1634760805, 857760878, 2036477234, 1797285236, 0, 0, 0, 0, 0, 0, 0, 0, 0, 0, 0, 0]) HZV.out rfl (by kernel_rfl) (us_one _) (by simp) (fun _ => rfl) ?_
  intro w4 hb4 hf4 hs4
  simp only [List.set_cons_succ, List.set_cons_zero]
  rw [← start_fill b BL.out B1.out] at hb4
  obtain ⟨X, hX⟩ : ∃ X, X = w3.heap.size := ⟨_, rfl⟩
  rw [← hX] at hb4 hs4 ⊢
  rw [hs3] at hX
  have HX := Lib.hid hX
  have HKB4 := Lib.hid (HKB.out.non hf4)
  have HNB4 := Lib.hid (HNB.out.non hf4)
  have HRB4 := Lib.hid (HRB.out.non hf4)
  have HFR4 := Lib.hid (HFR.out.non hf4)
  have HXB := Lib.hid hb4
  have HS4 := Lib.hid hs4
  clear hX hf4 hb4 hs4 hs3 HKB HNB HRB HFR
  go_wp2_with fail
  have hbx := HXB.out
  have hfx : Fr (One X) w4 w4 := Fr.refl _ _
  go_loopw [8] (fun i wr => ∃ k : Nat, k ≤ 8 ∧ i = .int .i64 k ∧ Blk wr X 64 (us (fillTo b (4 + k))) ∧ Fr (One X) w4 wr) (fun i _ => 8 - (intOf i).toNat)
  case atStart => exact ⟨0, by omega, rfl, hbx, hfx⟩
  case round =>
    clear hbx hfx
    obtain ⟨k, hk, rfl, hbx, hfx⟩ := hrel
    have HBX := Lib.hid hbx
    have HFX := Lib.hid hfx
    clear hbx hfx
    by_cases hlt : k < 8
    · obtain ⟨j, hj⟩ : ∃ j, j = 4 * k := ⟨_, rfl⟩
      have hrow := (HKB4.out.frame HFX.out (fun h => by have h1 : w.heap.size = X := h; have := HX.out; omega)).row 0 32 (bs key) (by rw [bs_length, HK.out]; omega) (by unfold maxLen; omega) (fun j v hj => by rw [Nat.zero_add]; exact hj)
      rw [bs_length, HK.out] at hrow
      have HROW := Lib.hid hrow
      have E : Hid (b[4 + k]! = le4 key j) := Lib.hid (by rw [B2.out k hlt, hj])
      have hset := fillTo_set b BL.out (4 + k) (by omega)
      have HSET := Lib.hid hset
      have e0 : IntKind.i64.wrap (4 * (k : Int)) = (j : Int) := by rw [IntWalk.i64_in _ (by omega)]; omega
      have e1 : IntKind.i64.wrap (4 + (k : Int)) = 4 + (k : Int) := IntWalk.i64_in _ (by omega)
      have t1 : ((4 : Int) + (k : Int)).toNat = 4 + k := by omega
      have z0 : (0 : Int) ≤ (k : Int) := by omega
      have z1 : (k : Int) < 8 := by omega
      have z2 : (0 : Int) ≤ 4 + (k : Int) := by omega
      have z3 : (4 : Int) + (k : Int) < 16 := by omega
      have hj4 : j + 4 ≤ 32 := by omega
      clear hset hrow hj
      go_wp2_with fail
      refine (wordL_any (.slice (some ⟨w.heap.size, 0, none⟩) 32 32) key j _ HROW.out (by rw [HK.out]; exact hj4)).mono ?_
      rintro e wn ⟨rfl, nq, rfl⟩
      have hfn := Fr.drewN wr nq
      generalize wr.drewN nq = wn at hfn ⊢
      have hbn := HBX.out.non hfn
      have hst := hbn.set (4 + k) (.int .u32 (le4 key j : Int))
      rw [us_set, ← E.out, HSET.out, E.out] at hst
      have HST := Lib.hid hst
      have HFN := Lib.hid hfn
      obtain ⟨old, cu, fz⟩ := hbn.has (4 + k) (by rw [us_length, fillTo_length b BL.out _ (by omega)]; omega)
      clear hbn hst hfn e0
      generalize le4 key j = x at HST ⊢
      go_wp2
      go_roundw
      case rel => exact ⟨k + 1, by omega, by go_num, HST.out, (HFX.out.thenNon HFN.out).trans (Fr.setCell wn ⟨X, 4 + k, none⟩ _) (fun _ h => h) (fun _ h => .inl h)⟩
      case measure => simp [intOf]; omega
    · obtain rfl : k = 8 := by omega
      obtain ⟨old, cu, fz⟩ := HBX.out.has 12 (by rw [us_length, fillTo_length b BL.out _ (by omega)]; omega)
      have h12 := HBX.out.set 12 (.int .u32 (count : Int))
      rw [us_set, ← B3.out, fillTo_set b BL.out 12 (by omega), B3.out] at h12
      have HBX2 := Lib.hid h12
      have HFX2 := Lib.hid (HFX.out.trans (Fr.setCell wr ⟨X, 12, none⟩ (.int .u32 (count : Int))) (fun _ h => h) (fun _ h => .inl h))
      clear h12
      go_wp2
      rw [show ((8 : Nat) : Int) = 8 from rfl]
      generalize wr.setCell ⟨X, 12, none⟩ (.int .u32 (count : Int)) = wq at HBX2 HFX2 ⊢
      have hbx := HBX2.out
      have hfx := HFX2.out
      clear HBX HFX HBX2 HFX2 cu fz old
      go_loopw [9] (fun i wr => ∃ k : Nat, k ≤ 3 ∧ i = .int .i64 k ∧ Blk wr X 64 (us (fillTo b (13 + k))) ∧ Fr (One X) w4 wr) (fun i _ => 3 - (intOf i).toNat)
      case atStart => exact ⟨0, by omega, rfl, hbx, hfx⟩
      case round =>
        clear hbx hfx
        obtain ⟨k, hk, rfl, hbx, hfx⟩ := hrel
        have HBX := Lib.hid hbx
        have HFX := Lib.hid hfx
        clear hbx hfx
        by_cases hlt : k < 3
        · obtain ⟨j, hj⟩ : ∃ j, j = 4 * k := ⟨_, rfl⟩
          have hrow := (HNB4.out.frame HFX.out (fun h => by have h1 : w.heap.size + 1 = X := h; have := HX.out; omega)).row 0 12 (bs nonce) (by rw [bs_length, HN.out]; omega) (by unfold maxLen; omega) (fun j v hj => by rw [Nat.zero_add]; exact hj)
          rw [bs_length, HN.out] at hrow
          have HROW := Lib.hid hrow
          have E : Hid (b[13 + k]! = le4 nonce j) := Lib.hid (by rw [B4.out k hlt, hj])
          have hset := fillTo_set b BL.out (13 + k) (by omega)
          have HSET := Lib.hid hset
          have e0 : IntKind.i64.wrap (4 * (k : Int)) = (j : Int) := by rw [IntWalk.i64_in _ (by omega)]; omega
          have e1 : IntKind.i64.wrap (13 + (k : Int)) = 13 + (k : Int) := IntWalk.i64_in _ (by omega)
          have t1 : ((13 : Int) + (k : Int)).toNat = 13 + k := by omega
          have z0 : (0 : Int) ≤ (k : Int) := by omega
          have z1 : (k : Int) < 3 := by omega
          have z2 : (0 : Int) ≤ 13 + (k : Int) := by omega
          have z3 : (13 : Int) + (k : Int) < 16 := by omega
          have hj4 : j + 4 ≤ 12 := by omega
          clear hset hrow hj
          go_wp2_with fail
          refine (wordL_any (.slice (some ⟨w.heap.size + 1, 0, none⟩) 12 12) nonce j _ HROW.out (by rw [HN.out]; exact hj4)).mono ?_
          rintro e wn ⟨rfl, nq, rfl⟩
          have hfn := Fr.drewN wr nq
          generalize wr.drewN nq = wn at hfn ⊢
          have hbn := HBX.out.non hfn
          have hst := hbn.set (13 + k) (.int .u32 (le4 nonce j : Int))
          rw [us_set, ← E.out, HSET.out, E.out] at hst
          have HST := Lib.hid hst
          have HFN := Lib.hid hfn
          obtain ⟨old, cu, fz⟩ := hbn.has (13 + k) (by rw [us_length, fillTo_length b BL.out _ (by omega)]; omega)
          clear hbn hst hfn e0
          generalize le4 nonce j = x at HST ⊢
          go_wp2
          go_roundw
          case rel => exact ⟨k + 1, by omega, by go_num, HST.out, (HFX.out.thenNon HFN.out).trans (Fr.setCell wn ⟨X, 13 + k, none⟩ _) (fun _ h => h) (fun _ h => .inl h)⟩
          case measure => simp [intOf]; omega
        · obtain rfl : k = 3 := by omega
          have hb16 := HBX.out
          rw [show 13 + 3 = 16 from rfl, fillTo_16 b BL.out] at hb16
          have HXB6 := Lib.hid hb16
          have HFR6 := Lib.hid (HFR4.out.new HFX.out (fun i h => by have h1 : i = X := h; have := HX.out; omega))
          have HRB6 := Lib.hid (HRB4.out.frame HFX.out (fun h => by have h1 : w.heap.size + 1 + 1 = X := h; have := HX.out; omega))
          have hs6 : X + 1 ≤ wr.heap.size := by have := HFX.out.size; have := HS4.out; omega
          clear hb16 HBX HFX HFR4 HRB4 HXB HKB4 HNB4 HS4 B1 B2 B3 B4 HK HN
          go_upto_region 11 with (fail)
          rw [show ((3 : Nat) : Int) = 3 from rfl]
          refine wp_region_lit ?_
          refine wpList_load_mid rfl _ _ rfl X 0 rfl (us b) _ (HXB6.out.range 0 _ (fun j v hv => by simpa using hv)) Tryd.underlying64 rfl (HI16.out b BO.out) ?_
          simp only [Act.put, List.setIfInBounds_toArray, List.set_cons_succ, List.set_cons_zero]
          refine wpList_var rfl rfl 64 10 (.tmp 42) rfl rfl rfl rfl _ (us b) HZV.out (HZL.out b BO.out) (HI16.out b BO.out) (us_one _) (by simp) (fun _ => rfl) ?_
          intro w7 hb7 hf7 hs7
          simp only [List.set_cons_succ, List.set_cons_zero]
          obtain ⟨Y, hY⟩ : ∃ Y, Y = wr.heap.size := ⟨_, rfl⟩
          rw [← hY] at hb7 ⊢
          have hXY : X < Y := by omega
          have hwX : w.heap.size + 1 + 1 < X := by have := HX.out; omega
          have HXB7 := Lib.hid (HXB6.out.non hf7)
          have HFR7 := Lib.hid (HFR6.out.non hf7)
          have HRB7 := Lib.hid (HRB6.out.non hf7)
          have HY0 := Lib.hid hb7
          clear hY hb7 hf7 hs7 hs6 HXB6 HFR6 HRB6
          go_wp2_with fail
          go_loopw [11] (fun i wr => ∃ m : Nat, m ≤ 10 ∧ i = .int .i64 m ∧ Blk wr Y 64 (us (stirs m b)) ∧ Fr (One Y) w7 wr) (fun i _ => 10 - (intOf i).toNat)
          case atStart => exact ⟨0, by omega, rfl, HY0.out, Fr.refl _ _⟩
          case round =>
            obtain ⟨m, hm, rfl, hbx, hfx⟩ := hrel
            have HBX := Lib.hid hbx
            have HFX := Lib.hid hfx
            clear hbx hfx
            by_cases hmt : m < 10
            · have hok := stirs_ok BO.out m
              obtain ⟨s1, hs1⟩ : ∃ s1, s1 = stirs (m + 1) b := ⟨_, rfl⟩
              have HM : Hid (aslant 4 (downs 4 (stirs m b)) = s1) := Lib.hid (by rw [hs1]; rfl)
              have HS1 := Lib.hid hs1
              generalize stirs m b = s at HBX hok HM
              have HOK := Lib.hid hok
              have zm : (m : Int) < 10 := by omega
              clear hok hs1
              go_wp2
              go_loopw [12] (fun i wq => ∃ k : Nat, k ≤ 4 ∧ i = .int .i64 k ∧ Blk wq Y 64 (us (downs k s)) ∧ Fr (One Y) w7 wq) (fun i _ => 4 - (intOf i).toNat)
              case atStart => exact ⟨0, by omega, rfl, HBX.out, HFX.out⟩
              case round =>
                clear HBX HFX
                obtain ⟨k, hk, rfl, hbq, hfq⟩ := hrel
                have HBX := Lib.hid hbq
                have HFX := Lib.hid hfq
                clear hbq hfq
                by_cases hlt : k < 4
                · obtain ⟨p4, h4⟩ : ∃ p, p = 4 + k := ⟨_, rfl⟩
                  obtain ⟨p8, h8⟩ : ∃ p, p = 8 + k := ⟨_, rfl⟩
                  obtain ⟨p12, h12⟩ : ∃ p, p = 12 + k := ⟨_, rfl⟩
                  have e4 : Hid (((4 : Int) + (k : Int)) = (p4 : Int)) := Lib.hid (by omega)
                  have e8 : Hid (((8 : Int) + (k : Int)) = (p8 : Int)) := Lib.hid (by omega)
                  have e12 : Hid (((12 : Int) + (k : Int)) = (p12 : Int)) := Lib.hid (by omega)
                  have hfour := fourDownL k hlt
                  have HD : Hid (quarter (downs k s) k p4 p8 p12 = downs (k + 1) s) := Lib.hid (by rw [h4, h8, h12]; rfl)
                  rw [← h4, ← h8, ← h12] at hfour
                  have HFO := Lib.hid hfour
                  have HWK := Lib.hid (downs_ok HOK.out k)
                  have HWK1 := Lib.hid (downs_ok HOK.out (k + 1))
                  have z1 : (k : Int) < 4 := by omega
                  clear hfour h4 h8 h12
                  generalize downs k s = y at HBX HD HWK
                  obtain ⟨y2, hy2⟩ : ∃ y2, y2 = downs (k + 1) s := ⟨_, rfl⟩
                  rw [← hy2] at HD HWK1
                  have HY2 := Lib.hid hy2
                  clear hy2
                  go_upto_region 18 with (fail)
                  refine wp_region_lit ?_
                  refine wpList_load_mid rfl _ _ rfl Y 0 rfl (us y) _ (HBX.out.range 0 _ (fun j v hv => by simpa using hv)) Tryd.underlying64 rfl (HI16.out y HWK.out) ?_
                  go_wp2_with fail
                  rw [e4.out, e8.out, e12.out]
                  refine (quarterL_any y k p4 p8 p12 _ HWK.out HFO.out).mono ?_
                  rintro e wn ⟨rfl, hfn⟩
                  rw [HD.out]
                  have HBN := Lib.hid (HBX.out.non hfn)
                  have HFN := Lib.hid (HFX.out.thenNon hfn)
                  clear hfn HFX HBX
                  go_wp2_with ((with_reducible show wpList _ _ _ (({ op := .store _ _ _, .. } : Oper) :: _) _ _); refine wpList_put rfl 64 (.tmp 10) (.tmp 59) rfl rfl Y _ _ (us y2) HBN.out (HZZ.out _ _ HWK.out HWK1.out) (HI16.out y2 HWK1.out) (us_one _) rfl rfl ?_; intro wm hbm hfm _)
                  go_roundw
                  case rel => exact ⟨k + 1, by omega, by go_num, by rw [← HY2.out]; exact hbm, HFN.out.trans hfm (fun _ h => h) (fun _ h => .inl h)⟩
                  case measure => simp [intOf]; omega
                · obtain rfl : k = 4 := by omega
                  go_wp2
                  rw [show ((4 : Nat) : Int) = 4 from rfl]
                  obtain ⟨s2, hs2⟩ : ∃ s2, s2 = downs 4 s := ⟨_, rfl⟩
                  have HM2 : Hid (aslant 4 s2 = s1) := Lib.hid (by rw [hs2]; exact HM.out)
                  have HOK2 : Hid (Ws s2) := Lib.hid (by rw [hs2]; exact downs_ok HOK.out 4)
                  have hbx := HBX.out
                  rw [← hs2] at hbx
                  have HBX := Lib.hid hbx
                  clear hs2 HM HOK hbx
                  go_loopw [13] (fun i wq => ∃ k : Nat, k ≤ 4 ∧ i = .int .i64 k ∧ Blk wq Y 64 (us (aslant k s2)) ∧ Fr (One Y) w7 wq) (fun i _ => 4 - (intOf i).toNat)
                  case atStart => exact ⟨0, by omega, rfl, HBX.out, HFX.out⟩
                  case round =>
                    clear HBX HFX
                    obtain ⟨k, hk, rfl, hbq, hfq⟩ := hrel
                    have HBX := Lib.hid hbq
                    have HFX := Lib.hid hfq
                    clear hbq hfq
                    by_cases hlt : k < 4
                    · obtain ⟨p4, h4⟩ : ∃ p, p = 4 + (k + 1) % 4 := ⟨_, rfl⟩
                      obtain ⟨p8, h8⟩ : ∃ p, p = 8 + (k + 2) % 4 := ⟨_, rfl⟩
                      obtain ⟨p12, h12⟩ : ∃ p, p = 12 + (k + 3) % 4 := ⟨_, rfl⟩
                      have e4 : Hid (((4 : Int) + ((k : Int) + 1) % 4) = (p4 : Int)) := Lib.hid (by omega)
                      have e8 : Hid (((8 : Int) + ((k : Int) + 2) % 4) = (p8 : Int)) := Lib.hid (by omega)
                      have e12 : Hid (((12 : Int) + ((k : Int) + 3) % 4) = (p12 : Int)) := Lib.hid (by omega)
                      have hfour := fourAslantL k hlt
                      have HD : Hid (quarter (aslant k s2) k p4 p8 p12 = aslant (k + 1) s2) := Lib.hid (by rw [h4, h8, h12]; rfl)
                      rw [← h4, ← h8, ← h12] at hfour
                      have HFO := Lib.hid hfour
                      have HWK := Lib.hid (aslant_ok HOK2.out k)
                      have HWK1 := Lib.hid (aslant_ok HOK2.out (k + 1))
                      have z1 : (k : Int) < 4 := by omega
                      clear hfour h4 h8 h12
                      generalize aslant k s2 = y at HBX HD HWK
                      obtain ⟨y2, hy2⟩ : ∃ y2, y2 = aslant (k + 1) s2 := ⟨_, rfl⟩
                      rw [← hy2] at HD HWK1
                      have HY2 := Lib.hid hy2
                      clear hy2
                      go_upto_region 22 with (fail)
                      refine wp_region_lit ?_
                      refine wpList_load_mid rfl _ _ rfl Y 0 rfl (us y) _ (HBX.out.range 0 _ (fun j v hv => by simpa using hv)) Tryd.underlying64 rfl (HI16.out y HWK.out) ?_
                      go_wp2_with fail
                      rw [e4.out, e8.out, e12.out]
                      refine (quarterL_any y k p4 p8 p12 _ HWK.out HFO.out).mono ?_
                      rintro e wn ⟨rfl, hfn⟩
                      rw [HD.out]
                      have HBN := Lib.hid (HBX.out.non hfn)
                      have HFN := Lib.hid (HFX.out.thenNon hfn)
                      clear hfn HFX HBX
                      go_wp2_with ((with_reducible show wpList _ _ _ (({ op := .store _ _ _, .. } : Oper) :: _) _ _); refine wpList_put rfl 64 (.tmp 10) (.tmp 78) rfl rfl Y _ _ (us y2) HBN.out (HZZ.out _ _ HWK.out HWK1.out) (HI16.out y2 HWK1.out) (us_one _) rfl rfl ?_; intro wm hbm hfm _)
                      go_roundw
                      case rel => exact ⟨k + 1, by omega, by go_num, by rw [← HY2.out]; exact hbm, HFN.out.trans hfm (fun _ h => h) (fun _ h => .inl h)⟩
                      case measure => simp [intOf]; omega
                    · obtain rfl : k = 4 := by omega
                      have HBN : Hid (Blk _ Y 64 (us (stirs (m + 1) b))) := Lib.hid (by rw [← HS1.out, ← HM2.out]; exact HBX.out)
                      clear HBX HM2 HOK2
                      go_wp2
                      go_roundw
                      case rel => exact ⟨m + 1, by omega, by go_num, HBN.out, HFX.out⟩
                      case measure => simp [intOf]; omega
            · obtain rfl : m = 10 := by omega
              have hso := stirs_ok BO.out 10
              obtain ⟨s, hs⟩ : ∃ s, s = stirs 10 b := ⟨_, rfl⟩
              rw [← hs] at hso
              have hby := HBX.out
              rw [← hs] at hby
              have HSY := Lib.hid hby
              have HSO := Lib.hid hso
              have HE2 : Hid (streamBlock key nonce count = wordBytes (plusTo s b 16) 64) := Lib.hid (by rw [hs]; exact HE.out)
              have HSX := Lib.hid (HXB7.out.frame HFX.out (fun h => by have h1 : X = Y := h; omega))
              have HFR8 := Lib.hid (HFR7.out.new HFX.out (fun i h => by have h1 : i = Y := h; omega))
              have HRB8 := Lib.hid (HRB7.out.frame HFX.out (fun h => by have h1 : w.heap.size + 1 + 1 = Y := h; omega))
              have hYs : Y < wr.heap.size := hby.lt
              clear hs hso hby HBX HFX HXB7 HFR7 HRB7 HY0 HE HZV HI16 HZL HZZ
              go_wp2_with fail
              have hb9 : Blk (wr.alloc (.cells #[.int .u8 0, .int .u8 0, .int .u8 0, .int .u8 0, .int .u8 0, .int .u8 0, .int .u8 0, .int .u8 0, .int .u8 0, .int .u8 0, .int .u8 0, .int .u8 0, .int .u8 0, .int .u8 0, .int .u8 0, .int .u8 0, .int .u8 0, .int .u8 0, .int .u8 0, .int .u8 0, .int .u8 0, .int .u8 0, .int .u8 0, .int .u8 0, .int .u8 0, .int .u8 0, .int .u8 0, .int .u8 0, .int .u8 0, .int .u8 0, .int .u8 0, .int .u8 0, .int .u8 0, .int .u8 0, .int .u8 0, .int .u8 0, .int .u8 0, .int .u8 0, .int .u8 0, .int .u8 0, .int .u8 0, .int .u8 0, .int .u8 0, .int .u8 0, .int .u8 0, .int .u8 0, .int .u8 0, .int .u8 0, .int .u8 0, .int .u8 0, .int .u8 0, .int .u8 0, .int .u8 0, .int .u8 0, .int .u8 0, .int .u8 0, .int .u8 0, .int .u8 0, .int .u8 0, .int .u8 0, .int .u8 0, .int .u8 0, .int .u8 0, .int .u8 0] 50)) wr.heap.size 50 (bs (List.replicate 64 0)) := Blk.new wr _ _
              have hf9 := Fr.alloc wr (.cells #[.int .u8 0, .int .u8 0, .int .u8 0, .int .u8 0, .int .u8 0, .int .u8 0, .int .u8 0, .int .u8 0, .int .u8 0, .int .u8 0, .int .u8 0, .int .u8 0, .int .u8 0, .int .u8 0, .int .u8 0, .int .u8 0, .int .u8 0, .int .u8 0, .int .u8 0, .int .u8 0, .int .u8 0, .int .u8 0, .int .u8 0, .int .u8 0, .int .u8 0, .int .u8 0, .int .u8 0, .int .u8 0, .int .u8 0, .int .u8 0, .int .u8 0, .int .u8 0, .int .u8 0, .int .u8 0, .int .u8 0, .int .u8 0, .int .u8 0, .int .u8 0, .int .u8 0, .int .u8 0, .int .u8 0, .int .u8 0, .int .u8 0, .int .u8 0, .int .u8 0, .int .u8 0, .int .u8 0, .int .u8 0, .int .u8 0, .int .u8 0, .int .u8 0, .int .u8 0, .int .u8 0, .int .u8 0, .int .u8 0, .int .u8 0, .int .u8 0, .int .u8 0, .int .u8 0, .int .u8 0, .int .u8 0, .int .u8 0, .int .u8 0, .int .u8 0] 50)
              generalize wr.alloc (.cells #[.int .u8 0, .int .u8 0, .int .u8 0, .int .u8 0, .int .u8 0, .int .u8 0, .int .u8 0, .int .u8 0, .int .u8 0, .int .u8 0, .int .u8 0, .int .u8 0, .int .u8 0, .int .u8 0, .int .u8 0, .int .u8 0, .int .u8 0, .int .u8 0, .int .u8 0, .int .u8 0, .int .u8 0, .int .u8 0, .int .u8 0, .int .u8 0, .int .u8 0, .int .u8 0, .int .u8 0, .int .u8 0, .int .u8 0, .int .u8 0, .int .u8 0, .int .u8 0, .int .u8 0, .int .u8 0, .int .u8 0, .int .u8 0, .int .u8 0, .int .u8 0, .int .u8 0, .int .u8 0, .int .u8 0, .int .u8 0, .int .u8 0, .int .u8 0, .int .u8 0, .int .u8 0, .int .u8 0, .int .u8 0, .int .u8 0, .int .u8 0, .int .u8 0, .int .u8 0, .int .u8 0, .int .u8 0, .int .u8 0, .int .u8 0, .int .u8 0, .int .u8 0, .int .u8 0, .int .u8 0, .int .u8 0, .int .u8 0, .int .u8 0, .int .u8 0] 50) = w9 at hb9 hf9 ⊢
              obtain ⟨Z, hZ⟩ : ∃ Z, Z = wr.heap.size := ⟨_, rfl⟩
              rw [← hZ] at hb9 ⊢
              have hYZ : Y < Z := by omega
              have HSY9 := Lib.hid (HSY.out.non hf9)
              have HSX9 := Lib.hid (HSX.out.non hf9)
              have HFR9 := Lib.hid (HFR8.out.non hf9)
              have HRB9 := Lib.hid (HRB8.out.non hf9)
              have HZ9 := Lib.hid hb9
              clear hb9 hf9 hZ hYs HSY HSX HFR8 HRB8
              rw [show ((10 : Nat) : Int) = 10 from rfl]
              go_loopw [15] (fun i wq => ∃ k : Nat, k ≤ 64 ∧ i = .int .i64 k ∧ Blk wq Z 50 (bs (wordBytes (plusTo s b 16) k ++ List.replicate (64 - k) 0)) ∧ Fr (One Z) w9 wq) (fun i _ => 64 - (intOf i).toNat)
              case atStart => exact ⟨0, by omega, rfl, HZ9.out, Fr.refl _ _⟩
              case round =>
                obtain ⟨k, hk, rfl, hbx, hfx⟩ := hrel
                have HBX := Lib.hid hbx
                have HFX := Lib.hid hfx
                clear hbx hfx
                by_cases hlt : k < 64
                · obtain ⟨p, hp⟩ : ∃ p, p = k / 4 := ⟨_, rfl⟩
                  have cy := ((HSY9.out.frame HFX.out (fun h => by have h1 : Y = Z := h; omega)).at p _ (us_at s p (by rw [HSO.out.1]; omega))).1
                  have cx := ((HSX9.out.frame HFX.out (fun h => by have h1 : X = Z := h; omega)).at p _ (us_at b p (by rw [BO.out.1]; omega))).1
                  have hpl := plusTo_16 s b p (by omega)
                  have oy := get_lt HSO.out.2 p
                  have ox := get_lt BO.out.2 p
                  have HW : Hid ((((s[p]! + b[p]!) % 4294967296 : Nat) : Int) / 2 ^ (8 * (k % 4)) % 256 = ((wordByte (plusTo s b 16) k).toNat : Int)) := Lib.hid (by rw [← hpl]; exact wordByteL_int _ k _ (by rw [← hp]))
                  have z0 : (0 : Int) ≤ (k : Int) := by omega
                  have z1 : (k : Int) < 64 := by omega
                  have tp : ((k : Int) / 4).toNat = p := by omega
                  have tq : (k : Int).tdiv 4 = (p : Int) := by rw [Int.tdiv_eq_ediv_of_nonneg z0]; omega
                  have zp : (p : Int) < 16 := by omega
                  have zq : (0 : Int) ≤ (p : Int) := by omega
                  clear hpl hp
                  generalize s[p]! = u at cy HW oy
                  generalize b[p]! = v at cx HW ox
                  obtain ⟨q, hq⟩ : ∃ q, q = (u + v) % 4294967296 := ⟨_, rfl⟩
                  rw [← hq] at HW
                  have eq1 : Hid (((u : Int) + (v : Int)) % 4294967296 = (q : Int)) := Lib.hid (by omega)
                  have oq : q < 4294967296 := by omega
                  clear hq
                  go_upto_region 27 with (fail)
                  go_quiet (fail)
                  have hfn := Fr.drewN wr nq
                  generalize wr.drewN nq = wn at hfn ⊢
                  obtain ⟨old, cu, fz⟩ := (HBX.out.non hfn).has k (by rw [bs_length, List.length_append, wordBytes_length, List.length_replicate]; omega)
                  have HFN := Lib.hid hfn
                  clear cy cx hfn
                  go_upto_region 28 with (fail)
                  rw [eq1.out]
                  go_wp2
                  rw [HW.out]
                  go_roundw
                  case rel => exact ⟨k + 1, by omega, by go_num, (by have h := (HBX.out.non HFN.out).set k (.int .u8 ((wordByte (plusTo s b 16) k).toNat : Int)); rw [bs_set, bytesL_set _ 64 k hlt] at h; exact h), (HFX.out.thenNon HFN.out).trans (Fr.setCell wn ⟨Z, k, none⟩ _) (fun _ h => h) (fun _ h => .inl h)⟩
                  case measure => simp [intOf]; omega
                · obtain rfl : k = 64 := by omega
                  have hyl : (bs (streamBlock key nonce count)).length = 64 := by rw [bs_length, streamBlock_length]
                  have hy1 := bs_one (streamBlock key nonce count)
                  obtain ⟨ys, hys⟩ : ∃ ys, ys = bs (streamBlock key nonce count) := ⟨_, rfl⟩
                  have hb64 : Blk wr Z 50 ys := by
                    rw [hys, HE2.out]
                    have h := HBX.out
                    rwa [Nat.sub_self, List.replicate_zero, List.append_nil] at h
                  rw [← hys] at hyl hy1
                  have HYS := Lib.hid hys
                  have hi : (Tryd.prog.info? 50).map (·.size) = some ys.length := by rw [hyl]; kernel_rfl
                  have hfw := HFR9.out.new HFX.out (fun i h => by have h1 : i = Z := h; omega)
                  have hrb := HRB9.out.frame HFX.out (fun h => by have h1 : w.heap.size + 1 + 1 = Z := h; omega)
                  have HB64 := Lib.hid (And.intro hb64 (And.intro hfw (And.intro hrb (And.intro hyl (And.intro hy1 hi)))))
                  clear hys hb64 hfw hrb hyl hy1 hi HBX HFX HFR9 HRB9 HSX9 HSY9 HZ9 HE2
                  go_upto_region 29 with (fail)
                  refine wp_region_lit ?_
                  refine wpList_whole rfl rfl 50 100 (.tmp 14) (.tmp 6) rfl rfl rfl rfl Z (w.heap.size + 1 + 1) _ _ ys _ HB64.out.1 HB64.out.2.2.1 (by rw [HB64.out.2.2.2.1]; rfl) _ Tryd.underlying50 rfl HB64.out.2.2.2.2.2 HB64.out.2.2.2.2.1 (by simp) rfl (fun _ => rfl) ?_
                  intro w' hb' hf' _
                  have HRV := Lib.hid (hb'.loadVar (P := Tryd.prog) 50 _ Tryd.underlying50 rfl HB64.out.2.2.2.2.2)
                  have HFF : Hid (Fr Non w w') := Lib.hid (HB64.out.2.1.new hf' (fun i h => by have h1 : i = w.heap.size + 1 + 1 := h; omega))
                  clear hb' hf' HB64
                  repeat (first | go_skip | go_step)
                  refine bodyPost_ret (v := .agg ys.toArray) (by have h := HRV.out; simp [results, Tryd.results30, asAddr, h]) rfl ⟨by rw [HYS.out], HFF.out⟩
end Go.Proofs.YthfpkdbhihcniaaDoor

/- the document's stream: bytes crossed -/
namespace Go.Proofs.YthfpkdbhihcniaaDoor
open Go.ChangeShapes Go.WideShapes Go.ChangeAt Go.RowKit

theorem Tryd.info5r : (Tryd.prog.info? 5).map (fun i => (i.zero, i.size, i.bytes)) = some (some (.int .u8 0), 1, 1) := by kernel_rfl
theorem bsL_at? (l : List UInt8) (p : Nat) (h : p < l.length) : (bs l)[p]? = some (.int .u8 (l[p]!.toNat : Int)) := by simp [bs, h]
/-- block M, and those from B on -/
def From (M B : Nat) : Nat → Prop := fun i => i = M ∨ B ≤ i
set_option maxRecDepth 100000 in
set_option maxHeartbeats 4000000 in
theorem crossL_any (key nonce : List UInt8) (count : Nat) (v : Value) (l : List UInt8) (w : World) (hk : key.length = 32) (hn : nonce.length = 12) (hc : count < 4294967296) (hv : Row w v (bs l)) (hl : l.length ≤ 140737488351232) :
    Calls Tryd.prog 19 #[.agg (bs key).toArray, .agg (bs nonce).toArray, .int .u32 count, v] w fun e w' => ∃ v', e = .returned v' ∧ Own w' w.heap.size 5 v' (bs (streamCross key nonce count l)) ∧ Fr Non w w' := by
  obtain ⟨a, c, rfl, _⟩ := id hv
  obtain ⟨i0, hi⟩ := info_parts Tryd.info5r
  rw [bs_length] at hv ⊢
  have hlen := run_lenRow (P := Tryd.prog) hv 27 5 Tryd.underlying27
  rw [bs_length] at hlen
  have HI := Lib.hid hi
  have HC := Lib.hid hc
  have HK := Lib.hid hk
  have HN := Lib.hid hn
  have HV := Lib.hid hv
  have hik : (Tryd.prog.info? 22).map (·.size) = some (bs key).length := by rw [bs_length, hk]; kernel_rfl
  have hin : (Tryd.prog.info? 25).map (·.size) = some (bs nonce).length := by rw [bs_length, hn]; kernel_rfl
  have HIK := Lib.hid (And.intro hik hin)
  have hi64 : ∀ m, (Tryd.prog.info? 50).map (·.size) = some (bs (streamBlock key nonce m)).length := fun m => by rw [bs_length, streamBlock_length]; kernel_rfl
  have HI64 := Lib.hid hi64
  clear hi hk hn hc hv hik hin hi64
  go_enter Tryd.func19, Tryd.ntmps19
  go_wp2_with fail
  have hb1 := Blk.new w 22 (bs key)
  have hf1 := Fr.alloc w (.cells (bs key).toArray 22)
  have hs1 : (w.alloc (.cells (bs key).toArray 22)).heap.size = w.heap.size + 1 := by simp
  generalize w.alloc (.cells (bs key).toArray 22) = w1 at hb1 hf1 hs1 ⊢
  have hb2 := Blk.new w1 25 (bs nonce)
  have hf2 := Fr.alloc w1 (.cells (bs nonce).toArray 25)
  have hs2 : (w1.alloc (.cells (bs nonce).toArray 25)).heap.size = w1.heap.size + 1 := by simp
  generalize w1.alloc (.cells (bs nonce).toArray 25) = w2 at hb2 hf2 hs2 ⊢
  have hb3 : Blk (w2.alloc (.cells #[.int .u8 0, .int .u8 0, .int .u8 0, .int .u8 0, .int .u8 0, .int .u8 0, .int .u8 0, .int .u8 0, .int .u8 0, .int .u8 0, .int .u8 0, .int .u8 0, .int .u8 0, .int .u8 0, .int .u8 0, .int .u8 0, .int .u8 0, .int .u8 0, .int .u8 0, .int .u8 0, .int .u8 0, .int .u8 0, .int .u8 0, .int .u8 0, .int .u8 0, .int .u8 0, .int .u8 0, .int .u8 0, .int .u8 0, .int .u8 0, .int .u8 0, .int .u8 0, .int .u8 0, .int .u8 0, .int .u8 0, .int .u8 0, .int .u8 0, .int .u8 0, .int .u8 0, .int .u8 0, .int .u8 0, .int .u8 0, .int .u8 0, .int .u8 0, .int .u8 0, .int .u8 0, .int .u8 0, .int .u8 0, .int .u8 0, .int .u8 0, .int .u8 0, .int .u8 0, .int .u8 0, .int .u8 0, .int .u8 0, .int .u8 0, .int .u8 0, .int .u8 0, .int .u8 0, .int .u8 0, .int .u8 0, .int .u8 0, .int .u8 0, .int .u8 0] 50)) w2.heap.size 50 (bs (List.replicate 64 0)) := Blk.new w2 _ _
  have hf3 := Fr.alloc w2 (.cells #[.int .u8 0, .int .u8 0, .int .u8 0, .int .u8 0, .int .u8 0, .int .u8 0, .int .u8 0, .int .u8 0, .int .u8 0, .int .u8 0, .int .u8 0, .int .u8 0, .int .u8 0, .int .u8 0, .int .u8 0, .int .u8 0, .int .u8 0, .int .u8 0, .int .u8 0, .int .u8 0, .int .u8 0, .int .u8 0, .int .u8 0, .int .u8 0, .int .u8 0, .int .u8 0, .int .u8 0, .int .u8 0, .int .u8 0, .int .u8 0, .int .u8 0, .int .u8 0, .int .u8 0, .int .u8 0, .int .u8 0, .int .u8 0, .int .u8 0, .int .u8 0, .int .u8 0, .int .u8 0, .int .u8 0, .int .u8 0, .int .u8 0, .int .u8 0, .int .u8 0, .int .u8 0, .int .u8 0, .int .u8 0, .int .u8 0, .int .u8 0, .int .u8 0, .int .u8 0, .int .u8 0, .int .u8 0, .int .u8 0, .int .u8 0, .int .u8 0, .int .u8 0, .int .u8 0, .int .u8 0, .int .u8 0, .int .u8 0, .int .u8 0, .int .u8 0] 50)
  have hs3 : (w2.alloc (.cells #[.int .u8 0, .int .u8 0, .int .u8 0, .int .u8 0, .int .u8 0, .int .u8 0, .int .u8 0, .int .u8 0, .int .u8 0, .int .u8 0, .int .u8 0, .int .u8 0, .int .u8 0, .int .u8 0, .int .u8 0, .int .u8 0, .int .u8 0, .int .u8 0, .int .u8 0, .int .u8 0, .int .u8 0, .int .u8 0, .int .u8 0, .int .u8 0, .int .u8 0, .int .u8 0, .int .u8 0, .int .u8 0, .int .u8 0, .int .u8 0, .int .u8 0, .int .u8 0, .int .u8 0, .int .u8 0, .int .u8 0, .int .u8 0, .int .u8 0, .int .u8 0, .int .u8 0, .int .u8 0, .int .u8 0, .int .u8 0, .int .u8 0, .int .u8 0, .int .u8 0, .int .u8 0, .int .u8 0, .int .u8 0, .int .u8 0, .int .u8 0, .int .u8 0, .int .u8 0, .int .u8 0, .int .u8 0, .int .u8 0, .int .u8 0, .int .u8 0, .int .u8 0, .int .u8 0, .int .u8 0, .int .u8 0, .int .u8 0, .int .u8 0, .int .u8 0] 50)).heap.size = w2.heap.size + 1 := by simp
  generalize w2.alloc (.cells #[.int .u8 0, .int .u8 0, .int .u8 0, .int .u8 0, .int .u8 0, .int .u8 0, .int .u8 0, .int .u8 0, .int .u8 0, .int .u8 0, .int .u8 0, .int .u8 0, .int .u8 0, .int .u8 0, .int .u8 0, .int .u8 0, .int .u8 0, .int .u8 0, .int .u8 0, .int .u8 0, .int .u8 0, .int .u8 0, .int .u8 0, .int .u8 0, .int .u8 0, .int .u8 0, .int .u8 0, .int .u8 0, .int .u8 0, .int .u8 0, .int .u8 0, .int .u8 0, .int .u8 0, .int .u8 0, .int .u8 0, .int .u8 0, .int .u8 0, .int .u8 0, .int .u8 0, .int .u8 0, .int .u8 0, .int .u8 0, .int .u8 0, .int .u8 0, .int .u8 0, .int .u8 0, .int .u8 0, .int .u8 0, .int .u8 0, .int .u8 0, .int .u8 0, .int .u8 0, .int .u8 0, .int .u8 0, .int .u8 0, .int .u8 0, .int .u8 0, .int .u8 0, .int .u8 0, .int .u8 0, .int .u8 0, .int .u8 0, .int .u8 0, .int .u8 0] 50) = w3 at hb3 hf3 hs3 ⊢
  rw [hs1] at hb2 hs2
  rw [hs2] at hb3 hs3
  obtain ⟨M, hM⟩ : ∃ M, M = w.heap.size + 1 + 1 := ⟨_, rfl⟩
  rw [← hM] at hb3 hs3 ⊢
  have HKB := Lib.hid ((hb1.non hf2).non hf3)
  have HNB := Lib.hid (hb2.non hf3)
  have HMB := Lib.hid hb3
  have HFR := Lib.hid ((hf1.non hf2).non hf3)
  have HM := Lib.hid hM
  have HS3 := Lib.hid hs3
  clear hb1 hb2 hb3 hf1 hf2 hf3 hs1 hs2 hs3 hM
  go_loopw [9, 11] (fun v9 i wr => ∃ (k : Nat) (now : List UInt8), k ≤ l.length ∧ i = .int .i64 k ∧ now.length = 64 ∧ (k % 64 ≠ 0 → now = streamBlock key nonce ((count + k / 64) % 4294967296)) ∧ Own wr (M + 1) 5 v9 (bs (crossTo key nonce count l k)) ∧ Blk wr M 50 (bs now) ∧ Fr (From M (M + 1)) w3 wr) (fun _ i _ => l.length - (intOf i).toNat)
  case atStart => exact ⟨0, List.replicate 64 0, by omega, rfl, by simp, fun h => absurd rfl h, Own.nil _ _ _, HMB.out, Fr.refl _ _⟩
  case round =>
    obtain ⟨k, now, hk, rfl, hnl, hnow, hbo, hbm, hfx⟩ := hrel
    have HBO := Lib.hid hbo
    have HBM := Lib.hid hbm
    have HFX := Lib.hid hfx
    have HNW := Lib.hid hnow
    have HNL := Lib.hid hnl
    clear hbo hbm hfx hnow hnl
    by_cases hlt : k < l.length
    · have z1 : (k : Int) < (l.length : Int) := by omega
      obtain ⟨p, hp⟩ : ∃ p, p = k % 64 := ⟨_, rfl⟩
      have tp : ((k : Int) % 64).toNat = p := by omega
      have hkL : (k : Int) ≤ 140737488351232 := by omega
      have hp64 : p < 64 := by omega
      by_cases h0 : k % 64 = 0
      case pos =>
        have b0 : ((k : Int) % 64 == 0) = true := by simp; omega
        have b1 : decide ((k : Int) % 64 = 0) = true := by simp; omega
        go_upto_region 7 with (fail)
        refine wp_region_lit ?_
        refine wpList_load_mid rfl _ _ rfl w.heap.size 0 rfl (bs key) _ ((HKB.out.frame HFX.out (fun h => by have h1 : w.heap.size = M ∨ M + 1 ≤ w.heap.size := h; have := HM.out; omega)).range 0 _ (fun j v hv => by simpa using hv)) Tryd.underlying22 rfl HIK.out.1 ?_
        refine wpList_load_mid rfl _ _ rfl (w.heap.size + 1) 0 rfl (bs nonce) _ ((HNB.out.frame HFX.out (fun h => by have h1 : w.heap.size + 1 = M ∨ M + 1 ≤ w.heap.size + 1 := h; have := HM.out; omega)).range 0 _ (fun j v hv => by simpa using hv)) Tryd.underlying25 rfl HIK.out.2 ?_
        go_wp2_with fail
        obtain ⟨m, hm⟩ : ∃ m, m = (count + k / 64) % 4294967296 := ⟨_, rfl⟩
        have hmi : ((count : Int) + (k : Int) / 64) % 4294967296 = (m : Int) := by omega
        have hml : m < 4294967296 := by omega
        rw [hmi]
        refine (blockL_any key nonce m _ HK.out HN.out hml).mono ?_
        rintro e w5 ⟨rfl, hf5⟩
        have hi6 := HI64.out m
        have hy1 := bs_one (streamBlock key nonce m)
        have hnl2 : (streamBlock key nonce m).length = 64 := streamBlock_length _ _ _
        obtain ⟨now2, hnow2⟩ : ∃ now2, now2 = streamBlock key nonce m := ⟨_, rfl⟩
        rw [← hnow2] at hi6 hy1 hnl2 ⊢
        have HNOW2 : Hid (now2 = streamBlock key nonce ((count + k / 64) % 4294967296)) := Lib.hid (by rw [hnow2, hm])
        have HNL2 := Lib.hid hnl2
        have HHI := Lib.hid (And.intro hi6 hy1)
        have HF5 := Lib.hid hf5
        clear hi6 hy1 hnow2 hm hmi hml hnl2 hf5 b0 b1
        go_upto_region 8 with ((with_reducible show wpList _ _ _ (({ op := .store _ _ _, .. } : Oper) :: _) _ _); refine wpList_put rfl 50 (.tmp 10) (.tmp 28) rfl rfl M _ _ (bs now2) (HBM.out.non HF5.out) (by rw [bs_length, bs_length, HNL.out, HNL2.out]) HHI.out.1 HHI.out.2 rfl rfl ?_; intro w6 hb6 hf6 hs6; clear hs6)
        have HBM2 := Lib.hid hb6
        have HBO2 := Lib.hid ((HBO.out.non HF5.out).frame hf6 (fun b off n c e h => by have h1 : b = M := h; have h2 := HBO.out.lt b (by rw [e]; rfl); omega))
        have HFX2 := Lib.hid ((HFX.out.thenNon HF5.out).trans hf6 (fun _ h => h) (fun i h => .inl (.inl h)))
        clear hb6 hf6 HBM HBO HFX HF5 HHI HNW HNL
        obtain ⟨cm, -⟩ := HBM2.out.at p _ (bsL_at? now2 p (by rw [HNL2.out]; omega))
        obtain ⟨-, -, -, hall⟩ := (HV.out.frame (HFR.out.new HFX2.out (fun i h => by have h1 : i = M ∨ M + 1 ≤ i := h; have := HM.out; omega)) (fun _ _ _ _ _ h => h)).bytes
        obtain ⟨bb, off, rfl, hcell⟩ := hall k hlt
        have hbb : bb < w.heap.size := by
          obtain ⟨b', off', e, h⟩ := (HV.out.bytes).2.2.2 k hlt
          injection e with e
          injection e with e1 e2
          subst e1 e2
          exact World.block_lt_of_cell? _ _ h
        have hxx := u8xor l[k]! now2[p]!
        have hxs : now2[p]! = streamAt key nonce count k := by rw [HNOW2.out, hp]; rfl
        have hnx : crossTo key nonce count l (k + 1) = crossTo key nonce count l k ++ [l[k]! ^^^ now2[p]!] := by rw [hxs]; rfl
        have HNX := Lib.hid hnx
        have HXX := Lib.hid hxx
        have g1 := l[k]!.toNat_lt
        have g2 := now2[p]!.toNat_lt
        have z0 : (0 : Int) ≤ (k : Int) := by omega
        have z2 : (0 : Int) ≤ (p : Int) := by omega
        have z3 : (p : Int) < 64 := by omega
        have hMw := HM.out
        have hoff : ¬ OwnOf u9 bb := fun h => by have h2 := HBO2.out.lt bb h; omega
        have hofm : ¬ OwnOf u9 M := fun h => by have h2 := HBO2.out.lt M h; omega
        have hsz : M + 1 ≤ (w6 : World).heap.size := by have := HFX2.out.size; have := HS3.out; omega
        have em : (k : Int).tmod 64 = (p : Int) := by rw [Int.tmod_eq_emod_of_nonneg z0]; omega
        have em2 : (k : Int) % 64 = (p : Int) := by omega
        have hcl : (bs (crossTo key nonce count l k)).length = k := by rw [bs_length, crossTo_length]
        have HCL := Lib.hid hcl
        clear hxx hxs hnx hp tp hall hMw hcl
        generalize l[k]! = x at hcell HNX HXX g1
        generalize now2[p]! = y at cm HNX HXX g2
        go_region_held_law (fun w' => w'.cell? ⟨bb, off + k, none⟩ = some (.int .u8 (x.toNat : Int)) ∧ w'.cell? ⟨M, p, none⟩ = some (.int .u8 (y.toNat : Int))) (first | exact ⟨hcell, cm⟩ | go_keep | (have f := ((Fr.alloc w6 _).non (Fr.drew _)).non hfr'; exact ⟨f.cell hcell hoff, f.cell cm hofm⟩))
          ((refine step_push (by rfl) _ _ _ (by rfl) (M + 1) 5 i0 _ 1 Tryd.underlying27 HI.out rfl _ _ (by rfl) ((HBO2.out.non (Fr.alloc _ _)).non (Fr.drew _)) _ _ (by rfl) (cell_alloc0d _ _ _) (by rfl) ⟨by rw [HCL.out]; omega, by omega⟩ (Nat.le_trans hsz (Fr.drew _ |> fun h => ((Fr.alloc _ _).non h).size)) ?_; intro v' w7 hown' hfr' hmv hkp))
        have hof9 : ∀ i, OwnOf u9 i → From M (M + 1) i := fun i h => .inr (HBO2.out.lt i h).1
        have hown2 : Own w7 (M + 1) 5 v' (bs (crossTo key nonce count l (k + 1))) := by rw [HNX.out, bs_snoc, ← HXX.out]; exact hown'
        have hbm2 : Blk w7 M 50 (bs now2) := ((HBM2.out.non (Fr.alloc _ _)).non (Fr.drew _)).frame hfr' hofm
        have hfx2 : Fr (From M (M + 1)) w3 w7 := ((HFX2.out.thenNon (Fr.alloc _ _)).thenNon (Fr.drew _)).trans hfr' (fun _ h => h) (fun i h => .inl (hof9 i h))
        have HZ := Lib.hid (And.intro hown2 (And.intro hbm2 hfx2))
        clear hown2 hbm2 hfx2 hof9 hown' hfr' hmv hkp hcell cm hofm hoff
        go_wp2
        go_roundw
        case rel => exact ⟨k + 1, now2, by omega, by go_num, HNL2.out, fun h => by rw [show (k + 1) / 64 = k / 64 by omega]; exact HNOW2.out, HZ.out.1, HZ.out.2.1, HZ.out.2.2⟩
        case measure => simp [intOf]; omega
      case neg =>
        have b0 : ((k : Int) % 64 == 0) = false := by simp; omega
        have b1 : decide ((k : Int) % 64 = 0) = false := by simp; omega
        go_upto_region 8 with (fail)
        obtain ⟨now2, hn2⟩ : ∃ now2, now2 = now := ⟨_, rfl⟩
        have HNOW2 : Hid (now2 = streamBlock key nonce ((count + k / 64) % 4294967296)) := Lib.hid (by rw [hn2]; exact HNW.out h0)
        have HNL2 : Hid (now2.length = 64) := Lib.hid (by rw [hn2]; exact HNL.out)
        have HBM2 : Hid (Blk wr M 50 (bs now2)) := Lib.hid (by rw [hn2]; exact HBM.out)
        have HBO2 := HBO
        have HFX2 := HFX
        clear HBM HBO HFX HNW HNL hn2 b0 b1
        obtain ⟨cm, -⟩ := HBM2.out.at p _ (bsL_at? now2 p (by rw [HNL2.out]; omega))
        obtain ⟨-, -, -, hall⟩ := (HV.out.frame (HFR.out.new HFX2.out (fun i h => by have h1 : i = M ∨ M + 1 ≤ i := h; have := HM.out; omega)) (fun _ _ _ _ _ h => h)).bytes
        obtain ⟨bb, off, rfl, hcell⟩ := hall k hlt
        have hbb : bb < w.heap.size := by
          obtain ⟨b', off', e, h⟩ := (HV.out.bytes).2.2.2 k hlt
          injection e with e
          injection e with e1 e2
          subst e1 e2
          exact World.block_lt_of_cell? _ _ h
        have hxx := u8xor l[k]! now2[p]!
        have hxs : now2[p]! = streamAt key nonce count k := by rw [HNOW2.out, hp]; rfl
        have hnx : crossTo key nonce count l (k + 1) = crossTo key nonce count l k ++ [l[k]! ^^^ now2[p]!] := by rw [hxs]; rfl
        have HNX := Lib.hid hnx
        have HXX := Lib.hid hxx
        have g1 := l[k]!.toNat_lt
        have g2 := now2[p]!.toNat_lt
        have z0 : (0 : Int) ≤ (k : Int) := by omega
        have z2 : (0 : Int) ≤ (p : Int) := by omega
        have z3 : (p : Int) < 64 := by omega
        have hMw := HM.out
        have hoff : ¬ OwnOf u9 bb := fun h => by have h2 := HBO2.out.lt bb h; omega
        have hofm : ¬ OwnOf u9 M := fun h => by have h2 := HBO2.out.lt M h; omega
        have hsz : M + 1 ≤ (wr : World).heap.size := by have := HFX2.out.size; have := HS3.out; omega
        have em : (k : Int).tmod 64 = (p : Int) := by rw [Int.tmod_eq_emod_of_nonneg z0]; omega
        have em2 : (k : Int) % 64 = (p : Int) := by omega
        have hcl : (bs (crossTo key nonce count l k)).length = k := by rw [bs_length, crossTo_length]
        have HCL := Lib.hid hcl
        clear hxx hxs hnx hp tp hall hMw hcl
        generalize l[k]! = x at hcell HNX HXX g1
        generalize now2[p]! = y at cm HNX HXX g2
        go_region_held_law (fun w' => w'.cell? ⟨bb, off + k, none⟩ = some (.int .u8 (x.toNat : Int)) ∧ w'.cell? ⟨M, p, none⟩ = some (.int .u8 (y.toNat : Int))) (first | exact ⟨hcell, cm⟩ | go_keep | (have f := ((Fr.alloc wr _).non (Fr.drew _)).non hfr'; exact ⟨f.cell hcell hoff, f.cell cm hofm⟩))
          ((refine step_push (by rfl) _ _ _ (by rfl) (M + 1) 5 i0 _ 1 Tryd.underlying27 HI.out rfl _ _ (by rfl) ((HBO2.out.non (Fr.alloc _ _)).non (Fr.drew _)) _ _ (by rfl) (cell_alloc0d _ _ _) (by rfl) ⟨by rw [HCL.out]; omega, by omega⟩ (Nat.le_trans hsz (Fr.drew _ |> fun h => ((Fr.alloc _ _).non h).size)) ?_; intro v' w7 hown' hfr' hmv hkp))
        have hof9 : ∀ i, OwnOf u9 i → From M (M + 1) i := fun i h => .inr (HBO2.out.lt i h).1
        have hown2 : Own w7 (M + 1) 5 v' (bs (crossTo key nonce count l (k + 1))) := by rw [HNX.out, bs_snoc, ← HXX.out]; exact hown'
        have hbm2 : Blk w7 M 50 (bs now2) := ((HBM2.out.non (Fr.alloc _ _)).non (Fr.drew _)).frame hfr' hofm
        have hfx2 : Fr (From M (M + 1)) w3 w7 := ((HFX2.out.thenNon (Fr.alloc _ _)).thenNon (Fr.drew _)).trans hfr' (fun _ h => h) (fun i h => .inl (hof9 i h))
        have HZ := Lib.hid (And.intro hown2 (And.intro hbm2 hfx2))
        clear hown2 hbm2 hfx2 hof9 hown' hfr' hmv hkp hcell cm hofm hoff
        go_wp2
        go_roundw
        case rel => exact ⟨k + 1, now2, by omega, by go_num, HNL2.out, fun h => by rw [show (k + 1) / 64 = k / 64 by omega]; exact HNOW2.out, HZ.out.1, HZ.out.2.1, HZ.out.2.2⟩
        case measure => simp [intOf]; omega
    · obtain rfl : k = l.length := by omega
      have HRES : Hid (Own wr w.heap.size 5 u9 (bs (streamCross key nonce count l))) := Lib.hid (HBO.out.mono (by have := HM.out; omega))
      have HFF := Lib.hid (HFR.out.new HFX.out (fun i h => by have h1 : i = M ∨ M + 1 ≤ i := h; have := HM.out; omega))
      clear HBO HBM HFX HNW
      go_wp2
      go_ret
      exact ⟨_, rfl, HRES.out, HFF.out⟩
end Go.Proofs.YthfpkdbhihcniaaDoor
