/- package sha: turn, spread -/
import Derived.Test.YtajknmapggkmnaaDoorBlk
import Derived.Test.YtajknmapggkmnaaDoorShaRefD
import Derived.StillTailTactics
namespace Go.Proofs.YtajknmapggkmnaaDoor
open Go.ChangeShapes Go.WideShapes Go.ChangeAt Go.RowKit

theorem and31 (k : Nat) (hk : 0 < k) (hk2 : k < 32) : bits BinOp.and IntKind.u64 (IntKind.u64.wrap (-(k : Int))) 31 = ((32 - k : Nat) : Int) := by
  rcases (show k = 1 ∨ k = 2 ∨ k = 3 ∨ k = 4 ∨ k = 5 ∨ k = 6 ∨ k = 7 ∨ k = 8 ∨ k = 9 ∨ k = 10 ∨ k = 11 ∨ k = 12 ∨ k = 13 ∨ k = 14 ∨ k = 15 ∨ k = 16 ∨ k = 17 ∨ k = 18 ∨ k = 19 ∨ k = 20 ∨ k = 21 ∨ k = 22 ∨ k = 23 ∨ k = 24 ∨ k = 25 ∨ k = 26 ∨ k = 27 ∨ k = 28 ∨ k = 29 ∨ k = 30 ∨ k = 31 by omega) with rfl | rfl | rfl | rfl | rfl | rfl | rfl | rfl | rfl | rfl | rfl | rfl | rfl | rfl | rfl | rfl | rfl | rfl | rfl | rfl | rfl | rfl | rfl | rfl | rfl | rfl | rfl | rfl | rfl | rfl | rfl <;> decide +kernel
theorem orTurn2 (x k : Nat) (hx : x < 4294967296) (hk : 0 < k) (hk2 : k < 32) : bits BinOp.or IntKind.u32 ((x : Int) * 2 ^ (32 - k) % 4294967296) ((x : Int) / 2 ^ k) = ((rotr k x : Nat) : Int) := by
  have e1 : (x : Int) / 2 ^ k = ((x / 2 ^ k : Nat) : Int) := by rw [Int.natCast_ediv, Int.natCast_pow]; rfl
  have e2 : (x : Int) * 2 ^ (32 - k) % 4294967296 = ((x * 2 ^ (32 - k) % 4294967296 : Nat) : Int) := by rw [Int.natCast_emod, Int.natCast_mul, Int.natCast_pow]; rfl
  have h1 : x / 2 ^ k ≤ x := Nat.div_le_self _ _
  rw [e1, e2, u32_or_nat _ _ (Nat.mod_lt _ (by omega)) (by omega), Nat.or_comm, rotr_or (by omega) hx]
theorem rotl_any (x k : Nat) (w : World) (hx : x < 4294967296) (hk : 0 < k) (hk2 : k < 32) :
    Calls Tryd.prog 37 #[.int .u32 x, .int .i64 (-(k : Int))] w fun e w' => e = .returned (.int .u32 (rotr k x : Nat)) ∧ w = w' := by
  have ha := and31 k hk hk2
  go_enter Tryd.func37, Tryd.ntmps37
  go_wp2_with fail
  go_ret
  refine ⟨retInt ?_, rfl⟩
  rw [show 32 - (32 - k) = k by omega]
  exact orTurn2 x k hx hk hk2
theorem turns_any (x : Nat) (k : Int) (w : World) (hx : x < 4294967296) (hk : 0 < k) (hk2 : k < 32) :
    Calls Tryd.prog 36 #[.int .u32 x, .int .i64 k] w fun e w' => e = .returned (.int .u32 (rotr k.toNat x : Nat)) ∧ w = w' := by
  obtain ⟨n, rfl⟩ := Int.eq_ofNat_of_zero_le (show 0 ≤ k by omega)
  go_enter Tryd.func36, Tryd.ntmps36
  go_wp2_with (go_at_call 37; refine (rotl_any x n _ hx (by omega) (by omega)).mono ?_; rintro e w' ⟨rfl, rfl⟩)
  go_ret
  exact ⟨rfl, rfl⟩

set_option maxRecDepth 100000 in
set_option maxHeartbeats 4000000 in
theorem spread_any (l : List UInt8) (w : World) (hl : l.length = 64) :
    Calls Tryd.prog 35 #[.agg (bs l).toArray] w fun e w' => e = .returned (.agg (us (shaWords l)).toArray) ∧ Fr Non w w' := by
  have HL := Lib.hid hl
  clear hl
  go_enter Tryd.func35, Tryd.ntmps35
  go_wp2_with fail
  have hb := Blk.new w 47 (bs l)
  have hf1 := Fr.alloc w (.cells (bs l).toArray 47)
  have hs1 : (w.alloc (.cells (bs l).toArray 47)).heap.size = w.heap.size + 1 := by simp
  generalize w.alloc (.cells (bs l).toArray 47) = w1 at hb hf1 hs1 ⊢
  have hr : Blk (w1.alloc (.cells #[.int .u32 0, .int .u32 0, .int .u32 0, .int .u32 0, .int .u32 0, .int .u32 0, .int .u32 0, .int .u32 0, .int .u32 0, .int .u32 0, .int .u32 0, .int .u32 0, .int .u32 0, .int .u32 0, .int .u32 0, .int .u32 0, .int .u32 0, .int .u32 0, .int .u32 0, .int .u32 0, .int .u32 0, .int .u32 0, .int .u32 0, .int .u32 0, .int .u32 0, .int .u32 0, .int .u32 0, .int .u32 0, .int .u32 0, .int .u32 0, .int .u32 0, .int .u32 0, .int .u32 0, .int .u32 0, .int .u32 0, .int .u32 0, .int .u32 0, .int .u32 0, .int .u32 0, .int .u32 0, .int .u32 0, .int .u32 0, .int .u32 0, .int .u32 0, .int .u32 0, .int .u32 0, .int .u32 0, .int .u32 0, .int .u32 0, .int .u32 0, .int .u32 0, .int .u32 0, .int .u32 0, .int .u32 0, .int .u32 0, .int .u32 0, .int .u32 0, .int .u32 0, .int .u32 0, .int .u32 0, .int .u32 0, .int .u32 0, .int .u32 0, .int .u32 0] 66)) w1.heap.size 66 (us (List.replicate 64 0)) := Blk.new w1 _ _
  have hf2 := Fr.alloc w1 (.cells #[.int .u32 0, .int .u32 0, .int .u32 0, .int .u32 0, .int .u32 0, .int .u32 0, .int .u32 0, .int .u32 0, .int .u32 0, .int .u32 0, .int .u32 0, .int .u32 0, .int .u32 0, .int .u32 0, .int .u32 0, .int .u32 0, .int .u32 0, .int .u32 0, .int .u32 0, .int .u32 0, .int .u32 0, .int .u32 0, .int .u32 0, .int .u32 0, .int .u32 0, .int .u32 0, .int .u32 0, .int .u32 0, .int .u32 0, .int .u32 0, .int .u32 0, .int .u32 0, .int .u32 0, .int .u32 0, .int .u32 0, .int .u32 0, .int .u32 0, .int .u32 0, .int .u32 0, .int .u32 0, .int .u32 0, .int .u32 0, .int .u32 0, .int .u32 0, .int .u32 0, .int .u32 0, .int .u32 0, .int .u32 0, .int .u32 0, .int .u32 0, .int .u32 0, .int .u32 0, .int .u32 0, .int .u32 0, .int .u32 0, .int .u32 0, .int .u32 0, .int .u32 0, .int .u32 0, .int .u32 0, .int .u32 0, .int .u32 0, .int .u32 0, .int .u32 0] 66)
  have hs2 : (w1.alloc (.cells #[.int .u32 0, .int .u32 0, .int .u32 0, .int .u32 0, .int .u32 0, .int .u32 0, .int .u32 0, .int .u32 0, .int .u32 0, .int .u32 0, .int .u32 0, .int .u32 0, .int .u32 0, .int .u32 0, .int .u32 0, .int .u32 0, .int .u32 0, .int .u32 0, .int .u32 0, .int .u32 0, .int .u32 0, .int .u32 0, .int .u32 0, .int .u32 0, .int .u32 0, .int .u32 0, .int .u32 0, .int .u32 0, .int .u32 0, .int .u32 0, .int .u32 0, .int .u32 0, .int .u32 0, .int .u32 0, .int .u32 0, .int .u32 0, .int .u32 0, .int .u32 0, .int .u32 0, .int .u32 0, .int .u32 0, .int .u32 0, .int .u32 0, .int .u32 0, .int .u32 0, .int .u32 0, .int .u32 0, .int .u32 0, .int .u32 0, .int .u32 0, .int .u32 0, .int .u32 0, .int .u32 0, .int .u32 0, .int .u32 0, .int .u32 0, .int .u32 0, .int .u32 0, .int .u32 0, .int .u32 0, .int .u32 0, .int .u32 0, .int .u32 0, .int .u32 0] 66)).heap.size = w1.heap.size + 1 := by simp
  generalize w1.alloc (.cells #[.int .u32 0, .int .u32 0, .int .u32 0, .int .u32 0, .int .u32 0, .int .u32 0, .int .u32 0, .int .u32 0, .int .u32 0, .int .u32 0, .int .u32 0, .int .u32 0, .int .u32 0, .int .u32 0, .int .u32 0, .int .u32 0, .int .u32 0, .int .u32 0, .int .u32 0, .int .u32 0, .int .u32 0, .int .u32 0, .int .u32 0, .int .u32 0, .int .u32 0, .int .u32 0, .int .u32 0, .int .u32 0, .int .u32 0, .int .u32 0, .int .u32 0, .int .u32 0, .int .u32 0, .int .u32 0, .int .u32 0, .int .u32 0, .int .u32 0, .int .u32 0, .int .u32 0, .int .u32 0, .int .u32 0, .int .u32 0, .int .u32 0, .int .u32 0, .int .u32 0, .int .u32 0, .int .u32 0, .int .u32 0, .int .u32 0, .int .u32 0, .int .u32 0, .int .u32 0, .int .u32 0, .int .u32 0, .int .u32 0, .int .u32 0, .int .u32 0, .int .u32 0, .int .u32 0, .int .u32 0, .int .u32 0, .int .u32 0, .int .u32 0, .int .u32 0] 66) = w2 at hr hf2 hs2 ⊢
  have ho : Blk (w2.alloc (.cells #[.int .u32 0, .int .u32 0, .int .u32 0, .int .u32 0, .int .u32 0, .int .u32 0, .int .u32 0, .int .u32 0, .int .u32 0, .int .u32 0, .int .u32 0, .int .u32 0, .int .u32 0, .int .u32 0, .int .u32 0, .int .u32 0, .int .u32 0, .int .u32 0, .int .u32 0, .int .u32 0, .int .u32 0, .int .u32 0, .int .u32 0, .int .u32 0, .int .u32 0, .int .u32 0, .int .u32 0, .int .u32 0, .int .u32 0, .int .u32 0, .int .u32 0, .int .u32 0, .int .u32 0, .int .u32 0, .int .u32 0, .int .u32 0, .int .u32 0, .int .u32 0, .int .u32 0, .int .u32 0, .int .u32 0, .int .u32 0, .int .u32 0, .int .u32 0, .int .u32 0, .int .u32 0, .int .u32 0, .int .u32 0, .int .u32 0, .int .u32 0, .int .u32 0, .int .u32 0, .int .u32 0, .int .u32 0, .int .u32 0, .int .u32 0, .int .u32 0, .int .u32 0, .int .u32 0, .int .u32 0, .int .u32 0, .int .u32 0, .int .u32 0, .int .u32 0] 66)) w2.heap.size 66 (us (List.replicate 64 0)) := Blk.new w2 _ _
  have hf3 := Fr.alloc w2 (.cells #[.int .u32 0, .int .u32 0, .int .u32 0, .int .u32 0, .int .u32 0, .int .u32 0, .int .u32 0, .int .u32 0, .int .u32 0, .int .u32 0, .int .u32 0, .int .u32 0, .int .u32 0, .int .u32 0, .int .u32 0, .int .u32 0, .int .u32 0, .int .u32 0, .int .u32 0, .int .u32 0, .int .u32 0, .int .u32 0, .int .u32 0, .int .u32 0, .int .u32 0, .int .u32 0, .int .u32 0, .int .u32 0, .int .u32 0, .int .u32 0, .int .u32 0, .int .u32 0, .int .u32 0, .int .u32 0, .int .u32 0, .int .u32 0, .int .u32 0, .int .u32 0, .int .u32 0, .int .u32 0, .int .u32 0, .int .u32 0, .int .u32 0, .int .u32 0, .int .u32 0, .int .u32 0, .int .u32 0, .int .u32 0, .int .u32 0, .int .u32 0, .int .u32 0, .int .u32 0, .int .u32 0, .int .u32 0, .int .u32 0, .int .u32 0, .int .u32 0, .int .u32 0, .int .u32 0, .int .u32 0, .int .u32 0, .int .u32 0, .int .u32 0, .int .u32 0] 66)
  generalize w2.alloc (.cells #[.int .u32 0, .int .u32 0, .int .u32 0, .int .u32 0, .int .u32 0, .int .u32 0, .int .u32 0, .int .u32 0, .int .u32 0, .int .u32 0, .int .u32 0, .int .u32 0, .int .u32 0, .int .u32 0, .int .u32 0, .int .u32 0, .int .u32 0, .int .u32 0, .int .u32 0, .int .u32 0, .int .u32 0, .int .u32 0, .int .u32 0, .int .u32 0, .int .u32 0, .int .u32 0, .int .u32 0, .int .u32 0, .int .u32 0, .int .u32 0, .int .u32 0, .int .u32 0, .int .u32 0, .int .u32 0, .int .u32 0, .int .u32 0, .int .u32 0, .int .u32 0, .int .u32 0, .int .u32 0, .int .u32 0, .int .u32 0, .int .u32 0, .int .u32 0, .int .u32 0, .int .u32 0, .int .u32 0, .int .u32 0, .int .u32 0, .int .u32 0, .int .u32 0, .int .u32 0, .int .u32 0, .int .u32 0, .int .u32 0, .int .u32 0, .int .u32 0, .int .u32 0, .int .u32 0, .int .u32 0, .int .u32 0, .int .u32 0, .int .u32 0, .int .u32 0] 66) = w3 at ho hf3 ⊢
  rw [hs1] at hr hs2
  rw [hs2] at ho
  have hb3 := (hb.non hf2).non hf3
  have hr3 := hr.non hf3
  have hf := (hf1.non hf2).non hf3
  have h00 : us (List.replicate 64 0) = us (shaFirst l 0 ++ List.replicate (64 - 0) 0) := rfl
  have hr4 := hr3
  rw [h00] at ho
  obtain ⟨X, hX⟩ : ∃ X, X = w.heap.size + 1 + 1 := ⟨_, rfl⟩
  rw [← hX] at ho ⊢
  clear hb hr hf1 hf2 hf3 hs1 hs2 h00 hr3
  have HB := Lib.hid hb3
  have HR := Lib.hid hr4
  have HF := Lib.hid hf
  have HX := Lib.hid hX
  clear hb3 hr4 hf hX
  go_loopw [10] (fun i wr => ∃ k : Nat, k ≤ 16 ∧ i = .int .i64 k ∧ Blk wr X 66 (us (shaFirst l k ++ List.replicate (64 - k) 0)) ∧ Fr (One X) w3 wr) (fun i _ => 16 - (intOf i).toNat)
  case atStart => exact ⟨0, by omega, rfl, ho, Fr.refl _ _⟩
  case round =>
    obtain ⟨k, hk, rfl, hown, hfr⟩ := hrel
    have HO := Lib.hid hown
    have HFR := Lib.hid hfr
    clear hown hfr
    have HFL : Hid ((shaFirst l k).length = k) := Lib.hid (shaFirst_length l k)
    by_cases hlt : k < 16
    · have hc : ∀ j, j < 64 → wr.cell? ⟨w.heap.size, j, none⟩ = some (.int .u8 ((l[j]!).toNat : Int)) := fun j hj =>
        ((HB.out.frame HFR.out (fun h => by have h1 : w.heap.size = X := h; have := HX.out; omega)).at j _ (by simp [bs, HL.out, hj])).1
      obtain ⟨j, hj⟩ : ∃ j, j = 4 * k := ⟨_, rfl⟩
      have c0 := hc j (by omega)
      have c1 := hc (j + 1) (by omega)
      have c2 := hc (j + 2) (by omega)
      have c3 := hc (j + 3) (by omega)
      have g0 := l[j]!.toNat_lt
      have g1 := l[j + 1]!.toNat_lt
      have g2 := l[j + 2]!.toNat_lt
      have g3 := l[j + 3]!.toNat_lt
      have E : Hid (be4 l (4 * k) = l[j]!.toNat * 16777216 + l[j + 1]!.toNat * 65536 + l[j + 2]!.toNat * 256 + l[j + 3]!.toNat) := Lib.hid (by rw [hj]; rfl)
      generalize l[j]!.toNat = x0 at c0 g0 E
      generalize l[j + 1]!.toNat = x1 at c1 g1 E
      generalize l[j + 2]!.toNat = x2 at c2 g2 E
      generalize l[j + 3]!.toNat = x3 at c3 g3 E
      have hz : (0 : Int) ≤ (j : Int) := by omega
      have hz1 : (0 : Int) ≤ (j : Int) + 1 := by omega
      have hz2 : (0 : Int) ≤ (j : Int) + 2 := by omega
      have hz3 : (0 : Int) ≤ (j : Int) + 3 := by omega
      have hy : (j : Int) < 64 := by omega
      have hy1 : (j : Int) + 1 < 64 := by omega
      have hy2 : (j : Int) + 2 < 64 := by omega
      have hy3 : (j : Int) + 3 < 64 := by omega
      have hkz : (0 : Int) ≤ (k : Int) := by omega
      have hky : (k : Int) < 64 := by omega
      have t1 : ((j : Int) + 1).toNat = j + 1 := by omega
      have t2 : ((j : Int) + 2).toNat = j + 2 := by omega
      have t3 : ((j : Int) + 3).toNat = j + 3 := by omega
      have e0 : IntKind.i64.wrap (4 * (k : Int)) = (j : Int) := by rw [IntWalk.i64_in _ (by omega)]; omega
      have e1 : IntKind.i64.wrap ((j : Int) + 1) = (j : Int) + 1 := IntWalk.i64_in _ (by omega)
      have e2 : IntKind.i64.wrap ((j : Int) + 2) = (j : Int) + 2 := IntWalk.i64_in _ (by omega)
      have e3 : IntKind.i64.wrap ((j : Int) + 3) = (j : Int) + 3 := IntWalk.i64_in _ (by omega)
      have HJ := Lib.hid hj
      have hlen : (us (shaFirst l k ++ List.replicate (64 - k) 0)).length = 64 := by rw [us_length, List.length_append, List.length_replicate, HFL.out]; omega
      obtain ⟨old, cu, fz⟩ := HO.out.has k (by omega)
      have HLEN := Lib.hid hlen
      clear hc hj hlen
      go_wp2
      go_still_tail 31, (by kernel_rfl)
      change wpList _ _ _ _ _ wr.drew
      rw [orBe4 x0 x1 x2 x3 g0 g1 g2 g3, ← E.out]
      clear c0 c1 c2 c3 e0 e1 e2 e3 t1 t2 t3 hz hz1 hz2 hz3 hy hy1 hy2 hy3
      go_wp2
      go_roundw
      case rel =>
        refine ⟨k + 1, by omega, by go_num, ?_, (HFR.out.trans (Fr.setCell wr ⟨X, k, none⟩ _) (fun _ h => h) (fun _ h => .inl h)).thenNon (Fr.drew _)⟩
        have h1 := HO.out.set k (.int .u32 (be4 l (4 * k) : Nat))
        have e : (us (shaFirst l k ++ List.replicate (64 - k) 0)).set k (.int .u32 (be4 l (4 * k) : Nat)) = us (shaFirst l (k + 1) ++ List.replicate (64 - (k + 1)) 0) := by
          rw [show (64 - k) = (64 - (k + 1)) + 1 by omega, List.replicate_succ]
          have h2 : (us (shaFirst l k)).length = k := by rw [us_length, HFL.out]
          rw [us_append, List.set_append_right _ _ (by omega), h2, Nat.sub_self, shaFirst]
          simp [us]
        rw [e] at h1
        exact h1
      case measure => simp [intOf]; omega
    · obtain rfl : k = 16 := by omega
      have hown : Blk wr X 66 (us (shaFill 0 (shaFirst l 16) ++ List.replicate (48 - 0) 0)) := HO.out
      have HOW := Lib.hid hown
      clear hown HO HFL
      go_wp2
      rw [show ((16 : Nat) : Int) = 16 from rfl]
      go_loopw [5] (fun i wr => ∃ k m : Nat, m = 16 + k ∧ k ≤ 48 ∧ i = .int .i64 m ∧ Blk wr X 66 (us (shaFill k (shaFirst l 16) ++ List.replicate (48 - k) 0)) ∧ Fr (One X) w3 wr) (fun i _ => 64 - (intOf i).toNat)
      case atStart => exact ⟨0, 16, rfl, by omega, rfl, HOW.out, HFR.out⟩
      case round =>
        clear HOW HFR hk hlt
        obtain ⟨k, m, hkm, hk, rfl, hown, hfr⟩ := hrel
        have hL : (shaFill k (shaFirst l 16)).length = m := by rw [shaFill_length, shaFirst_length]; omega
        have hLt := shaFill_lt k (shaFirst l 16) (shaFirst_lt l 16)
        have hsn := shaFill_snoc k (shaFirst l 16)
        rw [shaNext, hL] at hsn
        have HSN := Lib.hid hsn
        have HKM := Lib.hid hkm
        clear hsn
        have HL := Lib.hid hL
        have hm16 : 16 ≤ m := by omega
        have hm64 : m ≤ 64 := by omega
        have HO := Lib.hid hown
        have HFR := Lib.hid hfr
        clear hL hkm hown hfr
        by_cases hlt : m < 64
        · have hat : ∀ p, p < m → wr.cell? ⟨X, p, none⟩ = some (.int .u32 ((shaFill k (shaFirst l 16))[p]! : Nat)) := fun p hp =>
            (HO.out.at p _ (by rw [us_append, List.getElem?_append_left (by rw [us_length, HL.out]; exact hp)]; exact us_at _ p (by rw [HL.out]; exact hp))).1
          obtain ⟨p16, h16⟩ : ∃ p, p + 16 = m := ⟨m - 16, by omega⟩
          obtain ⟨p15, h15⟩ : ∃ p, p + 15 = m := ⟨m - 15, by omega⟩
          obtain ⟨p7, h7⟩ : ∃ p, p + 7 = m := ⟨m - 7, by omega⟩
          obtain ⟨p2, h2⟩ : ∃ p, p + 2 = m := ⟨m - 2, by omega⟩
          have c16 := hat p16 (by omega)
          have c15 := hat p15 (by omega)
          have c7 := hat p7 (by omega)
          have c2 := hat p2 (by omega)
          have b16 := get_lt hLt p16
          have b15 := get_lt hLt p15
          have b7 := get_lt hLt p7
          have b2 := get_lt hLt p2
          have hsn := HSN.out
          rw [show m - 16 = p16 by omega, show m - 15 = p15 by omega, show m - 7 = p7 by omega, show m - 2 = p2 by omega] at hsn
          clear hat
          generalize (shaFill k (shaFirst l 16))[p16]! = x16 at c16 b16 hsn
          generalize (shaFill k (shaFirst l 16))[p15]! = x15 at c15 b15 hsn
          generalize (shaFill k (shaFirst l 16))[p7]! = x7 at c7 b7 hsn
          generalize (shaFill k (shaFirst l 16))[p2]! = x2 at c2 b2 hsn
          have HS2 := Lib.hid hsn
          have HLt := Lib.hid hLt
          clear HSN hsn hLt
          have z16 : (0 : Int) ≤ (p16 : Int) := by omega
          have z15 : (0 : Int) ≤ (p15 : Int) := by omega
          have z7 : (0 : Int) ≤ (p7 : Int) := by omega
          have z2 : (0 : Int) ≤ (p2 : Int) := by omega
          have y16 : (p16 : Int) < 64 := by omega
          have y15 : (p15 : Int) < 64 := by omega
          have y7 : (p7 : Int) < 64 := by omega
          have y2 : (p2 : Int) < 64 := by omega
          have zm : (0 : Int) ≤ (m : Int) := by omega
          have ym : (m : Int) < 64 := by omega
          have e16 : IntKind.i64.wrap ((m : Int) - 16) = (p16 : Int) := by rw [IntWalk.i64_in _ (by omega)]; omega
          have e15 : IntKind.i64.wrap ((m : Int) - 15) = (p15 : Int) := by rw [IntWalk.i64_in _ (by omega)]; omega
          have e7 : IntKind.i64.wrap ((m : Int) - 7) = (p7 : Int) := by rw [IntWalk.i64_in _ (by omega)]; omega
          have e2 : IntKind.i64.wrap ((m : Int) - 2) = (p2 : Int) := by rw [IntWalk.i64_in _ (by omega)]; omega
          have hlen : (us (shaFill k (shaFirst l 16) ++ List.replicate (48 - k) 0)).length = 64 := by rw [us_length, List.length_append, List.length_replicate, HL.out]; have := HKM.out; omega
          have HLEN := Lib.hid hlen
          clear h16 h15 h7 h2 hlen
          go_wp2
          go_quiet (fail)
          have f2 := Fr.drewN wr nq
          generalize wr.drewN nq = w4 at f2 ⊢
          have HO4 := Lib.hid (HO.out.non f2)
          have HF4 := Lib.hid (HFR.out.thenNon f2)
          replace c16 := f2.cell c16 (fun h => h)
          replace c7 := f2.cell c7 (fun h => h)
          obtain ⟨old, cu, fz⟩ := HO4.out.has m (by rw [HLEN.out]; omega)
          have hsg : IntKind.u32.signed = false := by decide
          clear c15 c2 f2
          go_wp2_with (go_at_call 36; refine (turns_any _ _ _ (by assumption) (by omega) (by omega)).mono ?_; rintro e w' ⟨rfl, rfl⟩)
          rw [xorS0 x15 b15, xorS1 x2 b2]
          have bs0 := sha_s0_lt b15
          have bs1 := sha_s1_lt b2
          have hsn := HS2.out
          generalize sha_s0 x15 = q15 at bs0 hsn ⊢
          generalize sha_s1 x2 = q2 at bs1 hsn ⊢
          have HS3 := Lib.hid hsn
          clear hsn HS2
          go_wp2
          go_still_tail 15, (by kernel_rfl)
          change wpList _ _ _ _ _ w4.drew
          clear c16 c7 e16 e15 e7 e2 z16 z15 z7 z2 y16 y15 y7 y2
          go_wp2
          go_roundw
          case rel =>
            refine ⟨k + 1, m + 1, by have := HKM.out; omega, by have := HKM.out; omega, by go_num, ?_, (HF4.out.trans (Fr.setCell w4 ⟨X, m, none⟩ _) (fun _ h => h) (fun _ h => .inl h)).thenNon (Fr.drew _)⟩
            have h1 := HO4.out.set m (.int .u32 (((x16 + q15 + x7 + q2) % 4294967296 : Nat) : Int))
            have e : (us (shaFill k (shaFirst l 16) ++ List.replicate (48 - k) 0)).set m (.int .u32 (((x16 + q15 + x7 + q2) % 4294967296 : Nat) : Int)) = us (shaFill (k + 1) (shaFirst l 16) ++ List.replicate (48 - (k + 1)) 0) := by
              have hk48 : 48 - k = (48 - (k + 1)) + 1 := by have := HKM.out; omega
              rw [hk48, List.replicate_succ, HS3.out]
              have h2 : (us (shaFill k (shaFirst l 16))).length = m := by rw [us_length, HL.out]
              rw [us_append, List.set_append_right _ _ (by omega), h2, Nat.sub_self]
              simp [us]
            rw [e] at h1
            have e3 : ((x16 : Int) + (q15 : Int) + (x7 : Int) + (q2 : Int)) % 4294967296 = (((x16 + q15 + x7 + q2) % 4294967296 : Nat) : Int) := by omega
            rw [e3]
            exact h1
          case measure => simp [intOf]; omega
        · have hk48 : k = 48 := by have := HKM.out; omega
          have hown : Blk wr X 66 (us (shaWords l)) := by
            have h := HO.out
            rw [hk48, Nat.sub_self, List.replicate_zero, List.append_nil] at h
            exact h
          have HOW := Lib.hid hown
          have hinfo : (Tryd.prog.info? 66).map (·.size) = some (us (shaWords l)).length := by
            rw [us_length, shaWords_length]; kernel_rfl
          have HRR := Lib.hid (HR.out.frame HFR.out (fun h => by have h1 : w.heap.size + 1 = X := h; have := HX.out; omega))
          have hth := HRR.out.there 0 (us (shaWords l)).length (by rw [us_length, us_length, shaWords_length]; simp)
          have hone : ∀ v ∈ us (shaWords l), v.oneCell' = true := by
            intro v hv
            simp only [us, List.mem_map] at hv
            obtain ⟨c, _, rfl⟩ := hv
            rfl
          have hn64 : (us (shaWords l)).length = 64 := by rw [us_length, shaWords_length]
          have hrv := run_loadVar_mid (P := Tryd.prog) (wr.setCells (w.heap.size + 1) 0 (us (shaWords l)).toArray.toList) (w.heap.size + 1) 0 66 (us (shaWords l)) _ (by have := World.rangeAt_setCells_same wr (w.heap.size + 1) 0 (us (shaWords l)) hth; simpa using this) Tryd.underlying66 rfl hinfo
          have hfs := Fr.setCells' (w.heap.size + 1) (us (shaWords l)).toArray.toList wr 0
          have HRV := Lib.hid hrv
          have HFS := Lib.hid hfs
          have HTH := Lib.hid hth
          have HI := Lib.hid hinfo
          have HON := Lib.hid hone
          have hge : decide ((m : Int) < 64) = false := by simp; omega
          clear hrv hfs hth hinfo hone hn64 hown HO hk48
          go_upto_region 14 with (fail)
          refine wp_region_lit ?_
          refine wpList_load_mid rfl _ _ rfl X 0 rfl (us (shaWords l)) _ (HOW.out.range 0 _ (fun j v hv => by simpa using hv)) Tryd.underlying66 rfl HI.out ?_
          refine wpList_store_mid rfl _ _ _ rfl (w.heap.size + 1) 0 (us (shaWords l)).toArray rfl rfl (by simpa using HTH.out) (by simpa using HI.out) (by rw [Array.all_eq_true_iff_forall_mem]; intro v hv; exact HON.out v (by simpa using hv)) ?_
          generalize wr.setCells (w.heap.size + 1) 0 (us (shaWords l)).toArray.toList = w9 at HRV HFS ⊢
          go_wp2
          refine bodyPost_ret (v := .agg (us (shaWords l)).toArray) (by have h := HRV.out; simp [results, Tryd.results35, asAddr, Act.put, h]) rfl ⟨rfl, ?_⟩
          have hXs := HX.out
          exact (HF.out.new HFR.out (fun i h => by have h1 : i = X := h; omega)).new HFS.out (fun i h => by have h1 : i = w.heap.size + 1 := h; omega)
end Go.Proofs.YtajknmapggkmnaaDoor
