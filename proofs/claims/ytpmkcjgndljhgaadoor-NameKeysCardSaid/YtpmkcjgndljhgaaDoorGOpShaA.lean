/- GOpShaA: ShaOpA, ShaOpB, ShaOpC, ShaOpD, one behind the other. -/
import Derived.Test.YtpmkcjgndljhgaaDoorBlk
import Derived.Test.YtpmkcjgndljhgaaDoorGRefSha
import Derived.StillTailTactics
import Derived.Deep.RegionHeldLaw

/- package sha: turn, spread -/
namespace Go.Proofs.YtpmkcjgndljhgaaDoor
open Go.ChangeShapes Go.WideShapes Go.ChangeAt Go.RowKit

theorem and31 (k : Nat) (hk : 0 < k) (hk2 : k < 32) : bits BinOp.and IntKind.u64 (IntKind.u64.wrap (-(k : Int))) 31 = ((32 - k : Nat) : Int) := by
  rcases (show k = 1 ∨ k = 2 ∨ k = 3 ∨ k = 4 ∨ k = 5 ∨ k = 6 ∨ k = 7 ∨ k = 8 ∨ k = 9 ∨ k = 10 ∨ k = 11 ∨ k = 12 ∨ k = 13 ∨ k = 14 ∨ k = 15 ∨ k = 16 ∨ k = 17 ∨ k = 18 ∨ k = 19 ∨ k = 20 ∨ k = 21 ∨ k = 22 ∨ k = 23 ∨ k = 24 ∨ k = 25 ∨ k = 26 ∨ k = 27 ∨ k = 28 ∨ k = 29 ∨ k = 30 ∨ k = 31 by omega) with rfl | rfl | rfl | rfl | rfl | rfl | rfl | rfl | rfl | rfl | rfl | rfl | rfl | rfl | rfl | rfl | rfl | rfl | rfl | rfl | rfl | rfl | rfl | rfl | rfl | rfl | rfl | rfl | rfl | rfl | rfl <;> decide +kernel
theorem orTurn2 (x k : Nat) (hx : x < 4294967296) (hk : 0 < k) (hk2 : k < 32) : bits BinOp.or IntKind.u32 ((x : Int) * 2 ^ (32 - k) % 4294967296) ((x : Int) / 2 ^ k) = ((rotr k x : Nat) : Int) := by
  have e1 : (x : Int) / 2 ^ k = ((x / 2 ^ k : Nat) : Int) := by rw [Int.natCast_ediv, Int.natCast_pow]; rfl
  have e2 : (x : Int) * 2 ^ (32 - k) % 4294967296 = ((x * 2 ^ (32 - k) % 4294967296 : Nat) : Int) := by rw [Int.natCast_emod, Int.natCast_mul, Int.natCast_pow]; rfl
  have h1 : x / 2 ^ k ≤ x := Nat.div_le_self _ _
  rw [e1, e2, u32_or_nat _ _ (Nat.mod_lt _ (by omega)) (by omega), Nat.or_comm, rotr_or (by omega) hx]
theorem rotl_any (x k : Nat) (w : World) (hx : x < 4294967296) (hk : 0 < k) (hk2 : k < 32) :
    Calls Tryd.prog 92 #[.int .u32 x, .int .i64 (-(k : Int))] w fun e w' => e = .returned (.int .u32 (rotr k x : Nat)) ∧ w = w' := by
  have ha := and31 k hk hk2
  go_enter Tryd.func92, Tryd.ntmps92
  go_wp2_with fail
  go_ret
  refine ⟨retInt ?_, rfl⟩
  rw [show 32 - (32 - k) = k by omega]
  exact orTurn2 x k hx hk hk2
theorem turns_any (x : Nat) (k : Int) (w : World) (hx : x < 4294967296) (hk : 0 < k) (hk2 : k < 32) :
    Calls Tryd.prog 91 #[.int .u32 x, .int .i64 k] w fun e w' => e = .returned (.int .u32 (rotr k.toNat x : Nat)) ∧ w = w' := by
  obtain ⟨n, rfl⟩ := Int.eq_ofNat_of_zero_le (show 0 ≤ k by omega)
  go_enter Tryd.func91, Tryd.ntmps91
  go_wp2_with (go_at_call 92; refine (rotl_any x n _ hx (by omega) (by omega)).mono ?_; rintro e w' ⟨rfl, rfl⟩)
  go_ret
  exact ⟨rfl, rfl⟩

set_option maxRecDepth 100000 in
set_option maxHeartbeats 4000000 in
theorem spread_any (l : List UInt8) (w : World) (hl : l.length = 64) :
    Calls Tryd.prog 90 #[.agg (bs l).toArray] w fun e w' => e = .returned (.agg (us (shaWords l)).toArray) ∧ Fr Non w w' := by
  have HL := Lib.hid hl
  clear hl
  go_enter Tryd.func90, Tryd.ntmps90
  go_wp2_with fail
  have hb := Blk.new w 107 (bs l)
  have hf1 := Fr.alloc w (.cells (bs l).toArray 107)
  have hs1 : (w.alloc (.cells (bs l).toArray 107)).heap.size = w.heap.size + 1 := by simp
  generalize w.alloc (.cells (bs l).toArray 107) = w1 at hb hf1 hs1 ⊢
  have hr : Blk (w1.alloc (.cells #[.int .u32 0, .int .u32 0, .int .u32 0, .int .u32 0, .int .u32 0, .int .u32 0, .int .u32 0, .int .u32 0, .int .u32 0, .int .u32 0, .int .u32 0, .int .u32 0, .int .u32 0, .int .u32 0, .int .u32 0, .int .u32 0, .int .u32 0, .int .u32 0, .int .u32 0, .int .u32 0, .int .u32 0, .int .u32 0, .int .u32 0, .int .u32 0, .int .u32 0, .int .u32 0, .int .u32 0, .int .u32 0, .int .u32 0, .int .u32 0, .int .u32 0, .int .u32 0, .int .u32 0, .int .u32 0, .int .u32 0, .int .u32 0, .int .u32 0, .int .u32 0, .int .u32 0, .int .u32 0, .int .u32 0, .int .u32 0, .int .u32 0, .int .u32 0, .int .u32 0, .int .u32 0, .int .u32 0, .int .u32 0, .int .u32 0, .int .u32 0, .int .u32 0, .int .u32 0, .int .u32 0, .int .u32 0, .int .u32 0, .int .u32 0, .int .u32 0, .int .u32 0, .int .u32 0, .int .u32 0, .int .u32 0, .int .u32 0, .int .u32 0, .int .u32 0] 134)) w1.heap.size 134 (us (List.replicate 64 0)) := Blk.new w1 _ _
  have hf2 := Fr.alloc w1 (.cells #[.int .u32 0, .int .u32 0, .int .u32 0, .int .u32 0, .int .u32 0, .int .u32 0, .int .u32 0, .int .u32 0, .int .u32 0, .int .u32 0, .int .u32 0, .int .u32 0, .int .u32 0, .int .u32 0, .int .u32 0, .int .u32 0, .int .u32 0, .int .u32 0, .int .u32 0, .int .u32 0, .int .u32 0, .int .u32 0, .int .u32 0, .int .u32 0, .int .u32 0, .int .u32 0, .int .u32 0, .int .u32 0, .int .u32 0, .int .u32 0, .int .u32 0, .int .u32 0, .int .u32 0, .int .u32 0, .int .u32 0, .int .u32 0, .int .u32 0, .int .u32 0, .int .u32 0, .int .u32 0, .int .u32 0, .int .u32 0, .int .u32 0, .int .u32 0, .int .u32 0, .int .u32 0, .int .u32 0, .int .u32 0, .int .u32 0, .int .u32 0, .int .u32 0, .int .u32 0, .int .u32 0, .int .u32 0, .int .u32 0, .int .u32 0, .int .u32 0, .int .u32 0, .int .u32 0, .int .u32 0, .int .u32 0, .int .u32 0, .int .u32 0, .int .u32 0] 134)
  have hs2 : (w1.alloc (.cells #[.int .u32 0, .int .u32 0, .int .u32 0, .int .u32 0, .int .u32 0, .int .u32 0, .int .u32 0, .int .u32 0, .int .u32 0, .int .u32 0, .int .u32 0, .int .u32 0, .int .u32 0, .int .u32 0, .int .u32 0, .int .u32 0, .int .u32 0, .int .u32 0, .int .u32 0, .int .u32 0, .int .u32 0, .int .u32 0, .int .u32 0, .int .u32 0, .int .u32 0, .int .u32 0, .int .u32 0, .int .u32 0, .int .u32 0, .int .u32 0, .int .u32 0, .int .u32 0, .int .u32 0, .int .u32 0, .int .u32 0, .int .u32 0, .int .u32 0, .int .u32 0, .int .u32 0, .int .u32 0, .int .u32 0, .int .u32 0, .int .u32 0, .int .u32 0, .int .u32 0, .int .u32 0, .int .u32 0, .int .u32 0, .int .u32 0, .int .u32 0, .int .u32 0, .int .u32 0, .int .u32 0, .int .u32 0, .int .u32 0, .int .u32 0, .int .u32 0, .int .u32 0, .int .u32 0, .int .u32 0, .int .u32 0, .int .u32 0, .int .u32 0, .int .u32 0] 134)).heap.size = w1.heap.size + 1 := by simp
  generalize w1.alloc (.cells #[.int .u32 0, .int .u32 0, .int .u32 0, .int .u32 0, .int .u32 0, .int .u32 0, .int .u32 0, .int .u32 0, .int .u32 0, .int .u32 0, .int .u32 0, .int .u32 0, .int .u32 0, .int .u32 0, .int .u32 0, .int .u32 0, .int .u32 0, .int .u32 0, .int .u32 0, .int .u32 0, .int .u32 0, .int .u32 0, .int .u32 0, .int .u32 0, .int .u32 0, .int .u32 0, .int .u32 0, .int .u32 0, .int .u32 0, .int .u32 0, .int .u32 0, .int .u32 0, .int .u32 0, .int .u32 0, .int .u32 0, .int .u32 0, .int .u32 0, .int .u32 0, .int .u32 0, .int .u32 0, .int .u32 0, .int .u32 0, .int .u32 0, .int .u32 0, .int .u32 0, .int .u32 0, .int .u32 0, .int .u32 0, .int .u32 0, .int .u32 0, .int .u32 0, .int .u32 0, .int .u32 0, .int .u32 0, .int .u32 0, .int .u32 0, .int .u32 0, .int .u32 0, .int .u32 0, .int .u32 0, .int .u32 0, .int .u32 0, .int .u32 0, .int .u32 0] 134) = w2 at hr hf2 hs2 ⊢
  have ho : Blk (w2.alloc (.cells #[.int .u32 0, .int .u32 0, .int .u32 0, .int .u32 0, .int .u32 0, .int .u32 0, .int .u32 0, .int .u32 0, .int .u32 0, .int .u32 0, .int .u32 0, .int .u32 0, .int .u32 0, .int .u32 0, .int .u32 0, .int .u32 0, .int .u32 0, .int .u32 0, .int .u32 0, .int .u32 0, .int .u32 0, .int .u32 0, .int .u32 0, .int .u32 0, .int .u32 0, .int .u32 0, .int .u32 0, .int .u32 0, .int .u32 0, .int .u32 0, .int .u32 0, .int .u32 0, .int .u32 0, .int .u32 0, .int .u32 0, .int .u32 0, .int .u32 0, .int .u32 0, .int .u32 0, .int .u32 0, .int .u32 0, .int .u32 0, .int .u32 0, .int .u32 0, .int .u32 0, .int .u32 0, .int .u32 0, .int .u32 0, .int .u32 0, .int .u32 0, .int .u32 0, .int .u32 0, .int .u32 0, .int .u32 0, .int .u32 0, .int .u32 0, .int .u32 0, .int .u32 0, .int .u32 0, .int .u32 0, .int .u32 0, .int .u32 0, .int .u32 0, .int .u32 0] 134)) w2.heap.size 134 (us (List.replicate 64 0)) := Blk.new w2 _ _
  have hf3 := Fr.alloc w2 (.cells #[.int .u32 0, .int .u32 0, .int .u32 0, .int .u32 0, .int .u32 0, .int .u32 0, .int .u32 0, .int .u32 0, .int .u32 0, .int .u32 0, .int .u32 0, .int .u32 0, .int .u32 0, .int .u32 0, .int .u32 0, .int .u32 0, .int .u32 0, .int .u32 0, .int .u32 0, .int .u32 0, .int .u32 0, .int .u32 0, .int .u32 0, .int .u32 0, .int .u32 0, .int .u32 0, .int .u32 0, .int .u32 0, .int .u32 0, .int .u32 0, .int .u32 0, .int .u32 0, .int .u32 0, .int .u32 0, .int .u32 0, .int .u32 0, .int .u32 0, .int .u32 0, .int .u32 0, .int .u32 0, .int .u32 0, .int .u32 0, .int .u32 0, .int .u32 0, .int .u32 0, .int .u32 0, .int .u32 0, .int .u32 0, .int .u32 0, .int .u32 0, .int .u32 0, .int .u32 0, .int .u32 0, .int .u32 0, .int .u32 0, .int .u32 0, .int .u32 0, .int .u32 0, .int .u32 0, .int .u32 0, .int .u32 0, .int .u32 0, .int .u32 0, .int .u32 0] 134)
  generalize w2.alloc (.cells #[.int .u32 0, .int .u32 0, .int .u32 0, .int .u32 0, .int .u32 0, .int .u32 0, .int .u32 0, .int .u32 0, .int .u32 0, .int .u32 0, .int .u32 0, .int .u32 0, .int .u32 0, .int .u32 0, .int .u32 0, .int .u32 0, .int .u32 0, .int .u32 0, .int .u32 0, .int .u32 0, .int .u32 0, .int .u32 0, .int .u32 0, .int .u32 0, .int .u32 0, .int .u32 0, .int .u32 0, .int .u32 0, .int .u32 0, .int .u32 0, .int .u32 0, .int .u32 0, .int .u32 0, .int .u32 0, .int .u32 0, .int .u32 0, .int .u32 0, .int .u32 0, .int .u32 0, .int .u32 0, .int .u32 0, .int .u32 0, .int .u32 0, .int .u32 0, .int .u32 0, .int .u32 0, .int .u32 0, .int .u32 0, .int .u32 0, .int .u32 0, .int .u32 0, .int .u32 0, .int .u32 0, .int .u32 0, .int .u32 0, .int .u32 0, .int .u32 0, .int .u32 0, .int .u32 0, .int .u32 0, .int .u32 0, .int .u32 0, .int .u32 0, .int .u32 0] 134) = w3 at ho hf3 ⊢
  rw [hs1] at hr hs2
  rw [hs2] at ho
  have hb3 := (hb.non hf2).non hf3
  have hr3 := hr.non hf3
  have hf := (hf1.non hf2).non hf3
  have h00 : us (List.replicate 64 0) = us (shaFirst l 0 ++ List.replicate (64 - 0) 0) := rfl
  have hr4 := hr3
  rw [h00] at ho
  obtain ⟨X, hX⟩ : ∃ X, X = w.heap.size + 1 + 1 := ⟨_, rfl⟩
  rw [← hX] at ho ⊢
  clear hb hr hf1 hf2 hf3 hs1 hs2 h00 hr3
  have HB := Lib.hid hb3
  have HR := Lib.hid hr4
  have HF := Lib.hid hf
  have HX := Lib.hid hX
  clear hb3 hr4 hf hX
  go_loopw [10] (fun i wr => ∃ k : Nat, k ≤ 16 ∧ i = .int .i64 k ∧ Blk wr X 134 (us (shaFirst l k ++ List.replicate (64 - k) 0)) ∧ Fr (One X) w3 wr) (fun i _ => 16 - (intOf i).toNat)
  case atStart => exact ⟨0, by omega, rfl, ho, Fr.refl _ _⟩
  case round =>
    obtain ⟨k, hk, rfl, hown, hfr⟩ := hrel
    have HO := Lib.hid hown
    have HFR := Lib.hid hfr
    clear hown hfr
    have HFL : Hid ((shaFirst l k).length = k) := Lib.hid (shaFirst_length l k)
    by_cases hlt : k < 16
    · have hc : ∀ j, j < 64 → wr.cell? ⟨w.heap.size, j, none⟩ = some (.int .u8 ((l[j]!).toNat : Int)) := fun j hj =>
        ((HB.out.frame HFR.out (fun h => by have h1 : w.heap.size = X := h; have := HX.out; omega)).at j _ (by simp [bs, HL.out, hj])).1
      obtain ⟨j, hj⟩ : ∃ j, j = 4 * k := ⟨_, rfl⟩
      have c0 := hc j (by omega)
      have c1 := hc (j + 1) (by omega)
      have c2 := hc (j + 2) (by omega)
      have c3 := hc (j + 3) (by omega)
      have g0 := l[j]!.toNat_lt
      have g1 := l[j + 1]!.toNat_lt
      have g2 := l[j + 2]!.toNat_lt
      have g3 := l[j + 3]!.toNat_lt
      have E : Hid (be4 l (4 * k) = l[j]!.toNat * 16777216 + l[j + 1]!.toNat * 65536 + l[j + 2]!.toNat * 256 + l[j + 3]!.toNat) := Lib.hid (by rw [hj]; rfl)
      generalize l[j]!.toNat = x0 at c0 g0 E
      generalize l[j + 1]!.toNat = x1 at c1 g1 E
      generalize l[j + 2]!.toNat = x2 at c2 g2 E
      generalize l[j + 3]!.toNat = x3 at c3 g3 E
      have hz : (0 : Int) ≤ (j : Int) := by omega
      have hz1 : (0 : Int) ≤ (j : Int) + 1 := by omega
      have hz2 : (0 : Int) ≤ (j : Int) + 2 := by omega
      have hz3 : (0 : Int) ≤ (j : Int) + 3 := by omega
      have hy : (j : Int) < 64 := by omega
      have hy1 : (j : Int) + 1 < 64 := by omega
      have hy2 : (j : Int) + 2 < 64 := by omega
      have hy3 : (j : Int) + 3 < 64 := by omega
      have hkz : (0 : Int) ≤ (k : Int) := by omega
      have hky : (k : Int) < 64 := by omega
      have t1 : ((j : Int) + 1).toNat = j + 1 := by omega
      have t2 : ((j : Int) + 2).toNat = j + 2 := by omega
      have t3 : ((j : Int) + 3).toNat = j + 3 := by omega
      have e0 : IntKind.i64.wrap (4 * (k : Int)) = (j : Int) := by rw [IntWalk.i64_in _ (by omega)]; omega
      have e1 : IntKind.i64.wrap ((j : Int) + 1) = (j : Int) + 1 := IntWalk.i64_in _ (by omega)
      have e2 : IntKind.i64.wrap ((j : Int) + 2) = (j : Int) + 2 := IntWalk.i64_in _ (by omega)
      have e3 : IntKind.i64.wrap ((j : Int) + 3) = (j : Int) + 3 := IntWalk.i64_in _ (by omega)
      have HJ := Lib.hid hj
      have hlen : (us (shaFirst l k ++ List.replicate (64 - k) 0)).length = 64 := by rw [us_length, List.length_append, List.length_replicate, HFL.out]; omega
      obtain ⟨old, cu, fz⟩ := HO.out.has k (by omega)
      have HLEN := Lib.hid hlen
      clear hc hj hlen
      go_wp2
      go_still_tail 31, (by kernel_rfl)
      change wpList _ _ _ _ _ wr.drew
      rw [orBe4 x0 x1 x2 x3 g0 g1 g2 g3, ← E.out]
      clear c0 c1 c2 c3 e0 e1 e2 e3 t1 t2 t3 hz hz1 hz2 hz3 hy hy1 hy2 hy3
      go_wp2
      go_roundw
      case rel =>
        refine ⟨k + 1, by omega, by go_num, ?_, (HFR.out.trans (Fr.setCell wr ⟨X, k, none⟩ _) (fun _ h => h) (fun _ h => .inl h)).thenNon (Fr.drew _)⟩
        have h1 := HO.out.set k (.int .u32 (be4 l (4 * k) : Nat))
        have e : (us (shaFirst l k ++ List.replicate (64 - k) 0)).set k (.int .u32 (be4 l (4 * k) : Nat)) = us (shaFirst l (k + 1) ++ List.replicate (64 - (k + 1)) 0) := by
          rw [show (64 - k) = (64 - (k + 1)) + 1 by omega, List.replicate_succ]
          have h2 : (us (shaFirst l k)).length = k := by rw [us_length, HFL.out]
          rw [us_append, List.set_append_right _ _ (by omega), h2, Nat.sub_self, shaFirst]
          simp [us]
        rw [e] at h1
        exact h1
      case measure => simp [intOf]; omega
    · obtain rfl : k = 16 := by omega
      have hown : Blk wr X 134 (us (shaFill 0 (shaFirst l 16) ++ List.replicate (48 - 0) 0)) := HO.out
      have HOW := Lib.hid hown
      clear hown HO HFL
      go_wp2
      rw [show ((16 : Nat) : Int) = 16 from rfl]
      go_loopw [5] (fun i wr => ∃ k m : Nat, m = 16 + k ∧ k ≤ 48 ∧ i = .int .i64 m ∧ Blk wr X 134 (us (shaFill k (shaFirst l 16) ++ List.replicate (48 - k) 0)) ∧ Fr (One X) w3 wr) (fun i _ => 64 - (intOf i).toNat)
      case atStart => exact ⟨0, 16, rfl, by omega, rfl, HOW.out, HFR.out⟩
      case round =>
        clear HOW HFR hk hlt
        obtain ⟨k, m, hkm, hk, rfl, hown, hfr⟩ := hrel
        have hL : (shaFill k (shaFirst l 16)).length = m := by rw [shaFill_length, shaFirst_length]; omega
        have hLt := shaFill_lt k (shaFirst l 16) (shaFirst_lt l 16)
        have hsn := shaFill_snoc k (shaFirst l 16)
        rw [shaNext, hL] at hsn
        have HSN := Lib.hid hsn
        have HKM := Lib.hid hkm
        clear hsn
        have HL := Lib.hid hL
        have hm16 : 16 ≤ m := by omega
        have hm64 : m ≤ 64 := by omega
        have HO := Lib.hid hown
        have HFR := Lib.hid hfr
        clear hL hkm hown hfr
        by_cases hlt : m < 64
        · have hat : ∀ p, p < m → wr.cell? ⟨X, p, none⟩ = some (.int .u32 ((shaFill k (shaFirst l 16))[p]! : Nat)) := fun p hp =>
            (HO.out.at p _ (by rw [us_append, List.getElem?_append_left (by rw [us_length, HL.out]; exact hp)]; exact us_at _ p (by rw [HL.out]; exact hp))).1
          obtain ⟨p16, h16⟩ : ∃ p, p + 16 = m := ⟨m - 16, by omega⟩
          obtain ⟨p15, h15⟩ : ∃ p, p + 15 = m := ⟨m - 15, by omega⟩
          obtain ⟨p7, h7⟩ : ∃ p, p + 7 = m := ⟨m - 7, by omega⟩
          obtain ⟨p2, h2⟩ : ∃ p, p + 2 = m := ⟨m - 2, by omega⟩
          have c16 := hat p16 (by omega)
          have c15 := hat p15 (by omega)
          have c7 := hat p7 (by omega)
          have c2 := hat p2 (by omega)
          have b16 := get_lt hLt p16
          have b15 := get_lt hLt p15
          have b7 := get_lt hLt p7
          have b2 := get_lt hLt p2
          have hsn := HSN.out
          rw [show m - 16 = p16 by omega, show m - 15 = p15 by omega, show m - 7 = p7 by omega, show m - 2 = p2 by omega] at hsn
          clear hat
          generalize (shaFill k (shaFirst l 16))[p16]! = x16 at c16 b16 hsn
          generalize (shaFill k (shaFirst l 16))[p15]! = x15 at c15 b15 hsn
          generalize (shaFill k (shaFirst l 16))[p7]! = x7 at c7 b7 hsn
          generalize (shaFill k (shaFirst l 16))[p2]! = x2 at c2 b2 hsn
          have HS2 := Lib.hid hsn
          have HLt := Lib.hid hLt
          clear HSN hsn hLt
          have z16 : (0 : Int) ≤ (p16 : Int) := by omega
          have z15 : (0 : Int) ≤ (p15 : Int) := by omega
          have z7 : (0 : Int) ≤ (p7 : Int) := by omega
          have z2 : (0 : Int) ≤ (p2 : Int) := by omega
          have y16 : (p16 : Int) < 64 := by omega
          have y15 : (p15 : Int) < 64 := by omega
          have y7 : (p7 : Int) < 64 := by omega
          have y2 : (p2 : Int) < 64 := by omega
          have zm : (0 : Int) ≤ (m : Int) := by omega
          have ym : (m : Int) < 64 := by omega
          have e16 : IntKind.i64.wrap ((m : Int) - 16) = (p16 : Int) := by rw [IntWalk.i64_in _ (by omega)]; omega
          have e15 : IntKind.i64.wrap ((m : Int) - 15) = (p15 : Int) := by rw [IntWalk.i64_in _ (by omega)]; omega
          have e7 : IntKind.i64.wrap ((m : Int) - 7) = (p7 : Int) := by rw [IntWalk.i64_in _ (by omega)]; omega
          have e2 : IntKind.i64.wrap ((m : Int) - 2) = (p2 : Int) := by rw [IntWalk.i64_in _ (by omega)]; omega
          have hlen : (us (shaFill k (shaFirst l 16) ++ List.replicate (48 - k) 0)).length = 64 := by rw [us_length, List.length_append, List.length_replicate, HL.out]; have := HKM.out; omega
          have HLEN := Lib.hid hlen
          clear h16 h15 h7 h2 hlen
          go_wp2
          go_quiet (fail)
          have f2 := Fr.drewN wr nq
          generalize wr.drewN nq = w4 at f2 ⊢
          have HO4 := Lib.hid (HO.out.non f2)
          have HF4 := Lib.hid (HFR.out.thenNon f2)
          replace c16 := f2.cell c16 (fun h => h)
          replace c7 := f2.cell c7 (fun h => h)
          obtain ⟨old, cu, fz⟩ := HO4.out.has m (by rw [HLEN.out]; omega)
          have hsg : IntKind.u32.signed = false := by decide
          clear c15 c2 f2
          go_wp2_with (go_at_call 91; refine (turns_any _ _ _ (by assumption) (by omega) (by omega)).mono ?_; rintro e w' ⟨rfl, rfl⟩)
          rw [xorS0 x15 b15, xorS1 x2 b2]
          have bs0 := sha_s0_lt b15
          have bs1 := sha_s1_lt b2
          have hsn := HS2.out
          generalize sha_s0 x15 = q15 at bs0 hsn ⊢
          generalize sha_s1 x2 = q2 at bs1 hsn ⊢
          have HS3 := Lib.hid hsn
          clear hsn HS2
          go_wp2
          go_still_tail 15, (by kernel_rfl)
          change wpList _ _ _ _ _ w4.drew
          clear c16 c7 e16 e15 e7 e2 z16 z15 z7 z2 y16 y15 y7 y2
          go_wp2
          go_roundw
          case rel =>
            refine ⟨k + 1, m + 1, by have := HKM.out; omega, by have := HKM.out; omega, by go_num, ?_, (HF4.out.trans (Fr.setCell w4 ⟨X, m, none⟩ _) (fun _ h => h) (fun _ h => .inl h)).thenNon (Fr.drew _)⟩
            have h1 := HO4.out.set m (.int .u32 (((x16 + q15 + x7 + q2) % 4294967296 : Nat) : Int))
            have e : (us (shaFill k (shaFirst l 16) ++ List.replicate (48 - k) 0)).set m (.int .u32 (((x16 + q15 + x7 + q2) % 4294967296 : Nat) : Int)) = us (shaFill (k + 1) (shaFirst l 16) ++ List.replicate (48 - (k + 1)) 0) := by
              have hk48 : 48 - k = (48 - (k + 1)) + 1 := by have := HKM.out; omega
              rw [hk48, List.replicate_succ, HS3.out]
              have h2 : (us (shaFill k (shaFirst l 16))).length = m := by rw [us_length, HL.out]
              rw [us_append, List.set_append_right _ _ (by omega), h2, Nat.sub_self]
              simp [us]
            rw [e] at h1
            have e3 : ((x16 : Int) + (q15 : Int) + (x7 : Int) + (q2 : Int)) % 4294967296 = (((x16 + q15 + x7 + q2) % 4294967296 : Nat) : Int) := by omega
            rw [e3]
            exact h1
          case measure => simp [intOf]; omega
        · have hk48 : k = 48 := by have := HKM.out; omega
          have hown : Blk wr X 134 (us (shaWords l)) := by
            have h := HO.out
            rw [hk48, Nat.sub_self, List.replicate_zero, List.append_nil] at h
            exact h
          have HOW := Lib.hid hown
          have hinfo : (Tryd.prog.info? 134).map (·.size) = some (us (shaWords l)).length := by
            rw [us_length, shaWords_length]; kernel_rfl
          have HRR := Lib.hid (HR.out.frame HFR.out (fun h => by have h1 : w.heap.size + 1 = X := h; have := HX.out; omega))
          have hth := HRR.out.there 0 (us (shaWords l)).length (by rw [us_length, us_length, shaWords_length]; simp)
          have hone : ∀ v ∈ us (shaWords l), v.oneCell' = true := by
            intro v hv
            simp only [us, List.mem_map] at hv
            obtain ⟨c, _, rfl⟩ := hv
            rfl
          have hn64 : (us (shaWords l)).length = 64 := by rw [us_length, shaWords_length]
          have hrv := run_loadVar_mid (P := Tryd.prog) (wr.setCells (w.heap.size + 1) 0 (us (shaWords l)).toArray.toList) (w.heap.size + 1) 0 134 (us (shaWords l)) _ (by have := World.rangeAt_setCells_same wr (w.heap.size + 1) 0 (us (shaWords l)) hth; simpa using this) Tryd.underlying134 rfl hinfo
          have hfs := Fr.setCells' (w.heap.size + 1) (us (shaWords l)).toArray.toList wr 0
          have HRV := Lib.hid hrv
          have HFS := Lib.hid hfs
          have HTH := Lib.hid hth
          have HI := Lib.hid hinfo
          have HON := Lib.hid hone
          have hge : decide ((m : Int) < 64) = false := by simp; omega
          clear hrv hfs hth hinfo hone hn64 hown HO hk48
          go_upto_region 14 with (fail)
          refine wp_region_lit ?_
          refine wpList_load_mid rfl _ _ rfl X 0 rfl (us (shaWords l)) _ (HOW.out.range 0 _ (fun j v hv => by simpa using hv)) Tryd.underlying134 rfl HI.out ?_
          refine wpList_store_mid rfl _ _ _ rfl (w.heap.size + 1) 0 (us (shaWords l)).toArray rfl rfl (by simpa using HTH.out) (by simpa using HI.out) (by rw [Array.all_eq_true_iff_forall_mem]; intro v hv; exact HON.out v (by simpa using hv)) ?_
          generalize wr.setCells (w.heap.size + 1) 0 (us (shaWords l)).toArray.toList = w9 at HRV HFS ⊢
          go_wp2
          refine bodyPost_ret (v := .agg (us (shaWords l)).toArray) (by have h := HRV.out; simp [results, Tryd.results90, asAddr, Act.put, h]) rfl ⟨rfl, ?_⟩
          have hXs := HX.out
          exact (HF.out.new HFR.out (fun i h => by have h1 : i = X := h; omega)).new HFS.out (fun i h => by have h1 : i = w.heap.size + 1 := h; omega)
end Go.Proofs.YtpmkcjgndljhgaaDoor

/- package sha: changed -/
namespace Go.Proofs.YtpmkcjgndljhgaaDoor
open Go.ChangeShapes Go.WideShapes Go.ChangeAt Go.RowKit

/-- the walk's spelling of a round's first word -/
theorem tEq2 (x0 x1 x2 x3 x4 x5 x6 x7 r q : Nat) (o4 : x4 < 4294967296) (o5 : x5 < 4294967296) (o6 : x6 < 4294967296) :
    (((((x7 : Int) + bits BinOp.xor IntKind.u32 (bits BinOp.xor IntKind.u32 ((rotr 6 x4 : Nat) : Int) ((rotr 11 x4 : Nat) : Int)) ((rotr 25 x4 : Nat) : Int)) % 4294967296 + bits BinOp.xor IntKind.u32 (bits BinOp.and IntKind.u32 (x4 : Int) (x5 : Int)) (bits BinOp.and IntKind.u32 (bits BinOp.xor IntKind.u32 IntKind.u32.max (x4 : Int)) (x6 : Int))) % 4294967296 + (r : Int)) % 4294967296 + (q : Int)) % 4294967296
      = ((shaT ⟨x0, x1, x2, x3, x4, x5, x6, x7⟩ r q : Nat) : Int) := by
  rw [← tEq x0 x1 x2 x3 x4 x5 x6 x7 r q o4 o5 o6]
  omega

set_option maxRecDepth 100000 in
set_option maxHeartbeats 4000000 in
theorem changed_any (s : St8) (l : List UInt8) (w : World) (hs : s.ok) (hl : l.length = 64) (hK : KAt w 4) :
    Calls Tryd.prog 83 #[.agg #[.int .u32 s.a, .int .u32 s.b, .int .u32 s.c, .int .u32 s.d, .int .u32 s.e, .int .u32 s.f, .int .u32 s.g, .int .u32 s.h], .agg (bs l).toArray] w fun e w' => e = .returned (shaBlock s l).val ∧ Fr Non w w' := by
  obtain ⟨a, b, c, d, e, f, g, h⟩ := s
  have hKs : 4 < w.heap.size := World.block_lt_of_cell? _ _ (hK 0 (by omega))
  have HK := Lib.hid hK
  have HS := Lib.hid hs
  have HL := Lib.hid hl
  have hbi : (Tryd.prog.info? 107).map (·.size) = some (bs l).length := by rw [bs_length, hl]; kernel_rfl
  have HBI := Lib.hid hbi
  have hwi : (Tryd.prog.info? 134).map (·.size) = some (us (shaWords l)).toArray.size := by rw [List.size_toArray, us_length, shaWords_length]; kernel_rfl
  have HWI := Lib.hid hwi
  have HKS := Lib.hid hKs
  clear hK hs hl hbi hwi hKs
  go_enter Tryd.func83, Tryd.ntmps83
  go_upto_region 1 with (fail)
  have ha : SB (w.alloc (.cells #[.int .u32 a, .int .u32 b, .int .u32 c, .int .u32 d, .int .u32 e, .int .u32 f, .int .u32 g, .int .u32 h] 116)) w.heap.size ⟨a, b, c, d, e, f, g, h⟩ := heap_alloc_new w _
  have hf1 := Fr.alloc w (.cells #[.int .u32 a, .int .u32 b, .int .u32 c, .int .u32 d, .int .u32 e, .int .u32 f, .int .u32 g, .int .u32 h] 116)
  have hs1 : (w.alloc (.cells #[.int .u32 a, .int .u32 b, .int .u32 c, .int .u32 d, .int .u32 e, .int .u32 f, .int .u32 g, .int .u32 h] 116)).heap.size = w.heap.size + 1 := by simp
  generalize w.alloc (.cells #[.int .u32 a, .int .u32 b, .int .u32 c, .int .u32 d, .int .u32 e, .int .u32 f, .int .u32 g, .int .u32 h] 116) = w1 at ha hf1 hs1 ⊢
  have hb := Blk.new w1 107 (bs l)
  have hf2 := Fr.alloc w1 (.cells (bs l).toArray 107)
  have hs2 : (w1.alloc (.cells (bs l).toArray 107)).heap.size = w1.heap.size + 1 := by simp
  generalize w1.alloc (.cells (bs l).toArray 107) = w2 at hb hf2 hs2 ⊢
  have hr : SB (w2.alloc (.cells #[.int .u32 0, .int .u32 0, .int .u32 0, .int .u32 0, .int .u32 0, .int .u32 0, .int .u32 0, .int .u32 0] 116)) w2.heap.size ⟨0, 0, 0, 0, 0, 0, 0, 0⟩ := heap_alloc_new w2 _
  have hf3 := Fr.alloc w2 (.cells #[.int .u32 0, .int .u32 0, .int .u32 0, .int .u32 0, .int .u32 0, .int .u32 0, .int .u32 0, .int .u32 0] 116)
  have hs3 : (w2.alloc (.cells #[.int .u32 0, .int .u32 0, .int .u32 0, .int .u32 0, .int .u32 0, .int .u32 0, .int .u32 0, .int .u32 0] 116)).heap.size = w2.heap.size + 1 := by simp
  generalize w2.alloc (.cells #[.int .u32 0, .int .u32 0, .int .u32 0, .int .u32 0, .int .u32 0, .int .u32 0, .int .u32 0, .int .u32 0] 116) = w3 at hr hf3 hs3 ⊢
  rw [hs1] at hb hs2
  rw [hs2] at hr hs3
  have HA := Lib.hid ((ha.frame hf2 (fun h => h)).frame hf3 (fun h => h))
  have HB := Lib.hid (hb.non hf3)
  have HR := Lib.hid hr
  have HF := Lib.hid ((hf1.non hf2).non hf3)
  have HS3 := Lib.hid hs3
  clear ha hb hr hf1 hf2 hf3 hs1 hs2 hs3
  refine wp_region_lit ?_
  refine wpList_load_mid rfl _ _ rfl (w.heap.size + 1) 0 rfl (bs l) _ (HB.out.range 0 _ (fun j v hv => by simpa using hv)) Tryd.underlying107 rfl HBI.out ?_
  go_wp2_with fail
  refine (spread_any l _ HL.out).mono ?_
  rintro e w4 ⟨rfl, hf4⟩
  have hWl := shaWords_length l
  have hWt := shaWords_lt l
  have HE : Hid (shaBlock ⟨a, b, c, d, e, f, g, h⟩ l = (shaRounds ⟨a, b, c, d, e, f, g, h⟩ (shaWords l) 64).plus ⟨a, b, c, d, e, f, g, h⟩) := Lib.hid rfl
  generalize shaWords l = W at HWI hWl hWt HE ⊢
  have HW := Lib.hid (And.intro hWl hWt)
  clear hWl hWt
  have hw5 : Blk (w4.alloc (.cells #[.int .u32 0, .int .u32 0, .int .u32 0, .int .u32 0, .int .u32 0, .int .u32 0, .int .u32 0, .int .u32 0, .int .u32 0, .int .u32 0, .int .u32 0, .int .u32 0, .int .u32 0, .int .u32 0, .int .u32 0, .int .u32 0, .int .u32 0, .int .u32 0, .int .u32 0, .int .u32 0, .int .u32 0, .int .u32 0, .int .u32 0, .int .u32 0, .int .u32 0, .int .u32 0, .int .u32 0, .int .u32 0, .int .u32 0, .int .u32 0, .int .u32 0, .int .u32 0, .int .u32 0, .int .u32 0, .int .u32 0, .int .u32 0, .int .u32 0, .int .u32 0, .int .u32 0, .int .u32 0, .int .u32 0, .int .u32 0, .int .u32 0, .int .u32 0, .int .u32 0, .int .u32 0, .int .u32 0, .int .u32 0, .int .u32 0, .int .u32 0, .int .u32 0, .int .u32 0, .int .u32 0, .int .u32 0, .int .u32 0, .int .u32 0, .int .u32 0, .int .u32 0, .int .u32 0, .int .u32 0, .int .u32 0, .int .u32 0, .int .u32 0, .int .u32 0] 134)) w4.heap.size 134 (us (List.replicate 64 0)) := Blk.new w4 _ _
  have hf5 := Fr.alloc w4 (.cells #[.int .u32 0, .int .u32 0, .int .u32 0, .int .u32 0, .int .u32 0, .int .u32 0, .int .u32 0, .int .u32 0, .int .u32 0, .int .u32 0, .int .u32 0, .int .u32 0, .int .u32 0, .int .u32 0, .int .u32 0, .int .u32 0, .int .u32 0, .int .u32 0, .int .u32 0, .int .u32 0, .int .u32 0, .int .u32 0, .int .u32 0, .int .u32 0, .int .u32 0, .int .u32 0, .int .u32 0, .int .u32 0, .int .u32 0, .int .u32 0, .int .u32 0, .int .u32 0, .int .u32 0, .int .u32 0, .int .u32 0, .int .u32 0, .int .u32 0, .int .u32 0, .int .u32 0, .int .u32 0, .int .u32 0, .int .u32 0, .int .u32 0, .int .u32 0, .int .u32 0, .int .u32 0, .int .u32 0, .int .u32 0, .int .u32 0, .int .u32 0, .int .u32 0, .int .u32 0, .int .u32 0, .int .u32 0, .int .u32 0, .int .u32 0, .int .u32 0, .int .u32 0, .int .u32 0, .int .u32 0, .int .u32 0, .int .u32 0, .int .u32 0, .int .u32 0] 134)
  have HF4 := Lib.hid hf4
  clear hf4
  dsimp only
  iterate 3 (first | go_values | go_skip | go_guarded | go_step | go_upon | go_back)
  generalize w4.alloc (.cells #[.int .u32 0, .int .u32 0, .int .u32 0, .int .u32 0, .int .u32 0, .int .u32 0, .int .u32 0, .int .u32 0, .int .u32 0, .int .u32 0, .int .u32 0, .int .u32 0, .int .u32 0, .int .u32 0, .int .u32 0, .int .u32 0, .int .u32 0, .int .u32 0, .int .u32 0, .int .u32 0, .int .u32 0, .int .u32 0, .int .u32 0, .int .u32 0, .int .u32 0, .int .u32 0, .int .u32 0, .int .u32 0, .int .u32 0, .int .u32 0, .int .u32 0, .int .u32 0, .int .u32 0, .int .u32 0, .int .u32 0, .int .u32 0, .int .u32 0, .int .u32 0, .int .u32 0, .int .u32 0, .int .u32 0, .int .u32 0, .int .u32 0, .int .u32 0, .int .u32 0, .int .u32 0, .int .u32 0, .int .u32 0, .int .u32 0, .int .u32 0, .int .u32 0, .int .u32 0, .int .u32 0, .int .u32 0, .int .u32 0, .int .u32 0, .int .u32 0, .int .u32 0, .int .u32 0, .int .u32 0, .int .u32 0, .int .u32 0, .int .u32 0, .int .u32 0] 134) = w5 at hw5 hf5 ⊢
  have hth := hw5.there 0 (us (W)).toArray.size (by simp [us_length, HW.out.1])
  have HTH := Lib.hid hth
  have HW5 := Lib.hid hw5
  have HF5 := Lib.hid hf5
  clear hth hw5 hf5
  rename_i K hK
  refine hK _ _ ?_
  clear hK
  refine wpList_store_mid rfl _ _ _ rfl w4.heap.size 0 (us (W)).toArray rfl rfl HTH.out HWI.out (all_one (us_one _)) ?_
  simp only [Act.put]
  have hw6 := Blk.setCells (us (W)).toArray.toList w5 _ 0 HW5.out (by simp [us_length, HW.out.1])
  have hf6 := Fr.setCells' w4.heap.size (us (W)).toArray.toList w5 0
  generalize w5.setCells w4.heap.size 0 (us (W)).toArray.toList = w6 at hw6 hf6 ⊢
  have hw7 : Blk w6 w4.heap.size 134 (us (W)) := by
    have e : splice (us (List.replicate 64 0)) 0 (us (W)).toArray.toList = us (W) := by
      have h64 : (us (W)).length = 64 := by rw [us_length, HW.out.1]
      simp only [splice, List.take_zero, List.nil_append, Nat.zero_add]
      rw [List.drop_of_length_le (by rw [us_length, List.length_replicate, h64]; exact Nat.le_refl _), List.append_nil]
    rw [e] at hw6
    exact hw6
  have hz4 : w4.heap.size < w6.heap.size := hw7.lt
  have HF6 : Hid (Fr Non w3 w6) := Lib.hid ((HF4.out.non HF5.out).new hf6 (fun i h => by have h1 : i = w4.heap.size := h; have := HF4.out.size; omega))
  have HW7 := Lib.hid hw7
  clear hw6 hf6 hw7 HW5 HF5 HTH
  obtain ⟨X, hX⟩ : ∃ X, X = w4.heap.size := ⟨_, rfl⟩
  rw [← hX] at hz4 HW7 ⊢
  have HX := Lib.hid hX
  have HA6 := Lib.hid (HA.out.frame HF6.out (fun h => h))
  have HR6 := Lib.hid (HR.out.frame HF6.out (fun h => h))
  obtain ⟨c0, c1, c2, c3, c4, c5, c6, c7⟩ := HA6.out.cells
  simp only at c0 c1 c2 c3 c4 c5 c6 c7
  clear hX
  as_aux_lemma =>
    go_wp2
    go_quiet (fail)
    have f2 := Fr.drewN w6 nq
    generalize w6.drewN nq = w8 at f2 ⊢
    have HF8 := Lib.hid (HF6.out.non f2)
    have HA8 := Lib.hid (HA6.out.frame f2 (fun h => h))
    have HR8 := Lib.hid (HR6.out.frame f2 (fun h => h))
    have HW8 := Lib.hid (HW7.out.non f2)
    have hz8 : X < w8.heap.size := HW8.out.lt
    clear c0 c1 c2 c3 c4 c5 c6 c7 f2 HA6 HR6 HW7 HF6 hz4 HF4
    go_wp2
    go_loopw [6, 7, 8, 9, 10, 11, 12, 13, 35] (fun c6 c7 c8 c9 c10 c11 c12 c13 i wr => ∃ (k : Nat) (s : St8), k ≤ 64 ∧ i = .int .i64 k ∧ s = shaRounds ⟨a, b, c, d, e, f, g, h⟩ W k ∧ c6 = .int .u32 s.a ∧ c7 = .int .u32 s.b ∧ c8 = .int .u32 s.c ∧ c9 = .int .u32 s.d ∧ c10 = .int .u32 s.e ∧ c11 = .int .u32 s.f ∧ c12 = .int .u32 s.g ∧ c13 = .int .u32 s.h ∧ Fr Non w8 wr) (fun _ _ _ _ _ _ _ _ i _ => 64 - (intOf i).toNat)
    case atStart => exact ⟨0, ⟨a, b, c, d, e, f, g, h⟩, by omega, rfl, rfl, rfl, rfl, rfl, rfl, rfl, rfl, rfl, rfl, Fr.refl _ _⟩
    case round =>
      obtain ⟨k, s, hk, rfl, hs, rfl, rfl, rfl, rfl, rfl, rfl, rfl, rfl, hfr⟩ := hrel
      have HFR := Lib.hid hfr
      have hok : s.ok := by rw [hs]; exact shaRounds_ok HS.out W k
      clear hfr
      by_cases hlt : k < 64
      · have hwk : wr.cell? ⟨X, k, none⟩ = some (.int .u32 (W[k]! : Int)) := HFR.out.cell ((HW8.out.at k _ (us_at _ _ (by rw [HW.out.1]; omega))).1) (fun h => h)
        have hKk : wr.cell? ⟨4, k, none⟩ = some (.int .u32 (shaK[k]! : Int)) := HFR.out.cell (HF8.out.cell (HF.out.cell (HK.out k hlt) (fun h => h)) (fun h => h)) (fun h => h)
        have hbw := get_lt HW.out.2 k
        have hbK := shaK_lt k hlt
        have HR : Hid (shaRounds ⟨a, b, c, d, e, f, g, h⟩ W (k + 1) = shaRound s shaK[k]! W[k]!) := Lib.hid (by rw [hs]; rfl)
        generalize W[k]! = q at hwk hbw HR
        generalize shaK[k]! = r at hKk hbK HR
        clear hs
        obtain ⟨x0, x1, x2, x3, x4, x5, x6, x7⟩ := s
        obtain ⟨o0, o1, o2, o3, o4, o5, o6, o7⟩ := hok
        simp only at o0 o1 o2 o3 o4 o5 o6 o7
        have hsg : IntKind.u32.signed = false := by decide
        have z0 : (0 : Int) ≤ (k : Int) := by omega
        have z1 : (k : Int) < 64 := by omega
        go_wp2
        go_quiet ((go_at_call 91; refine Calls.quiet_of_same ((turns_any _ _ _ o4 (by omega) (by omega)).mono (fun _ _ h => ⟨h.1, h.2.symm⟩))))
        rw [tEq x0 x1 x2 x3 x4 x5 x6 x7 r q o4 o5 o6]
        have hT : shaT ⟨x0, x1, x2, x3, x4, x5, x6, x7⟩ r q < 4294967296 := Nat.mod_lt _ (by omega)
        have hR2 : shaRounds ⟨a, b, c, d, e, f, g, h⟩ W (k + 1) = ⟨(shaT ⟨x0, x1, x2, x3, x4, x5, x6, x7⟩ r q + shaU ⟨x0, x1, x2, x3, x4, x5, x6, x7⟩) % 4294967296, x0, x1, x2, (x3 + shaT ⟨x0, x1, x2, x3, x4, x5, x6, x7⟩ r q) % 4294967296, x4, x5, x6⟩ := HR.out
        generalize shaT ⟨x0, x1, x2, x3, x4, x5, x6, x7⟩ r q = T at hT hR2 ⊢
        have f2 := Fr.drewN wr nq
        generalize wr.drewN nq = w9 at f2 ⊢
        have HF9 : Hid (Fr Non w8 w9) := Lib.hid (HFR.out.non f2)
        have HR2 := Lib.hid hR2
        clear hwk hKk HR hR2 f2
        go_wp2_with (go_at_call 91; refine (turns_any _ _ _ (by assumption) (by omega) (by omega)).mono ?_; rintro e w' ⟨rfl, rfl⟩)
        rw [uEq x0 x1 x2 x3 x4 x5 x6 x7 o0 o1 o2]
        have hU : shaU ⟨x0, x1, x2, x3, x4, x5, x6, x7⟩ < 4294967296 := Nat.mod_lt _ (by omega)
        have hR2 := HR2.out
        generalize shaU ⟨x0, x1, x2, x3, x4, x5, x6, x7⟩ = U at hU hR2 ⊢
        go_roundw
        case rel =>
          have e1 : ((T : Int) + (U : Int)) % 4294967296 = (((T + U) % 4294967296 : Nat) : Int) := by omega
          have e2 : ((x3 : Int) + (T : Int)) % 4294967296 = (((x3 + T) % 4294967296 : Nat) : Int) := by omega
          rw [e1, e2]
          exact ⟨k + 1, _, by omega, by go_num, hR2.symm, rfl, rfl, rfl, rfl, rfl, rfl, rfl, rfl, HF9.out⟩
        case measure => simp [intOf]; omega
      · have e64 : k = 64 := by omega
        have hst := HE.out
        rw [← e64, ← hs] at hst
        have hA := HA8.out.frame HFR.out (fun h => h)
        have hR : Blk wr (w.heap.size + 1 + 1) 116 (us [0, 0, 0, 0, 0, 0, 0, 0]) := HR8.out.frame HFR.out (fun h => h)
        have hth := hR.there 0 8 (Nat.le_refl _)
        obtain ⟨y0, y1, y2, y3, y4, y5, y6, y7⟩ := s
        obtain ⟨o0, o1, o2, o3, o4, o5, o6, o7⟩ := hok
        simp only at o0 o1 o2 o3 o4 o5 o6 o7
        obtain ⟨c0, c1, c2, c3, c4, c5, c6, c7⟩ := hA.cells
        simp only at c0 c1 c2 c3 c4 c5 c6 c7
        obtain ⟨s0, s1, s2, s3, s4, s5, s6, s7⟩ := HS.out
        simp only at s0 s1 s2 s3 s4 s5 s6 s7
        obtain ⟨R, hRe⟩ : ∃ R, R = w.heap.size + 1 + 1 := ⟨_, rfl⟩
        rw [← hRe] at hR hth ⊢
        have HST := Lib.hid hst
        have HRB := Lib.hid hR
        have HTH := Lib.hid hth
        have HRE := Lib.hid hRe
        have hge : decide ((k : Int) < 64) = false := by simp; omega
        have h8i : (Tryd.prog.info? 116).map (·.size) = some 8 := by kernel_rfl
        have HI8 := Lib.hid h8i
        have hbt : ∀ us : List Value, us.length = 8 → (∀ u ∈ us, u.cells = #[u]) → Tryd.prog.built 116 (us.zipIdx.map fun p => (p.2, p.1)) = some us.toArray := by
          have h1 : (Tryd.prog.info? 116).map (·.zero) = some (some (.agg #[.int .u32 0, .int .u32 0, .int .u32 0, .int .u32 0, .int .u32 0, .int .u32 0, .int .u32 0, .int .u32 0])) := by kernel_rfl
          have h2 : (Tryd.prog.info? 100).map (·.size) = some 1 := by kernel_rfl
          obtain ⟨it, q1, q2⟩ := Option.map_eq_some_iff.1 h1
          obtain ⟨ie, q3, q4⟩ := Option.map_eq_some_iff.1 h2
          exact fun us hl hc => built_words q1 q2 Tryd.underlying116 q3 q4 us hc (by simp [hl])
        have HBT := Lib.hid hbt
        clear hst hA hR hs e64 hth hRe h8i hbt
        as_aux_lemma =>
          go_upto_region 10 with (fail)
          refine wp_region_lit ?_
          iterate 96 (first | go_values | go_skip | go_guarded | go_step | go_upon | go_back)
          refine wpList_build_as rfl 116 [(0, .tmp 101), (1, .tmp 105), (2, .tmp 109), (3, .tmp 113), (4, .tmp 117), (5, .tmp 121), (6, .tmp 125), (7, .tmp 129)] rfl _ _ (HBT.out [.int .u32 _, .int .u32 _, .int .u32 _, .int .u32 _, .int .u32 _, .int .u32 _, .int .u32 _, .int .u32 _] rfl (by simp [Value.cells])) rfl ?_
          refine wpList_store_mid rfl 116 (.tmp 4) (.tmp 130) rfl R 0 #[.int .u32 _, .int .u32 _, .int .u32 _, .int .u32 _, .int .u32 _, .int .u32 _, .int .u32 _, .int .u32 _] rfl rfl HTH.out HI8.out (by simp [Value.oneCell']) ?_
          have w32 : ∀ x y : Nat, ((x : Int) + (y : Int)) % 4294967296 = (((y + x) % 4294967296 : Nat) : Int) := fun x y => by omega
          simp only [Act.put]
          rw [w32, w32, w32, w32, w32, w32, w32, w32]
          have hst := HST.out
          have hv : (shaBlock ⟨a, b, c, d, e, f, g, h⟩ l).val = .agg (us [(y0 + a) % 4294967296, (y1 + b) % 4294967296, (y2 + c) % 4294967296, (y3 + d) % 4294967296, (y4 + e) % 4294967296, (y5 + f) % 4294967296, (y6 + g) % 4294967296, (y7 + h) % 4294967296]).toArray := by rw [hst]; rfl
          change wpList _ _ _ _ _ (wr.setCells R 0 (us [(y0 + a) % 4294967296, (y1 + b) % 4294967296, (y2 + c) % 4294967296, (y3 + d) % 4294967296, (y4 + e) % 4294967296, (y5 + f) % 4294967296, (y6 + g) % 4294967296, (y7 + h) % 4294967296]))
          have hy8 : (us [(y0 + a) % 4294967296, (y1 + b) % 4294967296, (y2 + c) % 4294967296, (y3 + d) % 4294967296, (y4 + e) % 4294967296, (y5 + f) % 4294967296, (y6 + g) % 4294967296, (y7 + h) % 4294967296]).length = 8 := rfl
          generalize us [(y0 + a) % 4294967296, (y1 + b) % 4294967296, (y2 + c) % 4294967296, (y3 + d) % 4294967296, (y4 + e) % 4294967296, (y5 + f) % 4294967296, (y6 + g) % 4294967296, (y7 + h) % 4294967296] = ys at hv hy8 ⊢
          have hb9 : wr.there R 0 ys.length := by rw [hy8]; exact HTH.out
          have hrv := run_loadVar_mid (P := Tryd.prog) (wr.setCells R 0 ys) R 0 116 ys _ (by have := World.rangeAt_setCells_same wr R 0 ys hb9; simpa using this) Tryd.underlying116 rfl (by rw [hy8]; exact HI8.out)
          have hfs := Fr.setCells' R ys wr 0
          generalize wr.setCells R 0 ys = w9 at hrv hfs ⊢
          have HRV := Lib.hid hrv
          have HFS := Lib.hid hfs
          have HV := Lib.hid hv
          clear hrv hfs hv hst w32 hb9 hy8
          go_wp2
          refine bodyPost_ret (v := .agg ys.toArray) (by have h := HRV.out; simp [results, Tryd.results83, asAddr, h]) rfl ⟨by rw [HV.out], ?_⟩
          have hRs := HRE.out
          exact (((HF.out.non HF8.out).non HFR.out).new HFS.out (fun i h => by have h1 : i = R := h; omega))
end Go.Proofs.YtpmkcjgndljhgaaDoor

/- package sha: laid -/
namespace Go.Proofs.YtpmkcjgndljhgaaDoor
open Go.ChangeShapes Go.WideShapes Go.ChangeAt Go.RowKit

set_option maxRecDepth 100000 in
theorem run_index8 (a b c d e f g h j : Nat) (hj : j < 8) (w : World) : (Instr.index 116 (.agg #[.int .u32 a, .int .u32 b, .int .u32 c, .int .u32 d, .int .u32 e, .int .u32 f, .int .u32 g, .int .u32 h]) (.int .i64 (j : Int))).run Tryd.prog w = .ok (.int .u32 (([a, b, c, d, e, f, g, h][j]! : Nat) : Int)) w := by
  rcases (show j = 0 ∨ j = 1 ∨ j = 2 ∨ j = 3 ∨ j = 4 ∨ j = 5 ∨ j = 6 ∨ j = 7 by omega) with rfl | rfl | rfl | rfl | rfl | rfl | rfl | rfl <;> kernel_rfl

set_option maxRecDepth 100000 in
set_option maxHeartbeats 1000000 in
theorem laid_any (s : St8) (w : World) (hs : s.ok) :
    Calls Tryd.prog 85 #[.agg #[.int .u32 s.a, .int .u32 s.b, .int .u32 s.c, .int .u32 s.d, .int .u32 s.e, .int .u32 s.f, .int .u32 s.g, .int .u32 s.h]] w fun e w' => e = .returned (.agg (bs s.bytes).toArray) ∧ Fr Non w w' := by
  obtain ⟨a, b, c, d, e, f, g, h⟩ := s
  have HOK := Lib.hid hs
  clear hs
  go_enter Tryd.func85, Tryd.ntmps85
  go_upto_region 1 with (fail)
  have ha : SB (w.alloc (.cells #[.int .u32 a, .int .u32 b, .int .u32 c, .int .u32 d, .int .u32 e, .int .u32 f, .int .u32 g, .int .u32 h] 116)) w.heap.size ⟨a, b, c, d, e, f, g, h⟩ := heap_alloc_new w _
  have hf1 := Fr.alloc w (.cells #[.int .u32 a, .int .u32 b, .int .u32 c, .int .u32 d, .int .u32 e, .int .u32 f, .int .u32 g, .int .u32 h] 116)
  have hs1 : (w.alloc (.cells #[.int .u32 a, .int .u32 b, .int .u32 c, .int .u32 d, .int .u32 e, .int .u32 f, .int .u32 g, .int .u32 h] 116)).heap.size = w.heap.size + 1 := by simp
  generalize w.alloc (.cells #[.int .u32 a, .int .u32 b, .int .u32 c, .int .u32 d, .int .u32 e, .int .u32 f, .int .u32 g, .int .u32 h] 116) = w1 at ha hf1 hs1 ⊢
  have hd0 : DB (w1.alloc (.cells #[.int .u8 0, .int .u8 0, .int .u8 0, .int .u8 0, .int .u8 0, .int .u8 0, .int .u8 0, .int .u8 0, .int .u8 0, .int .u8 0, .int .u8 0, .int .u8 0, .int .u8 0, .int .u8 0, .int .u8 0, .int .u8 0, .int .u8 0, .int .u8 0, .int .u8 0, .int .u8 0, .int .u8 0, .int .u8 0, .int .u8 0, .int .u8 0, .int .u8 0, .int .u8 0, .int .u8 0, .int .u8 0, .int .u8 0, .int .u8 0, .int .u8 0, .int .u8 0] 42)) w1.heap.size zero32 := DB.new w1
  have hf2 := Fr.alloc w1 (.cells #[.int .u8 0, .int .u8 0, .int .u8 0, .int .u8 0, .int .u8 0, .int .u8 0, .int .u8 0, .int .u8 0, .int .u8 0, .int .u8 0, .int .u8 0, .int .u8 0, .int .u8 0, .int .u8 0, .int .u8 0, .int .u8 0, .int .u8 0, .int .u8 0, .int .u8 0, .int .u8 0, .int .u8 0, .int .u8 0, .int .u8 0, .int .u8 0, .int .u8 0, .int .u8 0, .int .u8 0, .int .u8 0, .int .u8 0, .int .u8 0, .int .u8 0, .int .u8 0] 42)
  have hs2 : (w1.alloc (.cells #[.int .u8 0, .int .u8 0, .int .u8 0, .int .u8 0, .int .u8 0, .int .u8 0, .int .u8 0, .int .u8 0, .int .u8 0, .int .u8 0, .int .u8 0, .int .u8 0, .int .u8 0, .int .u8 0, .int .u8 0, .int .u8 0, .int .u8 0, .int .u8 0, .int .u8 0, .int .u8 0, .int .u8 0, .int .u8 0, .int .u8 0, .int .u8 0, .int .u8 0, .int .u8 0, .int .u8 0, .int .u8 0, .int .u8 0, .int .u8 0, .int .u8 0, .int .u8 0] 42)).heap.size = w1.heap.size + 1 := by simp
  generalize w1.alloc (.cells #[.int .u8 0, .int .u8 0, .int .u8 0, .int .u8 0, .int .u8 0, .int .u8 0, .int .u8 0, .int .u8 0, .int .u8 0, .int .u8 0, .int .u8 0, .int .u8 0, .int .u8 0, .int .u8 0, .int .u8 0, .int .u8 0, .int .u8 0, .int .u8 0, .int .u8 0, .int .u8 0, .int .u8 0, .int .u8 0, .int .u8 0, .int .u8 0, .int .u8 0, .int .u8 0, .int .u8 0, .int .u8 0, .int .u8 0, .int .u8 0, .int .u8 0, .int .u8 0] 42) = w2 at hd0 hf2 hs2 ⊢
  rw [hs1] at hd0 hs2
  have ha2 := ha.frame hf2 (fun h => h)
  have HA := Lib.hid ha2
  have HD := Lib.hid hd0
  have HF := Lib.hid (hf1.non hf2)
  have HS := Lib.hid hs2
  clear ha hd0 hf1 hf2 hs1 hs2
  clear ha2
  go_upto_region 2 with (fail)
  rw [HS.out]
  have hd0 : DB (w2.alloc (.cells #[.int .u8 0, .int .u8 0, .int .u8 0, .int .u8 0, .int .u8 0, .int .u8 0, .int .u8 0, .int .u8 0, .int .u8 0, .int .u8 0, .int .u8 0, .int .u8 0, .int .u8 0, .int .u8 0, .int .u8 0, .int .u8 0, .int .u8 0, .int .u8 0, .int .u8 0, .int .u8 0, .int .u8 0, .int .u8 0, .int .u8 0, .int .u8 0, .int .u8 0, .int .u8 0, .int .u8 0, .int .u8 0, .int .u8 0, .int .u8 0, .int .u8 0, .int .u8 0] 42)) w2.heap.size (digL ⟨a, b, c, d, e, f, g, h⟩ 0) := DB.new w2
  have hf2 := Fr.alloc w2 (.cells #[.int .u8 0, .int .u8 0, .int .u8 0, .int .u8 0, .int .u8 0, .int .u8 0, .int .u8 0, .int .u8 0, .int .u8 0, .int .u8 0, .int .u8 0, .int .u8 0, .int .u8 0, .int .u8 0, .int .u8 0, .int .u8 0, .int .u8 0, .int .u8 0, .int .u8 0, .int .u8 0, .int .u8 0, .int .u8 0, .int .u8 0, .int .u8 0, .int .u8 0, .int .u8 0, .int .u8 0, .int .u8 0, .int .u8 0, .int .u8 0, .int .u8 0, .int .u8 0] 42)
  generalize w2.alloc (.cells #[.int .u8 0, .int .u8 0, .int .u8 0, .int .u8 0, .int .u8 0, .int .u8 0, .int .u8 0, .int .u8 0, .int .u8 0, .int .u8 0, .int .u8 0, .int .u8 0, .int .u8 0, .int .u8 0, .int .u8 0, .int .u8 0, .int .u8 0, .int .u8 0, .int .u8 0, .int .u8 0, .int .u8 0, .int .u8 0, .int .u8 0, .int .u8 0, .int .u8 0, .int .u8 0, .int .u8 0, .int .u8 0, .int .u8 0, .int .u8 0, .int .u8 0, .int .u8 0] 42) = w3 at hd0 hf2 ⊢
  rw [HS.out] at hd0
  obtain ⟨R, hR⟩ : ∃ R, R = w.heap.size + 1 := ⟨_, rfl⟩
  obtain ⟨D, hD⟩ : ∃ D, D = w.heap.size + 1 + 1 := ⟨_, rfl⟩
  rw [← hD] at hd0 ⊢
  rw [← hR]
  have HRD := Lib.hid (And.intro hR hD)
  have HD0 := Lib.hid hd0
  have HZ : Hid (DB w3 R zero32) := Lib.hid (by rw [hR]; exact HD.out.frame hf2 (fun h => h))
  have HF3 := Lib.hid (HF.out.non hf2)
  have ha3 := HA.out.frame hf2 (fun h => h)
  obtain ⟨c0, c1, c2, c3, c4, c5, c6, c7⟩ := ha3.cells
  simp only at c0 c1 c2 c3 c4 c5 c6 c7
  clear hR hD hd0 hf2 HA ha3
  go_wp2_with fail
  clear c0 c1 c2 c3 c4 c5 c6 c7
  go_loopw [7] (fun i wq => ∃ j : Nat, j ≤ 8 ∧ i = .int .i64 j ∧ DB wq D (digL ⟨a, b, c, d, e, f, g, h⟩ j) ∧ Fr (One D) w3 wq) (fun i _ => 8 - (intOf i).toNat)
  case atStart => exact ⟨0, by omega, rfl, HD0.out, Fr.refl _ _⟩
  case round =>
    obtain ⟨j, hj, rfl, hdb, hfr⟩ := hrel
    have HFQ := Lib.hid hfr
    have HDB := Lib.hid hdb
    clear hfr hdb
    by_cases hlt : j < 8
    · have bx : (St8.list ⟨a, b, c, d, e, f, g, h⟩)[j]! < 4294967296 := list_lt HOK.out j
      have hix := run_index8 a b c d e f g h j hlt
      have hdl := digL_length ⟨a, b, c, d, e, f, g, h⟩ j hj
      obtain ⟨d0, f0⟩ := HDB.out.at (4 * j) (by omega)
      obtain ⟨d1, f1⟩ := HDB.out.at (4 * j + 1) (by omega)
      obtain ⟨d2, f2⟩ := HDB.out.at (4 * j + 2) (by omega)
      obtain ⟨d3, f3⟩ := HDB.out.at (4 * j + 3) (by omega)
      have HDS := Lib.hid (digL_set ⟨a, b, c, d, e, f, g, h⟩ j hlt)
      have hix2 : ∀ w, (Instr.index 116 (.agg #[.int .u32 a, .int .u32 b, .int .u32 c, .int .u32 d, .int .u32 e, .int .u32 f, .int .u32 g, .int .u32 h]) (.int .i64 (j : Int))).run Tryd.prog w = .ok (.int .u32 (((St8.list ⟨a, b, c, d, e, f, g, h⟩)[j]! : Nat) : Int)) w := hix
      clear hix
      generalize (St8.list ⟨a, b, c, d, e, f, g, h⟩)[j]! = x at hix2 bx HDS
      generalize (digL ⟨a, b, c, d, e, f, g, h⟩ j)[4 * j]! = q0 at d0
      generalize (digL ⟨a, b, c, d, e, f, g, h⟩ j)[4 * j + 1]! = q1 at d1
      generalize (digL ⟨a, b, c, d, e, f, g, h⟩ j)[4 * j + 2]! = q2 at d2
      generalize (digL ⟨a, b, c, d, e, f, g, h⟩ j)[4 * j + 3]! = q3 at d3
      have z0 : (0 : Int) ≤ (j : Int) := by omega
      have z1 : (j : Int) < 8 := by omega
      clear hdl
      go_wp2_with fail
      clear d0 d1 d2 d3 f0 f1 f2 f3
      go_roundw
      case rel =>
        have e0 : (x : Int) / 16777216 = ((UInt8.ofNat (x / 16777216 % 256)).toNat : Int) := by rw [ofNat_toNat _ (Nat.mod_lt _ (by omega))]; omega
        have e1 : (x : Int) / 65536 % 256 = ((UInt8.ofNat (x / 65536 % 256)).toNat : Int) := by rw [ofNat_toNat _ (Nat.mod_lt _ (by omega))]; omega
        have e2 : (x : Int) / 256 % 256 = ((UInt8.ofNat (x / 256 % 256)).toNat : Int) := by rw [ofNat_toNat _ (Nat.mod_lt _ (by omega))]; omega
        have e3 : (x : Int) % 256 = ((UInt8.ofNat (x % 256)).toNat : Int) := by rw [ofNat_toNat _ (Nat.mod_lt _ (by omega))]; omega
        rw [e0, e1, e2, e3]
        refine ⟨j + 1, by omega, by go_num, ?_, ?_⟩
        · rw [← HDS.out]
          exact (((HDB.out.set (4 * j) _).set (4 * j + 1) _).set (4 * j + 2) _).set (4 * j + 3) _
        · have t : ∀ {a b : World} (_ : Fr (One D) a b) (k : Nat) (u : Value), Fr (One D) a (b.setCell ⟨D, k, none⟩ u) := fun h k u => h.trans (Fr.setCell _ ⟨D, k, none⟩ u) (fun _ h => h) (fun _ h => .inl h)
          exact t (t (t (t HFQ.out _ _) _ _) _ _) _ _
      case measure => simp [intOf]; omega
    · have e8 : j = 8 := by omega
      have hdb := HDB.out
      rw [e8, digL_8] at hdb
      have hz : DB wr R zero32 := HZ.out.frame HFQ.out (fun h => by have h1 : R = D := h; have := HRD.out; omega)
      have HDB8 := Lib.hid hdb
      have HZ8 := Lib.hid hz
      have hge9 : decide ((j : Int) < 8) = false := by simp; omega
      have hbl : (bs (St8.bytes ⟨a, b, c, d, e, f, g, h⟩)).length = 32 := by simp [bs_length, St8.bytes, beBytes_length]
      have hone := bs_one (St8.bytes ⟨a, b, c, d, e, f, g, h⟩)
      have hrng := HDB8.out.range
      obtain ⟨ys, hys⟩ : ∃ ys, ys = bs (St8.bytes ⟨a, b, c, d, e, f, g, h⟩) := ⟨_, rfl⟩
      rw [← hys] at hbl hone hrng
      have HYS := Lib.hid hys
      clear hys
      have hinfo : (Tryd.prog.info? 42).map (·.size) = some ys.length := by rw [hbl]; kernel_rfl
      have hth : wr.there R 0 ys.length := by rw [hbl]; exact HZ8.out.there
      have hrv := run_loadVar_mid (P := Tryd.prog) (wr.setCells R 0 ys.toArray.toList) R 0 42 ys _ (by have := World.rangeAt_setCells_same wr R 0 ys hth; simpa using this) Tryd.underlying42 rfl hinfo
      have hfs : Fr (One R) wr (wr.setCells R 0 ys.toArray.toList) := Fr.setCells _ _ _ _
      have HRV := Lib.hid hrv
      have HFS := Lib.hid hfs
      have HTH := Lib.hid hth
      have HI := Lib.hid hinfo
      have HON := Lib.hid hone
      have HRN := Lib.hid hrng
      clear hrv hfs hth hinfo hone hrng hbl hdb hz e8
      go_upto_region 7 with (fail)
      refine wp_region_lit ?_
      refine wpList_load_mid rfl _ _ rfl D 0 rfl ys _ HRN.out Tryd.underlying42 rfl HI.out ?_
      refine wpList_store_mid rfl _ _ _ rfl R 0 ys.toArray rfl rfl (by simpa using HTH.out) (by simpa using HI.out) (by rw [Array.all_eq_true_iff_forall_mem]; intro v hv; exact HON.out v (by simpa using hv)) ?_
      generalize wr.setCells R 0 ys.toArray.toList = w9 at HRV HFS ⊢
      go_wp2
      refine bodyPost_ret (v := .agg ys.toArray) (by have h := HRV.out; simp [results, Tryd.results85, asAddr, Act.put, h]) rfl ⟨by rw [HYS.out], ?_⟩
      have hx := HRD.out
      exact (HF3.out.new HFQ.out (fun i h => by have h1 : i = D := h; omega)).new HFS.out (fun i h => by have h1 : i = R := h; omega)
end Go.Proofs.YtpmkcjgndljhgaaDoor

/- package sha: a state in memory; New, Len, Write -/
namespace Go.Proofs.YtpmkcjgndljhgaaDoor
open Go.ChangeShapes Go.WideShapes Go.ChangeAt Go.RowKit

/-- block B holds a state: words, block, number -/
def StB (w : World) (B : Nat) (s : List Nat) (blk : List UInt8) (n : Nat) : Prop := Blk w B 128 (us s ++ (bs blk ++ [.int .i64 (n : Int)]))
/-- .. that of the bytes l -/
def StL (w : World) (B : Nat) (l : List UInt8) : Prop := ∃ s : St8, ∃ blk : List UInt8, s.ok ∧ blk.length = 64 ∧ blk.take (l.length % 64) = l.drop (64 * (l.length / 64)) ∧ (l ≠ [] → s = shaRun (l.length / 64) shaInit l) ∧ StB w B s.list blk l.length
theorem StL.frame {w w' : World} {B : Nat} {l : List UInt8} (h : StL w B l) {S : Nat → Prop} (f : Fr S w w') (hn : ¬ S B) : StL w' B l := by
  obtain ⟨s, blk, h1, h2, h3, h4, h5⟩ := h
  exact ⟨s, blk, h1, h2, h3, h4, Blk.frame h5 f hn⟩
theorem StL.lt {w : World} {B : Nat} {l : List UInt8} (h : StL w B l) : B < w.heap.size := by
  obtain ⟨s, blk, h1, h2, h3, h4, h5⟩ := h
  exact Blk.lt h5
/-- the table of the first words -/
def StAt (w : World) (g : Nat) : Prop := ∀ i, i < 8 → w.cell? ⟨g, i, none⟩ = some (.int .u32 (shaInit.list[i]! : Int))
theorem StAt.frame {w w' : World} {g : Nat} (h : StAt w g) {S : Nat → Prop} (f : Fr S w w') (hn : ¬ S g) : StAt w' g := fun i hi => f.cell (h i hi) hn
theorem StB.len {w : World} {B n : Nat} {s : St8} {blk : List UInt8} (hb : blk.length = 64) (h : StB w B s.list blk n) : w.cell? ⟨B, 72, none⟩ = some (.int .i64 n) ∧ w.frozen? ⟨B, 72, none⟩ = false := by
  refine Blk.at h 72 _ ?_
  rw [List.getElem?_append_right (by simp [us_length, St8.list]), List.getElem?_append_right (by simp [us_length, St8.list, bs_length, hb])]
  simp [us_length, St8.list, bs_length, hb]

theorem new_any (w : World) : Calls Tryd.prog 69 #[] w fun e w' => ∃ B, e = .returned (.pointer (some ⟨B, 0, none⟩)) ∧ StL w' B [] ∧ w.heap.size ≤ B ∧ Fr Non w w' := by
  go_enter Tryd.func69, Tryd.ntmps69
  go_upto_region 1 with (fail)
  refine wp_region_lit ?_
  refine wpList_build_as rfl 128 [] rfl [] (us [0, 0, 0, 0, 0, 0, 0, 0] ++ (bs (List.replicate 64 0) ++ [Value.int .i64 ((0 : Nat) : Int)])).toArray (by kernel_rfl) rfl ?_
  have hb := Blk.new w 128 (us [0, 0, 0, 0, 0, 0, 0, 0] ++ (bs (List.replicate 64 0) ++ [Value.int .i64 ((0 : Nat) : Int)]))
  have hl : (⟨0, 0, 0, 0, 0, 0, 0, 0⟩ : St8).ok ∧ (List.replicate 64 (0 : UInt8)).length = 64 := ⟨by unfold St8.ok; decide, rfl⟩
  have hst : StL (w.alloc (.cells (us [0, 0, 0, 0, 0, 0, 0, 0] ++ (bs (List.replicate 64 0) ++ [Value.int .i64 ((0 : Nat) : Int)])).toArray 128)) w.heap.size [] := ⟨⟨0, 0, 0, 0, 0, 0, 0, 0⟩, _, hl.1, hl.2, rfl, fun h => absurd rfl h, hb⟩
  have hf := Fr.alloc w (.cells (us [0, 0, 0, 0, 0, 0, 0, 0] ++ (bs (List.replicate 64 0) ++ [Value.int .i64 ((0 : Nat) : Int)])).toArray 128)
  generalize (us [0, 0, 0, 0, 0, 0, 0, 0] ++ (bs (List.replicate 64 0) ++ [Value.int .i64 ((0 : Nat) : Int)])).toArray = Z at hst hf ⊢
  have HST := Lib.hid hst
  have HF := Lib.hid hf
  clear hst hf hb hl
  simp only [Act.put]
  go_wp2
  go_ret
  exact ⟨_, rfl, HST.out, Nat.le_refl _, HF.out⟩
theorem nwrite_any (w : World) (v : Value) : Calls Tryd.prog 70 #[.pointer none, v] w fun e w' => e = .returned (.tuple #[]) ∧ w = w' := by
  go_enter Tryd.func70, Tryd.ntmps70
  go_wp2
  exact bodyPost_ret (v := .tuple #[]) (by simp [results, Tryd.results70]) rfl ⟨rfl, rfl⟩
end Go.Proofs.YtpmkcjgndljhgaaDoor
