/- GRefSha: ShaRefA, ShaRefB, ShaRefC, ShaRefD, MacRef, one behind the other. -/
import Derived.Test.YtpmkcjgndljhgaaDoorStep
import Derived.Test.YtpmkcjgndljhgaaDoorGroundA
import Derived.Test.YtpmkcjgndljhgaaDoorShaMath
import Derived.Test.YtpmkcjgndljhgaaDoorMore
import Derived.Deep.MidRow
import Derived.Deep.RegionWith
import Derived.Deep.DeepCutAuto
import Derived.Test.YtpmkcjgndljhgaaDoorMacMath
import Derived.Test.YtpmkcjgndljhgaaDoorVar

/- the document's digest: turn, words -/
namespace Go.Proofs.YtpmkcjgndljhgaaDoor
open Go.ChangeShapes Go.WideShapes Go.ChangeAt Go.RowKit

set_option maxRecDepth 100000 in
theorem orTurn (x : Nat) (k : Int) (hx : x < 4294967296) (hk : 0 < k) (hk2 : k < 32) : bits BinOp.or IntKind.u32 ((x : Int) / 2 ^ k.toNat) ((x : Int) * 2 ^ (32 - k).toNat % 4294967296) = ((rotr k.toNat x : Nat) : Int) := by
  obtain ⟨n, rfl⟩ := Int.eq_ofNat_of_zero_le (show 0 ≤ k by omega)
  rw [show (32 - (n : Int)).toNat = 32 - n by omega, Int.toNat_natCast]
  have e1 : (x : Int) / 2 ^ n = ((x / 2 ^ n : Nat) : Int) := by rw [Int.natCast_ediv, Int.natCast_pow]; rfl
  have e2 : (x : Int) * 2 ^ (32 - n) % 4294967296 = ((x * 2 ^ (32 - n) % 4294967296 : Nat) : Int) := by rw [Int.natCast_emod, Int.natCast_mul, Int.natCast_pow]; rfl
  have h1 : x / 2 ^ n ≤ x := Nat.div_le_self _ _
  rw [e1, e2, u32_or_nat _ _ (by omega) (Nat.mod_lt _ (by omega)), rotr_or (by omega) hx]
theorem turn_any (x : Nat) (k : Int) (w : World) (hx : x < 4294967296) (hk : 0 < k) (hk2 : k < 32) :
    Calls Tryd.prog 87 #[.int .u32 x, .int .i64 k] w fun e w' => e = .returned (.int .u32 (rotr k.toNat x : Nat)) ∧ ∃ n, w' = w.drewN n := by
  go_enter Tryd.func87, Tryd.ntmps87
  go_wp2
  go_quiet (fail)
  go_wp2
  go_ret
  exact ⟨retInt (orTurn x k hx hk hk2), _, rfl⟩

theorem Tryd.info100 : (Tryd.prog.info? 100).map (fun i => (i.zero, i.size, i.bytes)) = some (some (.int .u32 0), 1, 4) := by kernel_rfl

theorem xorS0 (x : Nat) (hx : x < 4294967296) : bits BinOp.xor IntKind.u32 (bits BinOp.xor IntKind.u32 ((rotr 7 x : Nat) : Int) ((rotr 18 x : Nat) : Int)) ((x : Int) / 8) = ((sha_s0 x : Nat) : Int) := by
  rw [show (x : Int) / 8 = ((x / 8 : Nat) : Int) by omega, u32_xor_nat _ _ (rotr_lt (by omega) hx) (rotr_lt (by omega) hx), u32_xor_nat _ _ (xor_lt32 (rotr_lt (by omega) hx) (rotr_lt (by omega) hx)) (by omega)]
  rfl
theorem xorS1 (x : Nat) (hx : x < 4294967296) : bits BinOp.xor IntKind.u32 (bits BinOp.xor IntKind.u32 ((rotr 17 x : Nat) : Int) ((rotr 19 x : Nat) : Int)) ((x : Int) / 1024) = ((sha_s1 x : Nat) : Int) := by
  rw [show (x : Int) / 1024 = ((x / 1024 : Nat) : Int) by omega, u32_xor_nat _ _ (rotr_lt (by omega) hx) (rotr_lt (by omega) hx), u32_xor_nat _ _ (xor_lt32 (rotr_lt (by omega) hx) (rotr_lt (by omega) hx)) (by omega)]
  rfl
theorem xorSS0 (x : Nat) (hx : x < 4294967296) : bits BinOp.xor IntKind.u32 (bits BinOp.xor IntKind.u32 ((rotr 2 x : Nat) : Int) ((rotr 13 x : Nat) : Int)) ((rotr 22 x : Nat) : Int) = ((sha_S0 x : Nat) : Int) := by
  rw [u32_xor_nat _ _ (rotr_lt (by omega) hx) (rotr_lt (by omega) hx), u32_xor_nat _ _ (xor_lt32 (rotr_lt (by omega) hx) (rotr_lt (by omega) hx)) (rotr_lt (by omega) hx)]
  rfl
theorem xorSS1 (x : Nat) (hx : x < 4294967296) : bits BinOp.xor IntKind.u32 (bits BinOp.xor IntKind.u32 ((rotr 6 x : Nat) : Int) ((rotr 11 x : Nat) : Int)) ((rotr 25 x : Nat) : Int) = ((sha_S1 x : Nat) : Int) := by
  rw [u32_xor_nat _ _ (rotr_lt (by omega) hx) (rotr_lt (by omega) hx), u32_xor_nat _ _ (xor_lt32 (rotr_lt (by omega) hx) (rotr_lt (by omega) hx)) (rotr_lt (by omega) hx)]
  rfl
theorem orBe4 (x0 x1 x2 x3 : Nat) (h0 : x0 < 256) (h1 : x1 < 256) (h2 : x2 < 256) (h3 : x3 < 256) :
    bits BinOp.or IntKind.u32 (bits BinOp.or IntKind.u32 (bits BinOp.or IntKind.u32 (IntKind.u32.wrap (IntKind.u32.wrap (x0 : Int) * 16777216)) (IntKind.u32.wrap (IntKind.u32.wrap (x1 : Int) * 65536))) (IntKind.u32.wrap (IntKind.u32.wrap (x2 : Int) * 256))) (IntKind.u32.wrap (x3 : Int)) = ((x0 * 16777216 + x1 * 65536 + x2 * 256 + x3 : Nat) : Int) := by
  rw [IntWalk.u32_in (x0 : Int) (by omega), IntWalk.u32_in (x1 : Int) (by omega), IntWalk.u32_in (x2 : Int) (by omega), IntWalk.u32_in (x3 : Int) (by omega), IntWalk.u32_in _ (by omega), IntWalk.u32_in _ (by omega), IntWalk.u32_in _ (by omega)]
  rw [show (x0 : Int) * 16777216 = ((x0 * 16777216 : Nat) : Int) by omega, show (x1 : Int) * 65536 = ((x1 * 65536 : Nat) : Int) by omega, show (x2 : Int) * 256 = ((x2 * 256 : Nat) : Int) by omega]
  have a1 : x0 * 16777216 ||| x1 * 65536 = x0 * 16777216 + x1 * 65536 := by
    have := Nat.two_pow_add_eq_or_of_lt (i := 24) (b := x1 * 65536) (by omega) x0
    rw [Nat.mul_comm] at this; exact this.symm
  have a2 : x0 * 16777216 + x1 * 65536 ||| x2 * 256 = x0 * 16777216 + x1 * 65536 + x2 * 256 := by
    have := Nat.two_pow_add_eq_or_of_lt (i := 16) (b := x2 * 256) (by omega) (x0 * 256 + x1)
    rw [show 2 ^ 16 * (x0 * 256 + x1) = x0 * 16777216 + x1 * 65536 by omega] at this; exact this.symm
  have a3 : x0 * 16777216 + x1 * 65536 + x2 * 256 ||| x3 = x0 * 16777216 + x1 * 65536 + x2 * 256 + x3 := by
    have := Nat.two_pow_add_eq_or_of_lt (i := 8) (b := x3) (by omega) (x0 * 65536 + x1 * 256 + x2)
    rw [show 2 ^ 8 * (x0 * 65536 + x1 * 256 + x2) = x0 * 16777216 + x1 * 65536 + x2 * 256 by omega] at this; exact this.symm
  rw [u32_or_nat _ _ (by omega) (by omega), a1, u32_or_nat _ _ (by omega) (by omega), a2, u32_or_nat _ _ (by omega) (by omega), a3]

set_option maxRecDepth 100000 in
set_option maxHeartbeats 4000000 in
theorem words_any (v : Value) (l : List UInt8) (w : World) (hv : Row w v (bs l)) (hl : 64 ≤ l.length) :
    Calls Tryd.prog 86 #[v] w fun e w' => ∃ v', e = .returned v' ∧ Own w' w.heap.size 100 v' (us (shaWords l)) ∧ Fr Non w w' := by
  obtain ⟨i0, hi⟩ := info_parts Tryd.info100
  obtain ⟨a, c, rfl, _⟩ := id hv
  obtain ⟨hn, hlc, hm, h1⟩ := hv.bytes
  rw [bs_length] at *
  clear hn
  unfold maxLen at hm
  have HV := Lib.hid hv
  have HI := Lib.hid hi
  clear hv hi h1
  go_enter Tryd.func86, Tryd.ntmps86
  go_wp2
  go_loopw [3, 4] (fun v0 i wr => ∃ k : Nat, k ≤ 16 ∧ i = .int .i64 k ∧ Own wr w.heap.size 100 v0 (us (shaFirst l k)) ∧ Fr Non w wr) (fun _ i _ => 16 - (intOf i).toNat)
  case atStart => exact ⟨0, by omega, rfl, Own.nil _ _ _, Fr.refl _ _⟩
  case round =>
    obtain ⟨k, hk, rfl, hown, hfr⟩ := hrel
    have HO := Lib.hid hown
    have HF := Lib.hid hfr
    clear hown hfr
    by_cases hlt : k < 16
    · have hrow := HV.out.non HF.out
      obtain ⟨-, -, -, h1⟩ := hrow.bytes
      have hbo : ∃ b off, a = some ⟨b, off, none⟩ := by obtain ⟨b, off, e, _⟩ := h1 0 (by omega); exact ⟨b, off, e⟩
      obtain ⟨b, off, rfl⟩ := hbo
      have hc : ∀ j, j < l.length → wr.cell? ⟨b, off + j, none⟩ = some (.int .u8 ((l[j]!).toNat : Int)) := by
        intro j hj
        obtain ⟨b', off', e, h⟩ := h1 j hj
        injection e with e
        injection e with e1 e2
        subst e1 e2
        exact h
      obtain ⟨j, hj⟩ : ∃ j, j = 4 * k := ⟨_, rfl⟩
      have c0 := hc j (by omega)
      have c1 := hc (j + 1) (by omega)
      have c2 := hc (j + 2) (by omega)
      have c3 := hc (j + 3) (by omega)
      have g0 := l[j]!.toNat_lt
      have g1 := l[j + 1]!.toNat_lt
      have g2 := l[j + 2]!.toNat_lt
      have g3 := l[j + 3]!.toNat_lt
      have E : Hid (be4 l (4 * k) = l[j]!.toNat * 16777216 + l[j + 1]!.toNat * 65536 + l[j + 2]!.toNat * 256 + l[j + 3]!.toNat) := Lib.hid (by rw [hj]; rfl)
      generalize l[j]!.toNat = x0 at c0 g0 E
      generalize l[j + 1]!.toNat = x1 at c1 g1 E
      generalize l[j + 2]!.toNat = x2 at c2 g2 E
      generalize l[j + 3]!.toNat = x3 at c3 g3 E
      have hz : (0 : Int) ≤ (j : Int) := by omega
      have hz1 : (0 : Int) ≤ (j : Int) + 1 := by omega
      have hz2 : (0 : Int) ≤ (j : Int) + 2 := by omega
      have hz3 : (0 : Int) ≤ (j : Int) + 3 := by omega
      have hy : (j : Int) < (l.length : Int) := by omega
      have hy1 : (j : Int) + 1 < (l.length : Int) := by omega
      have hy2 : (j : Int) + 2 < (l.length : Int) := by omega
      have hy3 : (j : Int) + 3 < (l.length : Int) := by omega
      have t1 : ((j : Int) + 1).toNat = j + 1 := by omega
      have t2 : ((j : Int) + 2).toNat = j + 2 := by omega
      have t3 : ((j : Int) + 3).toNat = j + 3 := by omega
      have e0 : IntKind.i64.wrap (4 * (k : Int)) = (j : Int) := by rw [IntWalk.i64_in _ (by omega)]; omega
      have e1 : IntKind.i64.wrap ((j : Int) + 1) = (j : Int) + 1 := IntWalk.i64_in _ (by omega)
      have e2 : IntKind.i64.wrap ((j : Int) + 2) = (j : Int) + 2 := IntWalk.i64_in _ (by omega)
      have e3 : IntKind.i64.wrap ((j : Int) + 3) = (j : Int) + 3 := IntWalk.i64_in _ (by omega)
      have HJ := Lib.hid hj
      have hoff : ¬ OwnOf u3 b := fun h => by
        have h2 := HO.out.lt b h
        obtain ⟨b', off', e, h3⟩ := (HV.out.bytes).2.2.2 0 (by omega)
        injection e with e
        injection e with e4 e5
        subst e4 e5
        have := World.block_lt_of_cell? _ _ h3
        have h4 : b < w.heap.size := this
        omega
      clear hc h1 hrow hj
      go_wp2
      go_region_held_law (fun w' => w'.cell? ⟨b, off + j, none⟩ = some (.int .u8 (x0 : Int)) ∧ w'.cell? ⟨b, off + (j + 1), none⟩ = some (.int .u8 (x1 : Int)) ∧ w'.cell? ⟨b, off + (j + 2), none⟩ = some (.int .u8 (x2 : Int)) ∧ w'.cell? ⟨b, off + (j + 3), none⟩ = some (.int .u8 (x3 : Int))) (first | exact ⟨c0, c1, c2, c3⟩ | go_keep | (have f := ((Fr.alloc wr _).non (Fr.drew _)).non hfr'; exact ⟨f.cell c0 hoff, f.cell c1 hoff, f.cell c2 hoff, f.cell c3 hoff⟩))
        ((refine step_push (by rfl) _ _ _ (by rfl) w.heap.size 100 i0 _ 4 Tryd.underlying131 HI.out rfl _ _ (by rfl) ((HO.out.non (Fr.alloc _ _)).non (Fr.drew _)) _ _ (by rfl) (cell_alloc0d _ _ _) (by rfl) ⟨by rw [us_length, shaFirst_length]; omega, by omega⟩ (Nat.le_trans HF.out.size (Fr.drew _ |> fun h => ((Fr.alloc _ _).non h).size)) ?_; intro v' w1 hown' hfr' hmv hkp))
      go_wp2
      go_roundw
      case rel =>
        refine ⟨k + 1, by omega, by go_num, ?_, (HF.out.non ((Fr.alloc _ _).non (Fr.drew _))).new hfr' (fun i h => (HO.out.lt i h).1)⟩
        have e4 := orBe4 x0 x1 x2 x3 g0 g1 g2 g3
        rw [← E.out] at e4
        rw [shaFirst, us_append, show us [be4 l (4 * k)] = [.int .u32 ((be4 l (4 * k) : Nat) : Int)] from rfl, ← e4]
        exact hown'
      case measure => simp [intOf]; omega
    · obtain rfl : k = 16 := by omega
      go_wp2
      rw [show ((16 : Nat) : Int) = 16 from rfl]
      have hown : Own wr w.heap.size 100 u3 (us (shaFill 0 (shaFirst l 16))) := HO.out
      have hfr := HF.out
      clear HO HF
      go_loopw [3, 5] (fun v0 i wr => ∃ k m : Nat, m = 16 + k ∧ k ≤ 48 ∧ i = .int .i64 m ∧ Own wr w.heap.size 100 v0 (us (shaFill k (shaFirst l 16))) ∧ Fr Non w wr) (fun _ i _ => 64 - (intOf i).toNat)
      case atStart => exact ⟨0, 16, rfl, by omega, rfl, hown, hfr⟩
      case round =>
        obtain ⟨k, m, hkm, hk, rfl, hown, hfr⟩ := hrel
        have hL : (shaFill k (shaFirst l 16)).length = m := by rw [shaFill_length, shaFirst_length]; omega
        have hLt := shaFill_lt k (shaFirst l 16) (shaFirst_lt l 16)
        have hsn := shaFill_snoc k (shaFirst l 16)
        rw [shaNext, hL] at hsn
        have HSN := Lib.hid hsn
        have HKM := Lib.hid hkm
        clear hsn
        have HL := Lib.hid hL
        have hm16 : 16 ≤ m := by omega
        have hm64 : m ≤ 64 := by omega
        clear hL hkm
        by_cases hlt : m < 64
        · obtain ⟨g, c', rfl, hg, -⟩ := hown.form (by rw [us_length, HL.out]; omega)
          rw [us_length, HL.out] at hown ⊢
          obtain ⟨p16, h16⟩ : ∃ p, p + 16 = m := ⟨m - 16, by omega⟩
          obtain ⟨p15, h15⟩ : ∃ p, p + 15 = m := ⟨m - 15, by omega⟩
          obtain ⟨p7, h7⟩ : ∃ p, p + 7 = m := ⟨m - 7, by omega⟩
          obtain ⟨p2, h2⟩ : ∃ p, p + 2 = m := ⟨m - 2, by omega⟩
          have HC16 := Lib.hid (us_at (shaFill k (shaFirst l 16)) p16 (by rw [HL.out]; omega))
          have HC7 := Lib.hid (us_at (shaFill k (shaFirst l 16)) p7 (by rw [HL.out]; omega))
          obtain ⟨c16, -⟩ := hown.cellAt p16 _ (us_at _ _ (by rw [HL.out]; omega))
          obtain ⟨c15, -⟩ := hown.cellAt p15 _ (us_at _ _ (by rw [HL.out]; omega))
          obtain ⟨c7, -⟩ := hown.cellAt p7 _ (us_at _ _ (by rw [HL.out]; omega))
          obtain ⟨c2, -⟩ := hown.cellAt p2 _ (us_at _ _ (by rw [HL.out]; omega))
          have b16 := get_lt hLt p16
          have b15 := get_lt hLt p15
          have b7 := get_lt hLt p7
          have b2 := get_lt hLt p2
          have hsn := HSN.out
          rw [show m - 16 = p16 by omega, show m - 15 = p15 by omega, show m - 7 = p7 by omega, show m - 2 = p2 by omega] at hsn
          generalize (shaFill k (shaFirst l 16))[p16]! = x16 at c16 b16 hsn HC16
          generalize (shaFill k (shaFirst l 16))[p15]! = x15 at c15 b15 hsn
          generalize (shaFill k (shaFirst l 16))[p7]! = x7 at c7 b7 hsn HC7
          generalize (shaFill k (shaFirst l 16))[p2]! = x2 at c2 b2 hsn
          have HS2 := Lib.hid hsn
          clear HSN hsn
          have HO := Lib.hid hown
          have HF := Lib.hid hfr
          have HLt := Lib.hid hLt
          clear hown hfr hLt
          have z16 : (0 : Int) ≤ (p16 : Int) := by omega
          have z15 : (0 : Int) ≤ (p15 : Int) := by omega
          have z7 : (0 : Int) ≤ (p7 : Int) := by omega
          have z2 : (0 : Int) ≤ (p2 : Int) := by omega
          have y16 : (p16 : Int) < (m : Int) := by omega
          have y15 : (p15 : Int) < (m : Int) := by omega
          have y7 : (p7 : Int) < (m : Int) := by omega
          have y2 : (p2 : Int) < (m : Int) := by omega
          have e16 : IntKind.i64.wrap ((m : Int) - 16) = (p16 : Int) := by rw [IntWalk.i64_in _ (by omega)]; omega
          have e15 : IntKind.i64.wrap ((m : Int) - 15) = (p15 : Int) := by rw [IntWalk.i64_in _ (by omega)]; omega
          have e7 : IntKind.i64.wrap ((m : Int) - 7) = (p7 : Int) := by rw [IntWalk.i64_in _ (by omega)]; omega
          have e2 : IntKind.i64.wrap ((m : Int) - 2) = (p2 : Int) := by rw [IntWalk.i64_in _ (by omega)]; omega
          clear h16 h15 h7 h2
          go_wp2
          go_quiet ((go_at_call 87; exact Calls.quiet_of (turn_any _ _ _ b15 (by omega) (by omega))))
          rw [xorS0 x15 b15]
          have bs0 := sha_s0_lt b15
          generalize sha_s0 x15 = y15 at bs0 HS2 ⊢
          have f2 := Fr.drewN wr nq
          generalize wr.drewN nq = w2 at f2 ⊢
          replace c2 := f2.cell c2 (fun h => h)
          replace c16 := f2.cell c16 (fun h => h)
          replace c7 := f2.cell c7 (fun h => h)
          clear c15
          go_wp2
          go_quiet ((go_at_call 87; exact Calls.quiet_of (turn_any _ _ _ b2 (by omega) (by omega))))
          rw [xorS1 x2 b2]
          have bs1 := sha_s1_lt b2
          generalize sha_s1 x2 = y2 at bs1 HS2 ⊢
          have f3 := Fr.drewN w2 nq
          generalize w2.drewN nq = w3 at f3 ⊢
          replace c16 := f3.cell c16 (fun h => h)
          replace c7 := f3.cell c7 (fun h => h)
          have HF3 : Hid (Fr Non wr w3) := Lib.hid (f2.non f3)
          clear c2 f2 f3
          go_wp2
          go_region_held_law (fun w' => w'.cell? ⟨g, p16, none⟩ = some (.int .u32 (x16 : Int)) ∧ w'.cell? ⟨g, p7, none⟩ = some (.int .u32 (x7 : Int))) (first | exact ⟨c16, c7⟩ | go_keep | exact ⟨hkp _ rfl _ _ HC16.out, hkp _ rfl _ _ HC7.out⟩)
            ((refine step_push (by rfl) _ _ _ (by rfl) w.heap.size 100 i0 _ 4 Tryd.underlying131 HI.out rfl _ _ (by rfl) (((HO.out.non HF3.out).non (Fr.alloc _ _)).non (Fr.drew _)) _ _ (by rfl) (cell_alloc0d _ _ _) (by rfl) ⟨by rw [us_length, HL.out]; omega, by omega⟩ (Nat.le_trans HF.out.size (Nat.le_trans HF3.out.size (Fr.drew _ |> fun h => ((Fr.alloc _ _).non h).size))) ?_; intro v' w1 hown' hfr' hmv hkp))
          go_wp2
          go_roundw
          case rel =>
            refine ⟨k + 1, m + 1, by have := HKM.out; omega, by have := HKM.out; omega, by go_num, ?_, (HF.out.non (HF3.out.non ((Fr.alloc _ _).non (Fr.drew _)))).new hfr' (fun i h => (HO.out.lt i h).1)⟩
            rw [HS2.out, us_append]
            have e : us [(x16 + y15 + x7 + y2) % 4294967296] = [Value.int .u32 (IntKind.u32.wrap (IntKind.u32.wrap (IntKind.u32.wrap ((x16 : Int) + y15) + x7) + y2))] := by
              simp only [us, List.map_cons, List.map_nil, IntKind.wrap_u32]
              congr 2
              omega
            rw [e]
            exact hown'
          case measure => simp [intOf]; omega
        · have e : shaFill k (shaFirst l 16) = shaWords l := by rw [shaWords, show k = 48 by have := HKM.out; omega]
          rw [e] at hown
          have HO := Lib.hid hown
          have HF := Lib.hid hfr
          clear hown hfr HSN HL hLt e HKM hk
          go_wp2
          go_ret
          exact ⟨_, rfl, HO.out, HF.out⟩
end Go.Proofs.YtpmkcjgndljhgaaDoor

/- the document's digest: a block -/
namespace Go.Proofs.YtpmkcjgndljhgaaDoor
open Go.ChangeShapes Go.WideShapes Go.ChangeAt Go.RowKit

def KAt (w : World) (g : Nat) : Prop := ∀ i, i < 64 → w.cell? ⟨g, i, none⟩ = some (.int .u32 (shaK[i]! : Int))
theorem KAt.frame {w w' : World} {g : Nat} (h : KAt w g) {S : Nat → Prop} (f : Fr S w w') (hn : ¬ S g) : KAt w' g := fun i hi => f.cell (h i hi) hn
def St8.val (s : St8) : Value := .agg #[.int .u32 s.a, .int .u32 s.b, .int .u32 s.c, .int .u32 s.d, .int .u32 s.e, .int .u32 s.f, .int .u32 s.g, .int .u32 s.h]

/-- a block that holds a state -/
def SB (w : World) (B : Nat) (s : St8) : Prop := w.heap[B]? = some (.cells #[.int .u32 s.a, .int .u32 s.b, .int .u32 s.c, .int .u32 s.d, .int .u32 s.e, .int .u32 s.f, .int .u32 s.g, .int .u32 s.h] 116 (0, 0))
theorem SB.frame {w w' : World} {B : Nat} {s : St8} (h : SB w B s) {S : Nat → Prop} (f : Fr S w w') (hn : ¬ S B) : SB w' B s := f.heap h hn
theorem SB.cells {w : World} {B : Nat} {s : St8} (h : SB w B s) :
    (w.cell? ⟨B, 0, none⟩ = some (.int .u32 s.a) ∧ w.cell? ⟨B, 1, none⟩ = some (.int .u32 s.b) ∧ w.cell? ⟨B, 2, none⟩ = some (.int .u32 s.c) ∧ w.cell? ⟨B, 3, none⟩ = some (.int .u32 s.d) ∧
      w.cell? ⟨B, 4, none⟩ = some (.int .u32 s.e) ∧ w.cell? ⟨B, 5, none⟩ = some (.int .u32 s.f) ∧ w.cell? ⟨B, 6, none⟩ = some (.int .u32 s.g) ∧ w.cell? ⟨B, 7, none⟩ = some (.int .u32 s.h)) := by
  have h1 := fun j => (block_cells h j).1
  exact ⟨h1 0, h1 1, h1 2, h1 3, h1 4, h1 5, h1 6, h1 7⟩
theorem SB.frozen {w : World} {B : Nat} {s : St8} (h : SB w B s) (j : Nat) : w.frozen? ⟨B, j, none⟩ = false := (block_cells h j).2

theorem SB.store {w : World} {X : Nat} {s : St8} (h : SB w X s) (y0 y1 y2 y3 y4 y5 y6 y7 : Nat) :
    SB ((((((((w.setCell ⟨X, 0, none⟩ (.int .u32 y0)).setCell ⟨X, 1, none⟩ (.int .u32 y1)).setCell ⟨X, 2, none⟩ (.int .u32 y2)).setCell ⟨X, 3, none⟩ (.int .u32 y3)).setCell ⟨X, 4, none⟩ (.int .u32 y4)).setCell ⟨X, 5, none⟩ (.int .u32 y5)).setCell ⟨X, 6, none⟩ (.int .u32 y6)).setCell ⟨X, 7, none⟩ (.int .u32 y7)) X ⟨y0, y1, y2, y3, y4, y5, y6, y7⟩ ∧
    Fr (One X) w ((((((((w.setCell ⟨X, 0, none⟩ (.int .u32 y0)).setCell ⟨X, 1, none⟩ (.int .u32 y1)).setCell ⟨X, 2, none⟩ (.int .u32 y2)).setCell ⟨X, 3, none⟩ (.int .u32 y3)).setCell ⟨X, 4, none⟩ (.int .u32 y4)).setCell ⟨X, 5, none⟩ (.int .u32 y5)).setCell ⟨X, 6, none⟩ (.int .u32 y6)).setCell ⟨X, 7, none⟩ (.int .u32 y7)) := by
  constructor
  · have h0 := heap_setCell w X 0 _ _ _ (.int .u32 y0) h
    have h1 := heap_setCell _ X 1 _ _ _ (.int .u32 y1) h0
    have h2 := heap_setCell _ X 2 _ _ _ (.int .u32 y2) h1
    have h3 := heap_setCell _ X 3 _ _ _ (.int .u32 y3) h2
    have h4 := heap_setCell _ X 4 _ _ _ (.int .u32 y4) h3
    have h5 := heap_setCell _ X 5 _ _ _ (.int .u32 y5) h4
    have h6 := heap_setCell _ X 6 _ _ _ (.int .u32 y6) h5
    have h7 := heap_setCell _ X 7 _ _ _ (.int .u32 y7) h6
    simp only [List.setIfInBounds_toArray, List.set_cons_zero, List.set_cons_succ] at h7
    exact h7
  · have t : ∀ {a b : World} (_ : Fr (One X) a b) (k : Nat) (u : Value), Fr (One X) a (b.setCell ⟨X, k, none⟩ u) := fun h k u => h.trans (Fr.setCell _ ⟨X, k, none⟩ u) (fun _ h => h) (fun _ h => .inl h)
    exact t (t (t (t (t (t (t (t (Fr.refl _ _) 0 _) 1 _) 2 _) 3 _) 4 _) 5 _) 6 _) 7 _
theorem not32 (x : Nat) (hx : x < 4294967296) : bits BinOp.xor IntKind.u32 IntKind.u32.max (x : Int) = ((4294967295 - x : Nat) : Int) := by
  rw [show IntKind.u32.max = ((4294967295 : Nat) : Int) from by decide, u32_xor_nat 4294967295 x (by omega) hx]
  have h1 : (BitVec.allOnes 32 ^^^ BitVec.ofNat 32 x).toNat = 4294967295 ^^^ x := by
    rw [BitVec.toNat_xor, BitVec.toNat_ofNat, Nat.mod_eq_of_lt hx]; rfl
  have h2 : (BitVec.allOnes 32 ^^^ BitVec.ofNat 32 x).toNat = 4294967295 - x := by
    rw [BitVec.allOnes_xor, BitVec.toNat_not, BitVec.toNat_ofNat, Nat.mod_eq_of_lt hx]
  rw [← h1, h2]
/-- the sum, place by place, as far as k -/
def St8.mix (x s : St8) (k : Nat) : List Nat := (List.range 8).map fun i => if i < k then (x.list[i]! + s.list[i]!) % 4294967296 else x.list[i]!
theorem mix_0 (x s : St8) : x.mix s 0 = x.list := rfl
theorem mix_8 (x s : St8) : x.mix s 8 = (x.plus s).list := rfl
theorem mix_at (x s : St8) (k : Nat) (h : k < 8) : (x.mix s k)[k]! = x.list[k]! := by
  rcases (show k = 0 ∨ k = 1 ∨ k = 2 ∨ k = 3 ∨ k = 4 ∨ k = 5 ∨ k = 6 ∨ k = 7 by omega) with rfl | rfl | rfl | rfl | rfl | rfl | rfl | rfl <;> rfl
theorem mix_set (x s : St8) (k : Nat) (h : k < 8) : (x.mix s k).set k ((x.list[k]! + s.list[k]!) % 4294967296) = x.mix s (k + 1) := by
  rcases (show k = 0 ∨ k = 1 ∨ k = 2 ∨ k = 3 ∨ k = 4 ∨ k = 5 ∨ k = 6 ∨ k = 7 by omega) with rfl | rfl | rfl | rfl | rfl | rfl | rfl | rfl <;> rfl
theorem mix_length (x s : St8) (k : Nat) : (x.mix s k).length = 8 := by simp [St8.mix]
theorem list_lt {x : St8} (h : x.ok) : ∀ k : Nat, x.list[k]! < 4294967296 := by
  obtain ⟨h0, h1, h2, h3, h4, h5, h6, h7⟩ := h
  refine get_lt ?_
  simp only [St8.list, List.mem_cons, List.not_mem_nil, or_false, forall_eq_or_imp, forall_eq]
  exact ⟨h0, h1, h2, h3, h4, h5, h6, h7⟩
/-- a block that holds words -/
def LB (w : World) (B : Nat) (l : List Nat) : Prop := w.heap[B]? = some (.cells (us l).toArray 116 (0, 0))
theorem LB.at {w : World} {B : Nat} {l : List Nat} (h : LB w B l) (k : Nat) (hk : k < l.length) : w.cell? ⟨B, k, none⟩ = some (.int .u32 (l[k]! : Int)) ∧ w.frozen? ⟨B, k, none⟩ = false := by
  refine ⟨?_, (block_cells h k).2⟩
  rw [(block_cells h k).1]
  simpa using us_at l k hk
theorem LB.set {w : World} {B : Nat} {l : List Nat} (h : LB w B l) (k x : Nat) : LB (w.setCell ⟨B, k, none⟩ (.int .u32 (x : Int))) B (l.set k x) := by
  have := heap_setCell w B k _ _ _ (.int .u32 (x : Int)) h
  unfold LB
  rw [this]
  simp [us, List.map_set]
theorem LB.of {w : World} {B : Nat} {s : St8} (h : SB w B s) : LB w B s.list := h
theorem SB.of {w : World} {B : Nat} {s : St8} (h : LB w B s.list) : SB w B s := h
theorem tEq (x0 x1 x2 x3 x4 x5 x6 x7 r q : Nat) (o4 : x4 < 4294967296) (o5 : x5 < 4294967296) (o6 : x6 < 4294967296) :
    (((x7 : Int) + bits BinOp.xor IntKind.u32 (bits BinOp.xor IntKind.u32 ((rotr 6 x4 : Nat) : Int) ((rotr 11 x4 : Nat) : Int)) ((rotr 25 x4 : Nat) : Int) + bits BinOp.xor IntKind.u32 (bits BinOp.and IntKind.u32 (x4 : Int) (x5 : Int)) (bits BinOp.and IntKind.u32 (bits BinOp.xor IntKind.u32 IntKind.u32.max (x4 : Int)) (x6 : Int)) + (r : Int)) % 4294967296 + (q : Int)) % 4294967296
      = ((shaT ⟨x0, x1, x2, x3, x4, x5, x6, x7⟩ r q : Nat) : Int) := by
  have e1 : bits BinOp.xor IntKind.u32 (bits BinOp.and IntKind.u32 (x4 : Int) (x5 : Int)) (bits BinOp.and IntKind.u32 (bits BinOp.xor IntKind.u32 IntKind.u32.max (x4 : Int)) (x6 : Int)) = ((sha_ch x4 x5 x6 : Nat) : Int) := by
    rw [not32 x4 o4, u32_and_nat _ _ o4 o5, u32_and_nat _ _ (by omega) o6, u32_xor_nat _ _ (and_lt32 o4) (and_lt32 (by omega))]
    rfl
  rw [e1, xorSS1 x4 o4]
  unfold shaT
  dsimp only
  generalize sha_S1 x4 = A
  generalize sha_ch x4 x5 x6 = C
  omega
theorem uEq (x0 x1 x2 x3 x4 x5 x6 x7 : Nat) (o0 : x0 < 4294967296) (o1 : x1 < 4294967296) (o2 : x2 < 4294967296) :
    (bits BinOp.xor IntKind.u32 (bits BinOp.xor IntKind.u32 ((rotr 2 x0 : Nat) : Int) ((rotr 13 x0 : Nat) : Int)) ((rotr 22 x0 : Nat) : Int) + bits BinOp.xor IntKind.u32 (bits BinOp.xor IntKind.u32 (bits BinOp.and IntKind.u32 (x0 : Int) (x1 : Int)) (bits BinOp.and IntKind.u32 (x0 : Int) (x2 : Int))) (bits BinOp.and IntKind.u32 (x1 : Int) (x2 : Int))) % 4294967296
      = ((shaU ⟨x0, x1, x2, x3, x4, x5, x6, x7⟩ : Nat) : Int) := by
  have e1 : bits BinOp.xor IntKind.u32 (bits BinOp.xor IntKind.u32 (bits BinOp.and IntKind.u32 (x0 : Int) (x1 : Int)) (bits BinOp.and IntKind.u32 (x0 : Int) (x2 : Int))) (bits BinOp.and IntKind.u32 (x1 : Int) (x2 : Int)) = ((sha_mj x0 x1 x2 : Nat) : Int) := by
    rw [u32_and_nat _ _ o0 o1, u32_and_nat _ _ o0 o2, u32_and_nat _ _ o1 o2, u32_xor_nat _ _ (and_lt32 o0) (and_lt32 o0), u32_xor_nat _ _ (xor_lt32 (and_lt32 o0) (and_lt32 o0)) (and_lt32 o1)]
    rfl
  rw [e1, xorSS0 x0 o0]
  unfold shaU
  dsimp only
  generalize sha_S0 x0 = A
  generalize sha_mj x0 x1 x2 = C
  omega

set_option maxRecDepth 100000 in
set_option maxHeartbeats 4000000 in
theorem block_any (s : St8) (v : Value) (l : List UInt8) (w : World) (hs : s.ok) (hv : Row w v (bs l)) (hl : 64 ≤ l.length) (hK : KAt w 2) :
    Calls Tryd.prog 75 #[.agg #[.int .u32 s.a, .int .u32 s.b, .int .u32 s.c, .int .u32 s.d, .int .u32 s.e, .int .u32 s.f, .int .u32 s.g, .int .u32 s.h], v] w fun e w' => e = .returned (shaBlock s l).val ∧ Fr Non w w' := by
  obtain ⟨a, b, c, d, e, f, g, h⟩ := s
  have HV := Lib.hid hv
  have HKS : Hid (2 < w.heap.size) := Lib.hid (World.block_lt_of_cell? _ _ (hK 0 (by omega)))
  have HK := Lib.hid hK
  have HS := Lib.hid hs
  clear hv hK hs
  go_enter Tryd.func75, Tryd.ntmps75
  go_wp2_with fail
  refine (words_any v l _ ((HV.out.non (Fr.alloc _ _)).non (Fr.alloc _ _)) hl).mono ?_
  rintro e w1 ⟨v1, rfl, ho, hf⟩
  obtain ⟨gw, cw, rfl, hg, -⟩ := ho.form (by rw [us_length, shaWords_length]; omega)
  rw [us_length, shaWords_length] at ho ⊢
  have hA : SB w1 w.heap.size ⟨a, b, c, d, e, f, g, h⟩ := by
    refine hf.heap ?_ (fun h => h)
    exact (Fr.alloc _ _).heap (heap_alloc_new w _) (fun h => h)
  have HB : Hid (SB w1 (w.heap.size + 1) ⟨0, 0, 0, 0, 0, 0, 0, 0⟩) := by
    refine hf.heap ?_ (fun h => h)
    have := heap_alloc_new (w.alloc (.cells #[.int .u32 a, .int .u32 b, .int .u32 c, .int .u32 d, .int .u32 e, .int .u32 f, .int .u32 g, .int .u32 h] 116)) (.cells #[.int .u32 0, .int .u32 0, .int .u32 0, .int .u32 0, .int .u32 0, .int .u32 0, .int .u32 0, .int .u32 0] 116)
    simpa using this
  have hsz : w.heap.size + 2 ≤ w1.heap.size := by have := hf.size; simp at this; omega
  have hf1 : Fr Non w w1 := ((Fr.alloc w _).non (Fr.alloc _ _)).non hf
  obtain ⟨a0, a1, a2, a3, a4, a5, a6, a7⟩ := hA.cells
  have HA := Lib.hid hA
  have HO := Lib.hid ho
  clear hf ho hA
  go_wp2_with fail
  have hX := heap_alloc_new w1 (.cells #[.int .u32 a, .int .u32 b, .int .u32 c, .int .u32 d, .int .u32 e, .int .u32 f, .int .u32 g, .int .u32 h] 116)
  have hf2 := Fr.alloc w1 (.cells #[.int .u32 a, .int .u32 b, .int .u32 c, .int .u32 d, .int .u32 e, .int .u32 f, .int .u32 g, .int .u32 h] 116)
  have hX2 : SB (w1.alloc (.cells #[.int .u32 a, .int .u32 b, .int .u32 c, .int .u32 d, .int .u32 e, .int .u32 f, .int .u32 g, .int .u32 h] 116)) w1.heap.size ⟨a, b, c, d, e, f, g, h⟩ := hX
  generalize w1.alloc (.cells #[.int .u32 a, .int .u32 b, .int .u32 c, .int .u32 d, .int .u32 e, .int .u32 f, .int .u32 g, .int .u32 h] 116) = w2 at hf2 hX2 ⊢
  have hgw : gw < w1.heap.size := (HO.out.lt gw rfl).2
  have hWl := shaWords_length l
  have hWt := shaWords_lt l
  have HE : Hid (shaBlock ⟨a, b, c, d, e, f, g, h⟩ l = (shaRounds ⟨a, b, c, d, e, f, g, h⟩ (shaWords l) 64).plus ⟨a, b, c, d, e, f, g, h⟩) := Lib.hid rfl
  generalize shaWords l = W at HO hWl hWt HE
  obtain ⟨X, hXe⟩ : ∃ X, X = w1.heap.size := ⟨_, rfl⟩
  rw [← hXe] at hX2 hsz hgw ⊢
  have HW := Lib.hid (And.intro hWl hWt)
  have HX := Lib.hid hXe
  have HF1 := Lib.hid hf1
  have HF2 := Lib.hid hf2
  clear hX hWl hWt hXe hf1 hf2 a0 a1 a2 a3 a4 a5 a6 a7
  go_loopw [7] (fun i wr => ∃ k : Nat, k ≤ 64 ∧ i = .int .i64 k ∧ SB wr X (shaRounds ⟨a, b, c, d, e, f, g, h⟩ W k) ∧ Fr (One X) w2 wr) (fun i _ => 64 - (intOf i).toNat)
  case atStart => exact ⟨0, by omega, rfl, hX2, Fr.refl _ _⟩
  case round =>
    obtain ⟨k, hk, rfl, hsb, hfr⟩ := hrel
    have HF := Lib.hid hfr
    clear hfr
    by_cases hlt : k < 64
    · have hkO := HO.out
      have hW := HW.out
      have hwk : wr.cell? ⟨gw, k, none⟩ = some (.int .u32 (W[k]! : Int)) := HF.out.cell (HF2.out.cell ((HO.out.cellAt k _ (us_at _ _ (by rw [hW.1]; omega))).1) (fun h => h)) (fun h => by have h1 : gw = X := h; omega)
      have hKk : wr.cell? ⟨2, k, none⟩ = some (.int .u32 (shaK[k]! : Int)) := HF.out.cell (HF2.out.cell (HF1.out.cell (HK.out k hlt) (fun h => h)) (fun h => h)) (fun h => by have h1 : 2 = X := h; have h2 := HKS.out; omega)
      have hbw := get_lt hW.2 k
      have hbK := shaK_lt k hlt
      have hok : (shaRounds ⟨a, b, c, d, e, f, g, h⟩ W k).ok := shaRounds_ok HS.out W k
      have HR : Hid (shaRounds ⟨a, b, c, d, e, f, g, h⟩ W (k + 1) = shaRound (shaRounds ⟨a, b, c, d, e, f, g, h⟩ W k) shaK[k]! W[k]!) := Lib.hid rfl
      clear hkO hW
      generalize W[k]! = q at hwk hbw HR
      generalize shaK[k]! = r at hKk hbK HR
      generalize shaRounds ⟨a, b, c, d, e, f, g, h⟩ W k = s at hsb hok HR
      obtain ⟨x0, x1, x2, x3, x4, x5, x6, x7⟩ := s
      obtain ⟨c0, c1, c2, c3, c4, c5, c6, c7⟩ := hsb.cells
      obtain ⟨o0, o1, o2, o3, o4, o5, o6, o7⟩ := hok
      simp only at c0 c1 c2 c3 c4 c5 c6 c7 o0 o1 o2 o3 o4 o5 o6 o7
      have hsg : IntKind.u32.signed = false := by decide
      have z0 : (0 : Int) ≤ (k : Int) := by omega
      have z1 : (k : Int) < 64 := by omega
      have HSB := Lib.hid hsb
      clear hsb
      go_wp2
      go_quiet ((go_at_call 87; exact Calls.quiet_of (turn_any _ _ _ o4 (by omega) (by omega))))
      rw [tEq x0 x1 x2 x3 x4 x5 x6 x7 r q o4 o5 o6]
      have hT : shaT ⟨x0, x1, x2, x3, x4, x5, x6, x7⟩ r q < 4294967296 := Nat.mod_lt _ (by omega)
      have hR2 : shaRounds ⟨a, b, c, d, e, f, g, h⟩ W (k + 1) = ⟨(shaT ⟨x0, x1, x2, x3, x4, x5, x6, x7⟩ r q + shaU ⟨x0, x1, x2, x3, x4, x5, x6, x7⟩) % 4294967296, x0, x1, x2, (x3 + shaT ⟨x0, x1, x2, x3, x4, x5, x6, x7⟩ r q) % 4294967296, x4, x5, x6⟩ := HR.out
      generalize shaT ⟨x0, x1, x2, x3, x4, x5, x6, x7⟩ r q = T at hT hR2 ⊢
      have f2 := Fr.drewN wr nq
      generalize wr.drewN nq = w3 at f2 ⊢
      have HSB3 : Hid (SB w3 X ⟨x0, x1, x2, x3, x4, x5, x6, x7⟩) := Lib.hid (HSB.out.frame f2 (fun h => h))
      have HF3 : Hid (Fr (One X) w2 w3) := Lib.hid (HF.out.thenNon f2)
      have HR2 := Lib.hid hR2
      clear c0 c1 c2 c3 c4 c5 c6 c7 hwk hKk HR hR2 HSB HF f2
      obtain ⟨c0, c1, c2, c3, c4, c5, c6, c7⟩ := HSB3.out.cells
      simp only at c0 c1 c2 c3 c4 c5 c6 c7
      go_wp2
      go_quiet ((go_at_call 87; exact Calls.quiet_of (turn_any _ _ _ o0 (by omega) (by omega))))
      rw [uEq x0 x1 x2 x3 x4 x5 x6 x7 o0 o1 o2]
      have hU : shaU ⟨x0, x1, x2, x3, x4, x5, x6, x7⟩ < 4294967296 := Nat.mod_lt _ (by omega)
      have hR2 := HR2.out
      generalize shaU ⟨x0, x1, x2, x3, x4, x5, x6, x7⟩ = U at hU hR2 ⊢
      have f2 := Fr.drewN w3 nq
      generalize w3.drewN nq = w4 at f2 ⊢
      have HSB4 : Hid (SB w4 X ⟨x0, x1, x2, x3, x4, x5, x6, x7⟩) := Lib.hid (HSB3.out.frame f2 (fun h => h))
      have HF4 : Hid (Fr (One X) w2 w4) := Lib.hid (HF3.out.thenNon f2)
      have HR3 := Lib.hid hR2
      clear c0 c1 c2 c3 c4 c5 c6 c7 HR2 hR2 HSB3 HF3 f2
      obtain ⟨c0, c1, c2, c3, c4, c5, c6, c7⟩ := HSB4.out.cells
      simp only at c0 c1 c2 c3 c4 c5 c6 c7
      have fz := fun j => HSB4.out.frozen j
      have fz0 := fz 0
      have fz1 := fz 1
      have fz2 := fz 2
      have fz3 := fz 3
      have fz4 := fz 4
      have fz5 := fz 5
      have fz6 := fz 6
      have fz7 := fz 7
      clear fz
      go_wp2
      go_roundw
      case rel =>
        have e1 : ((T : Int) + (U : Int)) % 4294967296 = (((T + U) % 4294967296 : Nat) : Int) := by omega
        have e2 : ((x3 : Int) + (T : Int)) % 4294967296 = (((x3 + T) % 4294967296 : Nat) : Int) := by omega
        have hst := HSB4.out.store ((T + U) % 4294967296) x0 x1 x2 ((x3 + T) % 4294967296) x4 x5 x6
        refine ⟨k + 1, by omega, by go_num, ?_, ?_⟩
        · rw [HR3.out, e1, e2]; exact hst.1
        · rw [e1, e2]; exact HF4.out.trans hst.2 (fun _ h => h) (fun _ h => .inl h)
      case measure => simp [intOf]; omega
    · have e64 : k = 64 := by omega
      have hok : (shaRounds ⟨a, b, c, d, e, f, g, h⟩ W k).ok := shaRounds_ok HS.out W k
      have he := HE.out
      rw [← e64] at he
      clear e64 HE
      generalize shaRounds ⟨a, b, c, d, e, f, g, h⟩ W k = x at hsb hok he
      have HE2 := Lib.hid he
      have HOK := Lib.hid hok
      have hx0 : LB wr X (x.mix ⟨a, b, c, d, e, f, g, h⟩ 0) := by rw [mix_0]; exact LB.of hsb
      clear hsb he hok
      have HX0 := Lib.hid hx0
      clear hx0
      go_wp2
      go_loopw [10] (fun i wq => ∃ k : Nat, k ≤ 8 ∧ i = .int .i64 k ∧ LB wq X (x.mix ⟨a, b, c, d, e, f, g, h⟩ k) ∧ Fr (One X) w2 wq) (fun i _ => 8 - (intOf i).toNat)
      case atStart => exact ⟨0, by omega, rfl, HX0.out, HF.out⟩
      case round =>
        obtain ⟨k, hk, rfl, hlb, hfr⟩ := hrel
        have HFQ := Lib.hid hfr
        have HLB := Lib.hid hlb
        clear hlb hfr
        by_cases hlt : k < 8
        · obtain ⟨cx, fx⟩ := HLB.out.at k (by rw [mix_length]; exact hlt)
          rw [mix_at _ _ _ hlt] at cx
          have hsA : LB _ w.heap.size (St8.list ⟨a, b, c, d, e, f, g, h⟩) := LB.of ((HA.out.frame HF2.out (fun h => h)).frame HFQ.out (fun h => by have h1 : w.heap.size = X := h; omega))
          obtain ⟨ca, -⟩ := hsA.at k (by simpa [St8.list] using hlt)
          have HM := Lib.hid (mix_set x ⟨a, b, c, d, e, f, g, h⟩ k hlt)
          have bx := list_lt HOK.out k
          have ba := list_lt HS.out k
          generalize (St8.list ⟨a, b, c, d, e, f, g, h⟩)[k]! = ya at ca ba HM
          generalize x.list[k]! = yx at cx bx HM
          have z0 : (0 : Int) ≤ (k : Int) := by omega
          have z1 : (k : Int) < 8 := by omega
          have hne : ¬ w.heap.size = X := by omega
          clear hsA
          go_wp2
          go_region
          all_goals go_wp2
          go_roundw
          case rel =>
            have e : ((yx : Int) + (ya : Int)) % 4294967296 = (((yx + ya) % 4294967296 : Nat) : Int) := by omega
            refine ⟨k + 1, by omega, by go_num, ?_, ?_⟩
            · rw [e]
              show LB (wr.setCell ⟨X, k, none⟩ _) X _
              rw [← HM.out]
              exact HLB.out.set k _
            · exact (HFQ.out.trans (Fr.setCell wr ⟨X, k, none⟩ _) (fun _ h => h) (fun _ h => .inl h)).thenNon (Fr.drew _)
          case measure => simp [intOf]; omega
        · have e8 : k = 8 := by omega
          have hlb := HLB.out
          rw [e8, mix_8] at hlb
          have hsb := SB.of hlb
          have he2 := HE2.out
          clear hlb HLB e8 HE2
          generalize x.plus ⟨a, b, c, d, e, f, g, h⟩ = y at hsb he2
          have HE3 := Lib.hid he2
          clear he2
          have hyb : SB wr (w.heap.size + 1) ⟨0, 0, 0, 0, 0, 0, 0, 0⟩ := (HB.out.frame HF2.out (fun h => h)).frame HFQ.out (fun h => by have h1 : w.heap.size + 1 = X := h; omega)
          obtain ⟨c0, c1, c2, c3, c4, c5, c6, c7⟩ := hsb.cells
          obtain ⟨d0, d1, d2, d3, d4, d5, d6, d7⟩ := hyb.cells
          have f0 := hyb.frozen 0
          have f1 := hyb.frozen 1
          have f2 := hyb.frozen 2
          have f3 := hyb.frozen 3
          have f4 := hyb.frozen 4
          have f5 := hyb.frozen 5
          have f6 := hyb.frozen 6
          have f7 := hyb.frozen 7
          have HYB := Lib.hid hyb
          clear hsb hyb
          obtain ⟨y0, y1, y2, y3, y4, y5, y6, y7⟩ := y
          simp only at c0 c1 c2 c3 c4 c5 c6 c7 d0 d1 d2 d3 d4 d5 d6 d7
          go_wp2
          have hst := HYB.out.store y0 y1 y2 y3 y4 y5 y6 y7
          clear c0 c1 c2 c3 c4 c5 c6 c7 d0 d1 d2 d3 d4 d5 d6 d7 f0 f1 f2 f3 f4 f5 f6 f7
          generalize ((((((((wr.setCell ⟨w.heap.size + 1, 0, none⟩ (.int .u32 y0)).setCell ⟨w.heap.size + 1, 1, none⟩ (.int .u32 y1)).setCell ⟨w.heap.size + 1, 2, none⟩ (.int .u32 y2)).setCell ⟨w.heap.size + 1, 3, none⟩ (.int .u32 y3)).setCell ⟨w.heap.size + 1, 4, none⟩ (.int .u32 y4)).setCell ⟨w.heap.size + 1, 5, none⟩ (.int .u32 y5)).setCell ⟨w.heap.size + 1, 6, none⟩ (.int .u32 y6)).setCell ⟨w.heap.size + 1, 7, none⟩ (.int .u32 y7)) = w9 at hst ⊢
          obtain ⟨hs9, hf9⟩ := hst
          obtain ⟨c0, c1, c2, c3, c4, c5, c6, c7⟩ := hs9.cells
          simp only at c0 c1 c2 c3 c4 c5 c6 c7
          refine bodyPost_ret (v := .agg #[.int .u32 y0, .int .u32 y1, .int .u32 y2, .int .u32 y3, .int .u32 y4, .int .u32 y5, .int .u32 y6, .int .u32 y7]) (by simp [results, Tryd.results75, go_sem, c0, c1, c2, c3, c4, c5, c6, c7]) rfl ⟨by rw [HE3.out]; rfl, ?_⟩
          have hz := HX.out
          exact ((HF1.out.non HF2.out).new HFQ.out (fun i h => by have h1 : i = X := h; omega)).new hf9 (fun i h => by have h1 : i = w.heap.size + 1 := h; omega)
end Go.Proofs.YtpmkcjgndljhgaaDoor

/- the document's digest: what stands behind the bytes; the digest -/
namespace Go.Proofs.YtpmkcjgndljhgaaDoor
open Go.ChangeShapes Go.WideShapes Go.ChangeAt Go.RowKit

/-- the k highest of eight bytes -/
def beTop (n : Nat) : Nat → List UInt8
  | 0 => []
  | k + 1 => beTop n k ++ [UInt8.ofNat (n / 2 ^ (8 * (7 - k)) % 256)]
theorem beTop_length (n k : Nat) : (beTop n k).length = k := by
  induction k with
  | zero => rfl
  | succ k ih => simp [beTop, ih]
theorem beTop_8 (n : Nat) : beTop n 8 = beBytes 8 n := by
  simp only [beTop, beBytes, List.nil_append, Nat.div_div_eq_div_mul, Nat.reduceMul, Nat.reduceSub, Nat.reducePow, Nat.div_one]

set_option maxRecDepth 100000 in
set_option maxHeartbeats 1000000 in
theorem padded_any (v : Value) (l : List UInt8) (w : World) (hv : Row w v (bs l)) (hl : l.length ≤ 140737488355000) :
    Calls Tryd.prog 74 #[v] w fun e w' => ∃ v', e = .returned v' ∧ Own w' w.heap.size 5 v' (bs (l ++ shaPad l.length)) ∧ Fr Non w w' := by
  obtain ⟨i0, hi⟩ := info_parts Tryd.info5
  have HV := Lib.hid hv
  have HI := Lib.hid hi
  have hlenv := run_lenRow (P := Tryd.prog) hv 33 5 Tryd.underlying33
  rw [bs_length] at hlenv
  clear hv hi
  go_enter Tryd.func74, Tryd.ntmps74
  go_wp2_with (at_builtin; refine wpList_appRow _ rfl (.tmp 6) (.tmp 7) 33 rfl w.heap.size 5 i0 (.int .u8 0) 1 Tryd.underlying33 HI.out rfl _ [] rfl (Own.empty _ _ _ (Nat.le_refl _)) _ (bs l) rfl ?c3 (bs_one l) ?c4 ?c5 ?_)
  case c3 => exact HV.out.non (Fr.alloc _ _)
  case c4 => rw [bs_length]; simp; omega
  case c5 => simp
  intro v1 w1 hown hfr hmv
  have HO1 : Hid (Own w1 w.heap.size 5 v1 (bs l)) := hown
  have HF1 : Hid (Fr Non w w1) := Lib.hid ((Fr.alloc _ _).new hfr (fun i hi => by cases hi; exact Nat.le_refl _))
  clear hown hfr hmv
  go_wp2_with (at_builtin; refine wpList_push _ rfl (.tmp 9) (.tmp 10) 33 rfl w.heap.size 5 i0 (.int .u8 0) 1 Tryd.underlying33 HI.out rfl _ _ rfl HO1.out _ _ rfl rfl ?c6 ?c7 ?_)
  case c6 => rw [bs_length]; omega
  case c7 => exact HF1.out.size
  intro v2 w2 hown hfr hmv
  have HO2 : Hid (Own w2 w.heap.size 5 v2 (bs (l ++ 128 :: List.replicate 0 0))) := Lib.hid (by rw [List.replicate_zero, bs_snoc]; exact hown)
  have HF2 : Hid (Fr Non w w2) := Lib.hid (HF1.out.new hfr (fun i h => (HO1.out.lt i h).1))
  clear hown hfr hmv HO1 HF1
  go_wp2
  go_loopw [3] (fun v' wr => ∃ z : Nat, z ≤ shaZeros l.length ∧ Own wr w.heap.size 5 v' (bs (l ++ 128 :: List.replicate z 0)) ∧ Fr Non w wr) (fun v' _ => l.length + 100 - vlen v')
  case atStart => exact ⟨0, Nat.zero_le _, HO2.out, HF2.out⟩
  case round =>
    obtain ⟨z, hz, hown, hfr⟩ := hrel
    have hlen := run_lenRow (P := Tryd.prog) hown.row 33 5 Tryd.underlying33
    have hvl := hown.vlen
    have hm : (bs (l ++ 128 :: List.replicate z 0)).length = l.length + 1 + z := by rw [bs_length]; simp; omega
    rw [hm] at hlen hvl
    have HVL := Lib.hid hvl
    have HM := Lib.hid hm
    have HO := Lib.hid hown
    have HF := Lib.hid hfr
    have hz64 : shaZeros l.length < 64 := by unfold shaZeros; omega
    have HZ : Hid (shaZeros l.length = (119 - l.length % 64) % 64) := Lib.hid rfl
    clear hm hown hfr hvl
    obtain ⟨m, hmm⟩ : ∃ m, m = l.length + 1 + z := ⟨_, rfl⟩
    rw [← hmm] at hlen
    have HMM := Lib.hid hmm
    have hm0 : (0 : Int) ≤ (m : Int) := by omega
    clear hmm
    by_cases hlt : z < shaZeros l.length
    · have hb : (((m : Int) % 64) != 56) = true := by
        have h1 := HMM.out
        have h2 := HZ.out
        simp
        omega
      go_wp2_with (at_builtin; refine wpList_push _ rfl (.tmp 16) (.tmp 17) 33 rfl w.heap.size 5 i0 (.int .u8 0) 1 Tryd.underlying33 HI.out rfl _ _ rfl HO.out _ _ rfl rfl ?c8 ?c9 ?_)
      case c8 => rw [HM.out]; omega
      case c9 => exact HF.out.size
      intro v3 w3 hown hfr hmv
      have HO3 : Hid (Own w3 w.heap.size 5 v3 (bs (l ++ 128 :: List.replicate (z + 1) 0))) := Lib.hid (by
        rw [show l ++ 128 :: List.replicate (z + 1) 0 = (l ++ 128 :: List.replicate z 0) ++ [0] by rw [List.replicate_succ']; simp, bs_snoc]; exact hown)
      have HF3 : Hid (Fr Non w w3) := Lib.hid (HF.out.new hfr (fun i h => (HO.out.lt i h).1))
      clear hown hfr hmv
      go_wp2
      go_roundw
      case rel => exact ⟨z + 1, by omega, HO3.out, HF3.out⟩
      case measure =>
        rw [HO3.out.vlen, HVL.out, bs_length]
        simp
        omega
    · have hb : (((m : Int) % 64) != 56) = false := by
        have h1 := HMM.out
        have h2 := HZ.out
        simp
        omega
      have hze : z = shaZeros l.length := by omega
      subst hze
      clear hlt hz
      go_wp2
      rw [show (l.length : Int) * 8 = ((l.length * 8 : Nat) : Int) from by omega]
      have HP : Hid (l ++ shaPad l.length = l ++ 128 :: List.replicate (shaZeros l.length) 0 ++ beTop (l.length * 8) 8) := Lib.hid (by rw [beTop_8, shaPad]; simp)
      have hN : l.length * 8 ≤ 1125899906840000 := by omega
      have hB : (l ++ 128 :: List.replicate (shaZeros l.length) 0).length ≤ 140737488355000 + 65 := by simp; omega
      have HO5 := HO.out
      generalize l ++ 128 :: List.replicate (shaZeros l.length) 0 = L at HP hB HO5
      generalize l.length * 8 = N at HP hN ⊢
      have HO6 := Lib.hid HO5
      clear HO5 HO HM hb HZ HMM HVL
      go_loopw [3, 5] (fun v' i wr => ∃ (z : Int) (k : Nat), i = .int .i64 z ∧ z = 7 - (k : Int) ∧ k ≤ 8 ∧ Own wr w.heap.size 5 v' (bs (L ++ beTop N k)) ∧ Fr Non w wr) (fun _ i _ => ((intOf i) + 1).toNat)
      case atStart => exact ⟨7, 0, rfl, rfl, by omega, by rw [show beTop N 0 = [] from rfl, List.append_nil]; exact HO6.out, HF.out⟩
      case round =>
        obtain ⟨z, k, rfl, hzk, hk, hown, hfr⟩ := hrel
        have HO := Lib.hid hown
        have HF := Lib.hid hfr
        have hbl : (beTop N k).length = k := beTop_length N k
        have HBL := Lib.hid hbl
        clear hown hfr hbl
        by_cases hlt : k < 8
        · obtain ⟨j, hj⟩ : ∃ j : Nat, z = (j : Int) := ⟨7 - k, by omega⟩
          subst hj
          have hj7 : j ≤ 7 := by omega
          have HZK := Lib.hid hzk
          have hs : (8 * (j : Int)).toNat = 8 * j := by omega
          clear hzk
          go_wp2_with (at_builtin; refine wpList_push _ rfl (.tmp 27) (.tmp 33) 33 rfl w.heap.size 5 i0 (.int .u8 0) 1 Tryd.underlying33 HI.out rfl _ _ rfl HO.out _ _ rfl rfl ?c12 ?c13 ?_)
          case c12 => rw [bs_length, List.length_append, HBL.out]; omega
          case c13 => exact HF.out.size
          intro v3 w3 hown hfr hmv
          have HO3 : Hid (Own w3 w.heap.size 5 v3 (bs (L ++ beTop N (k + 1)))) := Lib.hid (by
            have e : 7 - k = j := by have := HZK.out; omega
            rw [beTop, e, ← List.append_assoc, bs_snoc, ofNat_toNat _ (Nat.mod_lt _ (by omega)), Int.natCast_emod, Int.natCast_ediv, Int.natCast_pow]
            exact hown)
          have HF3 : Hid (Fr Non w w3) := Lib.hid (HF.out.new hfr (fun i h => (HO.out.lt i h).1))
          clear hown hfr hmv
          go_wp2
          go_roundw
          case rel => exact ⟨(j : Int) - 1, k + 1, rfl, by have := HZK.out; omega, by omega, HO3.out, HF3.out⟩
          case measure => simp [intOf]
        · have hk8 : k = 8 := by omega
          have hz : z = -1 := by omega
          subst hz
          have HO3 : Hid (Own wr w.heap.size 5 u3 (bs (l ++ shaPad l.length))) := Lib.hid (by rw [HP.out, ← hk8]; exact HO.out)
          clear hk8 hzk hk hlt
          go_wp2
          go_ret
          exact ⟨_, rfl, HO3.out, HF.out⟩
end Go.Proofs.YtpmkcjgndljhgaaDoor

/- the document's digest -/
namespace Go.Proofs.YtpmkcjgndljhgaaDoor
open Go.ChangeShapes Go.WideShapes Go.ChangeAt Go.RowKit

/-- a block that holds a digest -/
def DB (w : World) (B : Nat) (l : List UInt8) : Prop := w.heap[B]? = some (.cells (bs l).toArray 42 (0, 0))
theorem LB.frame' {w w' : World} {B : Nat} {l : List Nat} (h : LB w B l) {S : Nat → Prop} (f : Fr S w w') (hn : ¬ S B) : LB w' B l := f.heap h hn
def zero32 : List UInt8 := List.replicate 32 0
theorem DB.frame {w w' : World} {B : Nat} {l : List UInt8} (h : DB w B l) {S : Nat → Prop} (f : Fr S w w') (hn : ¬ S B) : DB w' B l := f.heap h hn
theorem DB.new (w : World) : DB (w.alloc (.cells #[.int .u8 0, .int .u8 0, .int .u8 0, .int .u8 0, .int .u8 0, .int .u8 0, .int .u8 0, .int .u8 0, .int .u8 0, .int .u8 0, .int .u8 0, .int .u8 0, .int .u8 0, .int .u8 0, .int .u8 0, .int .u8 0, .int .u8 0, .int .u8 0, .int .u8 0, .int .u8 0, .int .u8 0, .int .u8 0, .int .u8 0, .int .u8 0, .int .u8 0, .int .u8 0, .int .u8 0, .int .u8 0, .int .u8 0, .int .u8 0, .int .u8 0, .int .u8 0] 42)) w.heap.size zero32 := heap_alloc_new w _
theorem DB.at {w : World} {B : Nat} {l : List UInt8} (h : DB w B l) (k : Nat) (hk : k < l.length) : w.cell? ⟨B, k, none⟩ = some (.int .u8 (l[k]!.toNat : Int)) ∧ w.frozen? ⟨B, k, none⟩ = false := by
  refine ⟨?_, (block_cells h k).2⟩
  rw [(block_cells h k).1]
  simp [bs, hk]
theorem DB.set {w : World} {B : Nat} {l : List UInt8} (h : DB w B l) (k : Nat) (c : UInt8) : DB (w.setCell ⟨B, k, none⟩ (.int .u8 (c.toNat : Int))) B (l.set k c) := by
  have := heap_setCell w B k _ _ _ (.int .u8 (c.toNat : Int)) h
  unfold DB
  rw [this]
  simp [← bs_set]
theorem DB.range {w : World} {B : Nat} {l : List UInt8} (h : DB w B l) : w.rangeAt B 0 (bs l) := fun j v hv => by
  rw [(block_cells h (0 + j)).1]
  simpa using hv
theorem DB.there {w : World} {B : Nat} {l : List UInt8} (h : DB w B l) : w.there B 0 l.length := fun j hj => by
  obtain ⟨h1, h2⟩ := h.at j hj
  rw [Nat.zero_add]
  exact ⟨by rw [h1]; rfl, h2⟩

theorem block_lit (s : St8) (v : Value) (l : List UInt8) (w : World) (hs : s.ok) (hv : Row w v (bs l)) (hl : 64 ≤ l.length) (hK : KAt w 2) :
    Calls Tryd.prog 75 #[.agg #[.int .u32 s.a, .int .u32 s.b, .int .u32 s.c, .int .u32 s.d, .int .u32 s.e, .int .u32 s.f, .int .u32 s.g, .int .u32 s.h], v] w fun e w' => e = .returned (.agg #[.int .u32 (shaBlock s l).a, .int .u32 (shaBlock s l).b, .int .u32 (shaBlock s l).c, .int .u32 (shaBlock s l).d, .int .u32 (shaBlock s l).e, .int .u32 (shaBlock s l).f, .int .u32 (shaBlock s l).g, .int .u32 (shaBlock s l).h]) ∧ Fr Non w w' :=
  (block_any s v l w hs hv hl hK).mono fun _ _ h => ⟨h.1.trans rfl, h.2⟩
theorem Fr.setCells (b : Nat) : ∀ (vs : List Value) (w : World) (o : Nat), Fr (One b) w (w.setCells b o vs)
  | [], _, _ => Fr.refl _ _
  | v :: vs, w, o => (Fr.setCell w ⟨b, o, none⟩ v).trans (Fr.setCells b vs (w.setCell ⟨b, o, none⟩ v) (o + 1)) (fun _ h => h) (fun _ h => .inl h)
/-- a word's four bytes -/
def word4 (n : Nat) : List UInt8 := [UInt8.ofNat (n / 16777216 % 256), UInt8.ofNat (n / 65536 % 256), UInt8.ofNat (n / 256 % 256), UInt8.ofNat (n % 256)]
theorem word4_be (n : Nat) : beBytes 4 n = word4 n := by
  simp only [beBytes, word4, List.nil_append, Nat.div_div_eq_div_mul, Nat.reduceMul]
  rfl
/-- the digest as far as j words -/
def digL (s : St8) (j : Nat) : List UInt8 := (s.list.take j).flatMap word4 ++ List.replicate (32 - 4 * j) 0
theorem digL_8 (s : St8) : digL s 8 = s.bytes := by
  unfold St8.bytes
  simp only [word4_be]
  rfl
theorem digL_set (s : St8) (j : Nat) (h : j < 8) :
    ((((digL s j).set (4 * j) (UInt8.ofNat (s.list[j]! / 16777216 % 256))).set (4 * j + 1) (UInt8.ofNat (s.list[j]! / 65536 % 256))).set (4 * j + 2) (UInt8.ofNat (s.list[j]! / 256 % 256))).set (4 * j + 3) (UInt8.ofNat (s.list[j]! % 256)) = digL s (j + 1) := by
  rcases (show j = 0 ∨ j = 1 ∨ j = 2 ∨ j = 3 ∨ j = 4 ∨ j = 5 ∨ j = 6 ∨ j = 7 by omega) with rfl | rfl | rfl | rfl | rfl | rfl | rfl | rfl <;> rfl
theorem digL_length (s : St8) (j : Nat) (h : j ≤ 8) : (digL s j).length = 32 := by
  rcases (show j = 0 ∨ j = 1 ∨ j = 2 ∨ j = 3 ∨ j = 4 ∨ j = 5 ∨ j = 6 ∨ j = 7 ∨ j = 8 by omega) with rfl | rfl | rfl | rfl | rfl | rfl | rfl | rfl | rfl <;> rfl

set_option maxRecDepth 100000 in
set_option maxHeartbeats 1000000 in
theorem refSum_big (v : Value) (l : List UInt8) (w : World) (hv : Row w v (bs l)) (hl : l.length ≤ 140737488355000) (hK : KAt w 2) :
    Calls Tryd.prog 58 #[v] w fun e w' => e = .returned (.agg (bs (sha l)).toArray) ∧ Fr Non w w' := by
  have HV := Lib.hid hv
  have hKs : 2 < w.heap.size := World.block_lt_of_cell? _ _ (hK 0 (by omega))
  have HK := Lib.hid hK
  have HKs := Lib.hid hKs
  clear hv hK hKs
  go_enter Tryd.func58, Tryd.ntmps58
  go_wp2_with fail
  have hd0 := DB.new w
  have hf0 := Fr.alloc w (.cells #[.int .u8 0, .int .u8 0, .int .u8 0, .int .u8 0, .int .u8 0, .int .u8 0, .int .u8 0, .int .u8 0, .int .u8 0, .int .u8 0, .int .u8 0, .int .u8 0, .int .u8 0, .int .u8 0, .int .u8 0, .int .u8 0, .int .u8 0, .int .u8 0, .int .u8 0, .int .u8 0, .int .u8 0, .int .u8 0, .int .u8 0, .int .u8 0, .int .u8 0, .int .u8 0, .int .u8 0, .int .u8 0, .int .u8 0, .int .u8 0, .int .u8 0, .int .u8 0] 42)
  have hs0 : (w.alloc (.cells #[.int .u8 0, .int .u8 0, .int .u8 0, .int .u8 0, .int .u8 0, .int .u8 0, .int .u8 0, .int .u8 0, .int .u8 0, .int .u8 0, .int .u8 0, .int .u8 0, .int .u8 0, .int .u8 0, .int .u8 0, .int .u8 0, .int .u8 0, .int .u8 0, .int .u8 0, .int .u8 0, .int .u8 0, .int .u8 0, .int .u8 0, .int .u8 0, .int .u8 0, .int .u8 0, .int .u8 0, .int .u8 0, .int .u8 0, .int .u8 0, .int .u8 0, .int .u8 0] 42)).heap.size = w.heap.size + 1 := by simp
  generalize w.alloc (.cells #[.int .u8 0, .int .u8 0, .int .u8 0, .int .u8 0, .int .u8 0, .int .u8 0, .int .u8 0, .int .u8 0, .int .u8 0, .int .u8 0, .int .u8 0, .int .u8 0, .int .u8 0, .int .u8 0, .int .u8 0, .int .u8 0, .int .u8 0, .int .u8 0, .int .u8 0, .int .u8 0, .int .u8 0, .int .u8 0, .int .u8 0, .int .u8 0, .int .u8 0, .int .u8 0, .int .u8 0, .int .u8 0, .int .u8 0, .int .u8 0, .int .u8 0, .int .u8 0] 42) = w0 at hd0 hf0 hs0 ⊢
  refine (padded_any v l _ (HV.out.non hf0) hl).mono ?_
  rintro e w1 ⟨v1, rfl, ho, hf⟩
  have HD1 : Hid (DB w1 w.heap.size zero32) := Lib.hid (hd0.frame hf (fun h => h))
  have HF1 : Hid (Fr Non w w1) := Lib.hid (hf0.non hf)
  have hz1 : w.heap.size + 1 ≤ w1.heap.size := by have := hf.size; omega
  have hmod := shaPad_mod l.length
  obtain ⟨n, hn⟩ : ∃ n, n = (l.length + (shaPad l.length).length) / 64 := ⟨_, rfl⟩
  have HE : Hid (sha l = (shaRun n shaInit (l ++ shaPad l.length)).bytes) := Lib.hid (by rw [hn]; rfl)
  have hPl : (l ++ shaPad l.length).length = 64 * n := by rw [List.length_append]; omega
  generalize l ++ shaPad l.length = p at HE hPl ho
  have hlen := run_lenRow (P := Tryd.prog) ho.row 33 5 Tryd.underlying33
  obtain ⟨N, hN⟩ : ∃ N, N = 64 * n := ⟨_, rfl⟩
  rw [← hN] at hPl
  rw [bs_length, hPl] at hlen
  have hPl2 := ho.row.le
  rw [bs_length, hPl] at hPl2
  unfold maxLen at hPl2
  have HO := Lib.hid ho
  have HPL := Lib.hid hPl
  have HN := Lib.hid hN
  clear hd0 hf0 hs0 hf ho hmod hn hPl hN
  go_wp2_with fail
  have hsb0 : SB (w1.alloc (.cells #[.int .u32 1779033703, .int .u32 3144134277, .int .u32 1013904242, .int .u32 2773480762, .int .u32 1359893119, .int .u32 2600822924, .int .u32 528734635, .int .u32 1541459225] 116)) w1.heap.size shaInit := heap_alloc_new w1 _
  have hf2 := Fr.alloc w1 (.cells #[.int .u32 1779033703, .int .u32 3144134277, .int .u32 1013904242, .int .u32 2773480762, .int .u32 1359893119, .int .u32 2600822924, .int .u32 528734635, .int .u32 1541459225] 116)
  generalize w1.alloc (.cells #[.int .u32 1779033703, .int .u32 3144134277, .int .u32 1013904242, .int .u32 2773480762, .int .u32 1359893119, .int .u32 2600822924, .int .u32 528734635, .int .u32 1541459225] 116) = w2 at hsb0 hf2 ⊢
  obtain ⟨X, hX⟩ : ∃ X, X = w1.heap.size := ⟨_, rfl⟩
  rw [← hX] at hsb0 hz1 ⊢
  have HX := Lib.hid hX
  have HF2 := Lib.hid hf2
  clear hX hf2
  go_loopw [5] (fun i wr => ∃ k m : Nat, m = 64 * k ∧ k ≤ n ∧ i = .int .i64 m ∧ SB wr X (shaRun k shaInit p) ∧ Fr (One X) w2 wr) (fun i _ => N - (intOf i).toNat)
  case atStart => exact ⟨0, 0, rfl, Nat.zero_le _, rfl, hsb0, Fr.refl _ _⟩
  case round =>
    obtain ⟨k, m, hm, hk, rfl, hsb, hfr⟩ := hrel
    have HF := Lib.hid hfr
    have HM := Lib.hid hm
    have hok : (shaRun k shaInit p).ok := shaRun_ok k shaInit_ok p
    have HRS := Lib.hid (shaRun_snoc k shaInit p)
    have hmk : m = 64 * k := hm
    clear hfr hm
    by_cases hlt : k < n
    · have hm64 : m + 64 ≤ N := by have := HN.out; omega
      have hmn : (m : Int) < (N : Int) := by omega
      clear hmk
      have hrow : Row wr v1 (bs p) := (HO.out.row.non HF2.out).frame HF.out (Off.own (fun i h => fun h2 => by
        have h1 := (HO.out.lt i h).2
        have h3 : i = X := h2
        have := HX.out
        omega))
      obtain ⟨vs, hsl, hvs, -⟩ := run_sub (P := Tryd.prog) hrow 33 5 Tryd.underlying33 (by kernel_rfl) .i64 .i64 (m : Int) ((m : Int) + 64) m (m + 64) rfl (by omega) (by omega) (by rw [bs_length, HPL.out]; omega)
      have hvs2 : Row wr vs (bs ((p.drop m).take 64)) := by
        rw [show m + 64 - m = 64 by omega] at hvs
        simpa [bs, List.map_take, List.map_drop] using hvs
      have hql : 64 ≤ ((p.drop m).take 64).length := by rw [List.length_take, List.length_drop, HPL.out]; omega
      have hR : shaRun (k + 1) shaInit p = shaBlock (shaRun k shaInit p) ((p.drop m).take 64) := by rw [HM.out]; exact HRS.out
      have hKr : KAt wr 2 := ((HK.out.frame HF1.out (fun h => h)).frame HF2.out (fun h => h)).frame HF.out (fun h => by have h1 : 2 = X := h; have := HKs.out; omega)
      generalize (p.drop m).take 64 = q at hvs2 hql hR
      generalize shaRun k shaInit p = s at hsb hok hR
      obtain ⟨x0, x1, x2, x3, x4, x5, x6, x7⟩ := s
      have HSB := Lib.hid hsb
      have HVS := Lib.hid hvs2
      have HQL := Lib.hid hql
      have HR := Lib.hid hR
      have HOK := Lib.hid hok
      have HKR := Lib.hid hKr
      have hw : IntKind.i64.wrap ((m : Int) + 64) = (m : Int) + 64 := IntWalk.i64_in _ (by omega)
      clear hrow hvs hvs2 hql hR hsb hok hKr
      go_wp2_with fail
      obtain ⟨c0, c1, c2, c3, c4, c5, c6, c7⟩ := HSB.out.cells
      simp only at c0 c1 c2 c3 c4 c5 c6 c7
      go_region_with (first
        | (go_at_call 75; refine (block_lit ⟨x0, x1, x2, x3, x4, x5, x6, x7⟩ vs q _ HOK.out (HVS.out.non (Fr.drew _)) HQL.out (HKR.out.frame (Fr.drew _) (fun h => h))).mono ?_; rintro e w5 ⟨rfl, hf5⟩; have hs5 := HSB.out.frame ((Fr.drew _).non hf5) (fun h => h); obtain ⟨d0, d1, d2, d3, d4, d5, d6, d7⟩ := hs5.cells; have f0 := hs5.frozen 0; have f1 := hs5.frozen 1; have f2 := hs5.frozen 2; have f3 := hs5.frozen 3; have f4 := hs5.frozen 4; have f5 := hs5.frozen 5; have f6 := hs5.frozen 6; have f7 := hs5.frozen 7))
      all_goals
        have hst := hs5.store (shaBlock ⟨x0, x1, x2, x3, x4, x5, x6, x7⟩ q).a (shaBlock ⟨x0, x1, x2, x3, x4, x5, x6, x7⟩ q).b (shaBlock ⟨x0, x1, x2, x3, x4, x5, x6, x7⟩ q).c (shaBlock ⟨x0, x1, x2, x3, x4, x5, x6, x7⟩ q).d (shaBlock ⟨x0, x1, x2, x3, x4, x5, x6, x7⟩ q).e (shaBlock ⟨x0, x1, x2, x3, x4, x5, x6, x7⟩ q).f (shaBlock ⟨x0, x1, x2, x3, x4, x5, x6, x7⟩ q).g (shaBlock ⟨x0, x1, x2, x3, x4, x5, x6, x7⟩ q).h
        have HST := Lib.hid hst
        have H5 := Lib.hid hf5
        clear hst hs5 hf5 c0 c1 c2 c3 c4 c5 c6 c7 d0 d1 d2 d3 d4 d5 d6 d7 f0 f1 f2 f3 f4 f5 f6 f7 hsl
        go_wp2
        go_roundw
        case rel =>
          refine ⟨k + 1, m + 64, by have := HM.out; omega, by omega, by go_num, ?_, (HF.out.thenNon ((Fr.drew _).non H5.out)).trans HST.out.2 (fun _ h => h) (fun _ h => .inl h)⟩
          rw [HR.out]
          exact HST.out.1
        case measure => simp [intOf]; omega
    · have hkn : k = n := by omega
      have hmn : m = N := by have := HN.out; omega
      have he := HE.out
      rw [← hkn] at he
      have hge : ¬ (m : Int) < (N : Int) := by omega
      clear hmk hkn hmn hlt hk HE
      have HSB : Hid (SB wr X (shaRun k shaInit p)) := Lib.hid hsb
      have HE2 := Lib.hid he
      have HOK := Lib.hid hok
      clear hsb he hok
      go_wp2_with fail
      have hd0 := DB.new wr
      have hf0 := Fr.alloc wr (.cells #[.int .u8 0, .int .u8 0, .int .u8 0, .int .u8 0, .int .u8 0, .int .u8 0, .int .u8 0, .int .u8 0, .int .u8 0, .int .u8 0, .int .u8 0, .int .u8 0, .int .u8 0, .int .u8 0, .int .u8 0, .int .u8 0, .int .u8 0, .int .u8 0, .int .u8 0, .int .u8 0, .int .u8 0, .int .u8 0, .int .u8 0, .int .u8 0, .int .u8 0, .int .u8 0, .int .u8 0, .int .u8 0, .int .u8 0, .int .u8 0, .int .u8 0, .int .u8 0] 42)
      have hs0 : (wr.alloc (.cells #[.int .u8 0, .int .u8 0, .int .u8 0, .int .u8 0, .int .u8 0, .int .u8 0, .int .u8 0, .int .u8 0, .int .u8 0, .int .u8 0, .int .u8 0, .int .u8 0, .int .u8 0, .int .u8 0, .int .u8 0, .int .u8 0, .int .u8 0, .int .u8 0, .int .u8 0, .int .u8 0, .int .u8 0, .int .u8 0, .int .u8 0, .int .u8 0, .int .u8 0, .int .u8 0, .int .u8 0, .int .u8 0, .int .u8 0, .int .u8 0, .int .u8 0, .int .u8 0] 42)).heap.size = wr.heap.size + 1 := by simp
      generalize wr.alloc (.cells #[.int .u8 0, .int .u8 0, .int .u8 0, .int .u8 0, .int .u8 0, .int .u8 0, .int .u8 0, .int .u8 0, .int .u8 0, .int .u8 0, .int .u8 0, .int .u8 0, .int .u8 0, .int .u8 0, .int .u8 0, .int .u8 0, .int .u8 0, .int .u8 0, .int .u8 0, .int .u8 0, .int .u8 0, .int .u8 0, .int .u8 0, .int .u8 0, .int .u8 0, .int .u8 0, .int .u8 0, .int .u8 0, .int .u8 0, .int .u8 0, .int .u8 0, .int .u8 0] 42) = w6 at hd0 hf0 hs0 ⊢
      obtain ⟨D, hD⟩ : ∃ D, D = wr.heap.size := ⟨_, rfl⟩
      rw [← hD] at hd0 hs0 ⊢
      have HDs := Lib.hid hD
      have HF0 := Lib.hid hf0
      have hXD : X < D := by
        have h1 := HSB.out
        have h2 := (Array.getElem?_eq_some_iff.1 h1).1
        omega
      have H6 : Hid (LB w6 X (St8.list (shaRun k shaInit p))) := Lib.hid (LB.of (HSB.out.frame hf0 (fun h => h)))
      generalize shaRun k shaInit p = s at H6 HE2 HOK
      have hdd : DB w6 D (digL s 0) := hd0
      have HDD := Lib.hid hdd
      have HS0 := Lib.hid hs0
      clear hd0 hf0 hs0 hD hdd HSB HRS
      go_loopw [7] (fun i wq => ∃ j : Nat, j ≤ 8 ∧ i = .int .i64 j ∧ DB wq D (digL s j) ∧ Fr (One D) w6 wq) (fun i _ => 8 - (intOf i).toNat)
      case atStart => exact ⟨0, by omega, rfl, HDD.out, Fr.refl _ _⟩
      case round =>
        obtain ⟨j, hj, rfl, hdb, hfr⟩ := hrel
        have HFQ := Lib.hid hfr
        have HDB := Lib.hid hdb
        clear hfr hdb
        by_cases hlt : j < 8
        · have hlb : LB wr X s.list := H6.out.frame' HFQ.out (fun h => by have h1 : X = D := h; omega)
          obtain ⟨cx, -⟩ := hlb.at j (by simpa [St8.list] using hlt)
          have bx := list_lt HOK.out j
          have hdl := digL_length s j hj
          obtain ⟨d0, f0⟩ := HDB.out.at (4 * j) (by omega)
          obtain ⟨d1, f1⟩ := HDB.out.at (4 * j + 1) (by omega)
          obtain ⟨d2, f2⟩ := HDB.out.at (4 * j + 2) (by omega)
          obtain ⟨d3, f3⟩ := HDB.out.at (4 * j + 3) (by omega)
          have HDS := Lib.hid (digL_set s j hlt)
          generalize s.list[j]! = x at cx bx HDS
          generalize (digL s j)[4 * j]! = q0 at d0
          generalize (digL s j)[4 * j + 1]! = q1 at d1
          generalize (digL s j)[4 * j + 2]! = q2 at d2
          generalize (digL s j)[4 * j + 3]! = q3 at d3
          have hne : ¬ X = D := by omega
          have hne2 : ¬ D = X := by omega
          have z0 : (0 : Int) ≤ (j : Int) := by omega
          have z1 : (j : Int) < 8 := by omega
          clear hlb hdl
          go_wp2_with fail
          clear d0 d1 d2 d3 f0 f1 f2 f3 cx
          go_roundw
          case rel =>
            have e0 : (x : Int) / 16777216 = ((UInt8.ofNat (x / 16777216 % 256)).toNat : Int) := by rw [ofNat_toNat _ (Nat.mod_lt _ (by omega))]; omega
            have e1 : (x : Int) / 65536 % 256 = ((UInt8.ofNat (x / 65536 % 256)).toNat : Int) := by rw [ofNat_toNat _ (Nat.mod_lt _ (by omega))]; omega
            have e2 : (x : Int) / 256 % 256 = ((UInt8.ofNat (x / 256 % 256)).toNat : Int) := by rw [ofNat_toNat _ (Nat.mod_lt _ (by omega))]; omega
            have e3 : (x : Int) % 256 = ((UInt8.ofNat (x % 256)).toNat : Int) := by rw [ofNat_toNat _ (Nat.mod_lt _ (by omega))]; omega
            rw [e0, e1, e2, e3]
            refine ⟨j + 1, by omega, by go_num, ?_, ?_⟩
            · rw [← HDS.out]
              exact (((HDB.out.set (4 * j) _).set (4 * j + 1) _).set (4 * j + 2) _).set (4 * j + 3) _
            · have t : ∀ {a b : World} (_ : Fr (One D) a b) (k : Nat) (u : Value), Fr (One D) a (b.setCell ⟨D, k, none⟩ u) := fun h k u => h.trans (Fr.setCell _ ⟨D, k, none⟩ u) (fun _ h => h) (fun _ h => .inl h)
              exact t (t (t (t HFQ.out _ _) _ _) _ _) _ _
          case measure => simp [intOf]; omega
        · have e8 : j = 8 := by omega
          have hdb := HDB.out
          rw [e8, digL_8, ← HE2.out] at hdb
          have hz : DB wr w.heap.size zero32 := ((HD1.out.frame HF2.out (fun h => h)).frame HF.out (fun h => by have h1 : w.heap.size = X := h; omega)).frame (HF0.out.non HFQ.out) (fun h => by have h1 : w.heap.size = D := h; omega)
          have HDB8 := Lib.hid hdb
          have HZ := Lib.hid hz
          have hge8 : ¬ (j : Int) < 8 := by omega
          have hge9 : decide ((j : Int) < 8) = false := by simpa using hge8
          clear hdb hz e8 HDD HDB
          have hinfo : (Tryd.prog.info? 42).map (·.size) = some (bs (sha l)).length := by
            rw [bs_length, sha_length]; kernel_rfl
          have hth : wr.there w.heap.size 0 (bs (sha l)).length := by
            have := HZ.out.there
            rw [bs_length, sha_length]; exact this
          have hrv := run_loadVar_mid (P := Tryd.prog) (wr.setCells w.heap.size 0 (bs (sha l)).toArray.toList) w.heap.size 0 42 (bs (sha l)) _ (by have := World.rangeAt_setCells_same wr w.heap.size 0 (bs (sha l)) hth; simpa using this) Tryd.underlying42 rfl hinfo
          have hfs : Fr (One w.heap.size) wr (wr.setCells w.heap.size 0 (bs (sha l)).toArray.toList) := Fr.setCells _ _ _ _
          have HRV := Lib.hid hrv
          have HFS := Lib.hid hfs
          have HTH := Lib.hid hth
          have HI := Lib.hid hinfo
          clear hrv hfs hth hinfo
          go_upto_region 15 with (fail)
          refine wp_region_lit ?_
          refine wpList_load_mid rfl _ _ rfl D 0 rfl (bs (sha l)) _ HDB8.out.range Tryd.underlying42 rfl HI.out ?_
          refine wpList_store_mid rfl _ _ _ rfl w.heap.size 0 (bs (sha l)).toArray rfl rfl (by simpa using HTH.out) (by simpa using HI.out) (by rw [Array.all_eq_true_iff_forall_mem]; intro v hv; exact bs_one _ v (by simpa using hv)) ?_
          generalize wr.setCells w.heap.size 0 (bs (sha l)).toArray.toList = w9 at HRV HFS ⊢
          go_wp2
          refine bodyPost_ret (v := .agg (bs (sha l)).toArray) (by have h := HRV.out; simp [results, Tryd.results58, asAddr, h]) rfl ⟨rfl, ?_⟩
          have hDz := HDs.out
          have h0 := HX.out
          have h2 := HF2.out.size
          have h3 := HF.out.size
          exact ((((HF1.out.non HF2.out).new HF.out (fun i h => by have h1 : i = X := h; omega)).non HF0.out).new HFQ.out (fun i h => by have h1 : i = D := h; omega)).new HFS.out (fun i h => by have h1 : i = w.heap.size := h; omega)
theorem refSum_any (v : Value) (l : List UInt8) (w : World) (hv : Row w v (bs l)) (hl : l.length ≤ 140737488351232) (hK : KAt w 2) :
    Calls Tryd.prog 58 #[v] w fun e w' => e = .returned (.agg (bs (sha l)).toArray) ∧ Fr Non w w' := refSum_big v l w hv (by omega) hK
end Go.Proofs.YtpmkcjgndljhgaaDoor

/- the document's keyed digests -/
namespace Go.Proofs.YtpmkcjgndljhgaaDoor
open Go.ChangeShapes Go.WideShapes Go.ChangeAt Go.RowKit

def zero64 : List UInt8 := List.replicate 64 0

set_option maxRecDepth 100000 in
set_option maxHeartbeats 1000000 in
theorem crossed_any (v : Value) (key : List UInt8) (by_ : UInt8) (w : World) (hv : Row w v (bs key)) (hl : key.length ≤ 140737488351232) (hK : KAt w 2) :
    Calls Tryd.prog 57 #[v, .int .u8 by_.toNat] w fun e w' => ∃ v', e = .returned v' ∧ Own w' w.heap.size 5 v' (bs (macCross key by_)) ∧ Fr Non w w' := by
  obtain ⟨a, c, rfl, _⟩ := id hv
  rw [bs_length] at hv ⊢
  obtain ⟨i0, hi⟩ := info_parts Tryd.info5
  have HI := Lib.hid hi
  have HV := Lib.hid hv
  have HK := Lib.hid hK
  have hlenv := run_lenRow (P := Tryd.prog) hv 33 5 Tryd.underlying33
  rw [bs_length] at hlenv
  have hzv : ∀ w, (zeroValue 42).run Tryd.prog w = .ok (.agg (bs zero32).toArray) w := fun _ => by kernel_rfl
  have HZV := Lib.hid hzv
  have hif : (Tryd.prog.info? 42).map (·.size) = some (bs (sha key)).length := by rw [bs_length, sha_length]; kernel_rfl
  have HIF := Lib.hid hif
  clear hi hv hK hzv hif
  by_cases h64 : 64 < key.length
  case pos =>
    have ht : (64 : Int) < (key.length : Int) := by omega
    go_enter Tryd.func57, Tryd.ntmps57
    go_wp2_with fail
    refine (refSum_any _ key _ HV.out hl HK.out).mono ?_
    rintro e w1 ⟨rfl, hf1⟩
    go_wp2_with (refine wpList_var rfl rfl 42 6 (.tmp 15) rfl rfl rfl rfl _ (bs (sha key)) HZV.out (by rw [bs_length, bs_length, sha_length]; rfl) HIF.out (bs_one _) (by simp) (fun _ => rfl) ?_; intro w2 hb2 hf2 hs2; simp only [List.set_cons_succ, List.set_cons_zero])
    have hsz2 := hs2
    have HK2 : Hid (Row w2 (.slice (some ⟨w1.heap.size, 0, none⟩) 32 32) (bs (sha key))) := Lib.hid (by
      have h := hb2.row 0 32 (bs (sha key)) (by rw [bs_length, sha_length]; omega) (by unfold maxLen; omega) (fun j v hj => by rw [Nat.zero_add]; exact hj)
      rw [bs_length, sha_length] at h
      exact h)
    have HF2 : Hid (Fr Non w w2) := Lib.hid (hf1.non hf2)
    have HMK : Hid ((sha key).length = 32 ∧ macKey key = sha key ++ List.replicate (64 - 32) 0) := Lib.hid ⟨sha_length _, by unfold macKey; rw [if_pos h64, sha_length]⟩
    have hkl : (32 : Nat) ≤ 64 := by omega
    clear hb2 hf1 hf2 hs2 hsz2 ht h64
    generalize sha key = K at HK2 HMK
    go_loopw [7, 8] (fun v7 i wr => ∃ k : Nat, k ≤ 64 ∧ i = .int .i64 k ∧ Own wr w.heap.size 5 v7 (bs (((macKey key).take k).map (· ^^^ by_))) ∧ Row wr (.slice (some ⟨w1.heap.size, 0, none⟩) 32 32) (bs K) ∧ (K ≠ [] → Off (OwnOf v7) (.slice (some ⟨w1.heap.size, 0, none⟩) 32 32)) ∧ Fr Non w wr) (fun _ i _ => 64 - (intOf i).toNat)
    case atStart => exact ⟨0, by omega, rfl, by rw [List.take_zero]; exact Own.nil _ _ _, HK2.out, fun _ => (by intro b off n c _ h; exact absurd h (by simp [OwnOf, Value.ownBlock])), HF2.out⟩
    case round =>
      obtain ⟨k, hk, rfl, hown, hrow, hoff, hfr⟩ := hrel
      have hkey : (macKey key).length = 64 := macKey_length key
      have hsn : k < 64 → ((macKey key).take (k + 1)).map (· ^^^ by_) = ((macKey key).take k).map (· ^^^ by_) ++ [(macKey key)[k]! ^^^ by_] := fun h => by
        rw [List.take_succ_eq_append_getElem (by omega), List.map_append, getElem!_pos (macKey key) k (by omega)]; rfl
      have hol : (bs (((macKey key).take k).map (· ^^^ by_))).length = k := by rw [bs_length, List.length_map, List.length_take, hkey]; omega
      have HO := Lib.hid hown
      have HR := Lib.hid hrow
      have HOF := Lib.hid hoff
      have HFR := Lib.hid hfr
      have HSN := Lib.hid hsn
      have HOL := Lib.hid hol
      have hlk := run_lenRow (P := Tryd.prog) hrow 33 5 Tryd.underlying33
      rw [bs_length, HMK.out.1] at hlk
      clear hown hrow hoff hfr hkey hsn hol hlenv
      by_cases hlt : k < 64
      · by_cases hik : k < 32
        · have hkK : k < K.length := by rw [HMK.out.1]; exact hik
          have hx : (macKey key)[k]! = K[k]! := by
            rw [HMK.out.2, getElem!_pos _ k (by simp; omega), getElem!_pos K k hkK, List.getElem_append_left hkK]
          obtain ⟨b, off, hab, hc⟩ := (HR.out.bytes).2.2.2 k hkK
          injection hab with hab
          injection hab with e1 e2
          subst e1 e2
          rw [Nat.zero_add] at hc
          have hg : K[k]!.toNat < 256 := K[k]!.toNat_lt
          have HSN2 : Hid (((macKey key).take (k + 1)).map (· ^^^ by_) = ((macKey key).take k).map (· ^^^ by_) ++ [K[k]! ^^^ by_]) := Lib.hid (by rw [HSN.out hlt, hx])
          have z0 : (0 : Int) ≤ (k : Int) := by omega
          have z1 : (k : Int) < (32 : Int) := by omega
          have hxx := u8xor K[k]! by_
          clear hx
          generalize K[k]! = x at hc HSN2 hg hxx
          go_wp2_with (at_builtin; refine wpList_push _ rfl (.tmp 29) (.tmp 33) 33 rfl w.heap.size 5 i0 (.int .u8 0) 1 Tryd.underlying33 HI.out rfl _ _ rfl HO.out _ _ rfl rfl ⟨by rw [HOL.out]; omega, by omega⟩ HFR.out.size ?_; intro v3 w3 hown hfr3 hmv)
          have HO3 : Hid (Own w3 w.heap.size 5 v3 (bs (((macKey key).take (k + 1)).map (· ^^^ by_)))) := Lib.hid (by rw [HSN2.out, bs_snoc]; exact hown)
          have hrow3 := HR.out.frameNe hfr3 HOF.out
          have hoff3 := fun h => Row.offMoved HR.out h (HOF.out h) hmv
          have HX3 := Lib.hid (And.intro hrow3 (And.intro hoff3 (HFR.out.new hfr3 (fun i h => (HO.out.lt i h).1))))
          clear hown hfr3 hmv hrow3 hoff3 hc
          go_roundw
          case rel => exact ⟨k + 1, by omega, by go_num, HO3.out, HX3.out.1, HX3.out.2.1, HX3.out.2.2⟩
          case measure => simp [intOf]; omega
        · have hKl := HMK.out.1
          have hx : (macKey key)[k]! = 0 := by
            rw [HMK.out.2, getElem!_pos _ k (by simp; omega), List.getElem_append_right (by rw [HMK.out.1]; omega), List.getElem_replicate]
          have HSN2 : Hid (((macKey key).take (k + 1)).map (· ^^^ by_) = ((macKey key).take k).map (· ^^^ by_) ++ [by_]) := Lib.hid (by rw [HSN.out hlt, hx, UInt8.zero_xor])
          have z1 : decide ((k : Int) < (32 : Int)) = false := by simp; omega
          have hxx : bits BinOp.xor IntKind.u8 0 (by_.toNat : Int) = (by_.toNat : Int) := by have h := u8xor 0 by_; rw [UInt8.zero_xor] at h; exact h
          clear hx hKl
          go_wp2_with (at_builtin; refine wpList_push _ rfl (.tmp 29) (.tmp 33) 33 rfl w.heap.size 5 i0 (.int .u8 0) 1 Tryd.underlying33 HI.out rfl _ _ rfl HO.out _ _ rfl rfl ⟨by rw [HOL.out]; omega, by omega⟩ HFR.out.size ?_; intro v3 w3 hown hfr3 hmv)
          have HO3 : Hid (Own w3 w.heap.size 5 v3 (bs (((macKey key).take (k + 1)).map (· ^^^ by_)))) := Lib.hid (by rw [HSN2.out, bs_snoc]; exact hown)
          have hrow3 := HR.out.frameNe hfr3 HOF.out
          have hoff3 := fun h => Row.offMoved HR.out h (HOF.out h) hmv
          have HX3 := Lib.hid (And.intro hrow3 (And.intro hoff3 (HFR.out.new hfr3 (fun i h => (HO.out.lt i h).1))))
          clear hown hfr3 hmv hrow3 hoff3
          go_roundw
          case rel => exact ⟨k + 1, by omega, by go_num, HO3.out, HX3.out.1, HX3.out.2.1, HX3.out.2.2⟩
          case measure => simp [intOf]; omega
      · have h64k : k = 64 := by omega
        have hown : Own wr w.heap.size 5 u7 (bs (macCross key by_)) := by
          have h := HO.out
          rw [h64k, List.take_of_length_le (by rw [macKey_length]; exact Nat.le_refl _)] at h
          exact h
        have HO4 := Lib.hid hown
        have hge : decide ((k : Int) < 64) = false := by simp; omega
        clear hown h64k
        go_wp2
        go_ret
        exact ⟨_, rfl, HO4.out, HFR.out⟩
  case neg =>
    have ht : ¬ (64 : Int) < (key.length : Int) := by omega
    go_enter Tryd.func57, Tryd.ntmps57
    go_wp2_with fail
    have HK2 : Hid (Row w (.slice a key.length c) (bs key)) := HV
    have HF2 : Hid (Fr Non w w) := Lib.hid (Fr.refl _ _)
    have HMK : Hid (key.length = key.length ∧ macKey key = key ++ List.replicate (64 - key.length) 0) := Lib.hid ⟨rfl, by unfold macKey; rw [if_neg h64]⟩
    have hkl : key.length ≤ 64 := by omega
    clear ht h64
    go_loopw [7, 8] (fun v7 i wr => ∃ k : Nat, k ≤ 64 ∧ i = .int .i64 k ∧ Own wr w.heap.size 5 v7 (bs (((macKey key).take k).map (· ^^^ by_))) ∧ Row wr (.slice a key.length c) (bs key) ∧ (key ≠ [] → Off (OwnOf v7) (.slice a key.length c)) ∧ Fr Non w wr) (fun _ i _ => 64 - (intOf i).toNat)
    case atStart => exact ⟨0, by omega, rfl, by rw [List.take_zero]; exact Own.nil _ _ _, HK2.out, fun _ => (by intro b off n c _ h; exact absurd h (by simp [OwnOf, Value.ownBlock])), HF2.out⟩
    case round =>
      obtain ⟨k, hk, rfl, hown, hrow, hoff, hfr⟩ := hrel
      have hkey : (macKey key).length = 64 := macKey_length key
      have hsn : k < 64 → ((macKey key).take (k + 1)).map (· ^^^ by_) = ((macKey key).take k).map (· ^^^ by_) ++ [(macKey key)[k]! ^^^ by_] := fun h => by
        rw [List.take_succ_eq_append_getElem (by omega), List.map_append, getElem!_pos (macKey key) k (by omega)]; rfl
      have hol : (bs (((macKey key).take k).map (· ^^^ by_))).length = k := by rw [bs_length, List.length_map, List.length_take, hkey]; omega
      have HO := Lib.hid hown
      have HR := Lib.hid hrow
      have HOF := Lib.hid hoff
      have HFR := Lib.hid hfr
      have HSN := Lib.hid hsn
      have HOL := Lib.hid hol
      have hlk := run_lenRow (P := Tryd.prog) hrow 33 5 Tryd.underlying33
      rw [bs_length] at hlk
      clear hown hrow hoff hfr hkey hsn hol hlenv
      by_cases hlt : k < 64
      · by_cases hik : k < key.length
        · have hkK : k < key.length := hik
          have hx : (macKey key)[k]! = key[k]! := by
            rw [HMK.out.2, getElem!_pos _ k (by simp; omega), getElem!_pos key k hkK, List.getElem_append_left hkK]
          obtain ⟨b, off, hab, hc⟩ := (HR.out.bytes).2.2.2 k hkK
          subst hab
          have hg : key[k]!.toNat < 256 := key[k]!.toNat_lt
          have HSN2 : Hid (((macKey key).take (k + 1)).map (· ^^^ by_) = ((macKey key).take k).map (· ^^^ by_) ++ [key[k]! ^^^ by_]) := Lib.hid (by rw [HSN.out hlt, hx])
          have z0 : (0 : Int) ≤ (k : Int) := by omega
          have z1 : (k : Int) < (key.length : Int) := by omega
          have hxx := u8xor key[k]! by_
          clear hx
          generalize key[k]! = x at hc HSN2 hg hxx
          go_wp2_with (at_builtin; refine wpList_push _ rfl (.tmp 29) (.tmp 33) 33 rfl w.heap.size 5 i0 (.int .u8 0) 1 Tryd.underlying33 HI.out rfl _ _ rfl HO.out _ _ rfl rfl ⟨by rw [HOL.out]; omega, by omega⟩ HFR.out.size ?_; intro v3 w3 hown hfr3 hmv)
          have HO3 : Hid (Own w3 w.heap.size 5 v3 (bs (((macKey key).take (k + 1)).map (· ^^^ by_)))) := Lib.hid (by rw [HSN2.out, bs_snoc]; exact hown)
          have hrow3 := HR.out.frameNe hfr3 HOF.out
          have hoff3 := fun h => Row.offMoved HR.out h (HOF.out h) hmv
          have HX3 := Lib.hid (And.intro hrow3 (And.intro hoff3 (HFR.out.new hfr3 (fun i h => (HO.out.lt i h).1))))
          clear hown hfr3 hmv hrow3 hoff3 hc
          go_roundw
          case rel => exact ⟨k + 1, by omega, by go_num, HO3.out, HX3.out.1, HX3.out.2.1, HX3.out.2.2⟩
          case measure => simp [intOf]; omega
        · have hKl := HMK.out.1
          have hx : (macKey key)[k]! = 0 := by
            rw [HMK.out.2, getElem!_pos _ k (by simp; omega), List.getElem_append_right (by omega), List.getElem_replicate]
          have HSN2 : Hid (((macKey key).take (k + 1)).map (· ^^^ by_) = ((macKey key).take k).map (· ^^^ by_) ++ [by_]) := Lib.hid (by rw [HSN.out hlt, hx, UInt8.zero_xor])
          have z1 : decide ((k : Int) < (key.length : Int)) = false := by simp; omega
          have hxx : bits BinOp.xor IntKind.u8 0 (by_.toNat : Int) = (by_.toNat : Int) := by have h := u8xor 0 by_; rw [UInt8.zero_xor] at h; exact h
          clear hx hKl
          go_wp2_with (at_builtin; refine wpList_push _ rfl (.tmp 29) (.tmp 33) 33 rfl w.heap.size 5 i0 (.int .u8 0) 1 Tryd.underlying33 HI.out rfl _ _ rfl HO.out _ _ rfl rfl ⟨by rw [HOL.out]; omega, by omega⟩ HFR.out.size ?_; intro v3 w3 hown hfr3 hmv)
          have HO3 : Hid (Own w3 w.heap.size 5 v3 (bs (((macKey key).take (k + 1)).map (· ^^^ by_)))) := Lib.hid (by rw [HSN2.out, bs_snoc]; exact hown)
          have hrow3 := HR.out.frameNe hfr3 HOF.out
          have hoff3 := fun h => Row.offMoved HR.out h (HOF.out h) hmv
          have HX3 := Lib.hid (And.intro hrow3 (And.intro hoff3 (HFR.out.new hfr3 (fun i h => (HO.out.lt i h).1))))
          clear hown hfr3 hmv hrow3 hoff3
          go_roundw
          case rel => exact ⟨k + 1, by omega, by go_num, HO3.out, HX3.out.1, HX3.out.2.1, HX3.out.2.2⟩
          case measure => simp [intOf]; omega
      · have h64k : k = 64 := by omega
        have hown : Own wr w.heap.size 5 u7 (bs (macCross key by_)) := by
          have h := HO.out
          rw [h64k, List.take_of_length_le (by rw [macKey_length]; exact Nat.le_refl _)] at h
          exact h
        have HO4 := Lib.hid hown
        have hge : decide ((k : Int) < 64) = false := by simp; omega
        clear hown h64k
        go_wp2
        go_ret
        exact ⟨_, rfl, HO4.out, HFR.out⟩
end Go.Proofs.YtpmkcjgndljhgaaDoor
