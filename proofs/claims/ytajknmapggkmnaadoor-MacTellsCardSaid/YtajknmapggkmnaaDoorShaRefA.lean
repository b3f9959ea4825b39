/- the document's digest: turn, words -/
import Derived.Test.YtajknmapggkmnaaDoorStep
import Derived.Test.YtajknmapggkmnaaDoorShaMath
namespace Go.Proofs.YtajknmapggkmnaaDoor
open Go.ChangeShapes Go.WideShapes Go.ChangeAt Go.RowKit

theorem retInt {k : IntKind} {a b : Int} (h : a = b) : Ending.returned (.int k a) = .returned (.int k b) := by rw [h]
theorem Fr.drewN (w : World) (n : Nat) : Fr Non w (w.drewN n) := ⟨rfl, rfl, rfl, Nat.le_refl _, fun _ _ _ => rfl⟩
set_option maxRecDepth 100000 in
theorem orTurn (x : Nat) (k : Int) (hx : x < 4294967296) (hk : 0 < k) (hk2 : k < 32) : bits BinOp.or IntKind.u32 ((x : Int) / 2 ^ k.toNat) ((x : Int) * 2 ^ (32 - k).toNat % 4294967296) = ((rotr k.toNat x : Nat) : Int) := by
  obtain ⟨n, rfl⟩ := Int.eq_ofNat_of_zero_le (show 0 ≤ k by omega)
  rw [show (32 - (n : Int)).toNat = 32 - n by omega, Int.toNat_natCast]
  have e1 : (x : Int) / 2 ^ n = ((x / 2 ^ n : Nat) : Int) := by rw [Int.natCast_ediv, Int.natCast_pow]; rfl
  have e2 : (x : Int) * 2 ^ (32 - n) % 4294967296 = ((x * 2 ^ (32 - n) % 4294967296 : Nat) : Int) := by rw [Int.natCast_emod, Int.natCast_mul, Int.natCast_pow]; rfl
  have h1 : x / 2 ^ n ≤ x := Nat.div_le_self _ _
  rw [e1, e2, u32_or_nat _ _ (by omega) (Nat.mod_lt _ (by omega)), rotr_or (by omega) hx]
theorem turn_any (x : Nat) (k : Int) (w : World) (hx : x < 4294967296) (hk : 0 < k) (hk2 : k < 32) :
    Calls Tryd.prog 34 #[.int .u32 x, .int .i64 k] w fun e w' => e = .returned (.int .u32 (rotr k.toNat x : Nat)) ∧ ∃ n, w' = w.drewN n := by
  go_enter Tryd.func34, Tryd.ntmps34
  go_wp2
  go_quiet (fail)
  go_wp2
  go_ret
  exact ⟨retInt (orTurn x k hx hk hk2), _, rfl⟩

theorem Tryd.info54 : (Tryd.prog.info? 54).map (fun i => (i.zero, i.size, i.bytes)) = some (some (.int .u32 0), 1, 4) := by kernel_rfl
/-- words as cells -/
def us (l : List Nat) : List Value := l.map fun x : Nat => .int .u32 (x : Int)
theorem us_length (l : List Nat) : (us l).length = l.length := by simp [us]
theorem us_append (l m : List Nat) : us (l ++ m) = us l ++ us m := by simp [us]
theorem us_at (l : List Nat) (i : Nat) (h : i < l.length) : (us l)[i]? = some (.int .u32 (l[i]! : Int)) := by simp [us, h]

theorem xorS0 (x : Nat) (hx : x < 4294967296) : bits BinOp.xor IntKind.u32 (bits BinOp.xor IntKind.u32 ((rotr 7 x : Nat) : Int) ((rotr 18 x : Nat) : Int)) ((x : Int) / 8) = ((sha_s0 x : Nat) : Int) := by
  rw [show (x : Int) / 8 = ((x / 8 : Nat) : Int) by omega, u32_xor_nat _ _ (rotr_lt (by omega) hx) (rotr_lt (by omega) hx), u32_xor_nat _ _ (xor_lt32 (rotr_lt (by omega) hx) (rotr_lt (by omega) hx)) (by omega)]
  rfl
theorem xorS1 (x : Nat) (hx : x < 4294967296) : bits BinOp.xor IntKind.u32 (bits BinOp.xor IntKind.u32 ((rotr 17 x : Nat) : Int) ((rotr 19 x : Nat) : Int)) ((x : Int) / 1024) = ((sha_s1 x : Nat) : Int) := by
  rw [show (x : Int) / 1024 = ((x / 1024 : Nat) : Int) by omega, u32_xor_nat _ _ (rotr_lt (by omega) hx) (rotr_lt (by omega) hx), u32_xor_nat _ _ (xor_lt32 (rotr_lt (by omega) hx) (rotr_lt (by omega) hx)) (by omega)]
  rfl
theorem xorSS0 (x : Nat) (hx : x < 4294967296) : bits BinOp.xor IntKind.u32 (bits BinOp.xor IntKind.u32 ((rotr 2 x : Nat) : Int) ((rotr 13 x : Nat) : Int)) ((rotr 22 x : Nat) : Int) = ((sha_S0 x : Nat) : Int) := by
  rw [u32_xor_nat _ _ (rotr_lt (by omega) hx) (rotr_lt (by omega) hx), u32_xor_nat _ _ (xor_lt32 (rotr_lt (by omega) hx) (rotr_lt (by omega) hx)) (rotr_lt (by omega) hx)]
  rfl
theorem xorSS1 (x : Nat) (hx : x < 4294967296) : bits BinOp.xor IntKind.u32 (bits BinOp.xor IntKind.u32 ((rotr 6 x : Nat) : Int) ((rotr 11 x : Nat) : Int)) ((rotr 25 x : Nat) : Int) = ((sha_S1 x : Nat) : Int) := by
  rw [u32_xor_nat _ _ (rotr_lt (by omega) hx) (rotr_lt (by omega) hx), u32_xor_nat _ _ (xor_lt32 (rotr_lt (by omega) hx) (rotr_lt (by omega) hx)) (rotr_lt (by omega) hx)]
  rfl
theorem orBe4 (x0 x1 x2 x3 : Nat) (h0 : x0 < 256) (h1 : x1 < 256) (h2 : x2 < 256) (h3 : x3 < 256) :
    bits BinOp.or IntKind.u32 (bits BinOp.or IntKind.u32 (bits BinOp.or IntKind.u32 (IntKind.u32.wrap (IntKind.u32.wrap (x0 : Int) * 16777216)) (IntKind.u32.wrap (IntKind.u32.wrap (x1 : Int) * 65536))) (IntKind.u32.wrap (IntKind.u32.wrap (x2 : Int) * 256))) (IntKind.u32.wrap (x3 : Int)) = ((x0 * 16777216 + x1 * 65536 + x2 * 256 + x3 : Nat) : Int) := by
  rw [IntWalk.u32_in (x0 : Int) (by omega), IntWalk.u32_in (x1 : Int) (by omega), IntWalk.u32_in (x2 : Int) (by omega), IntWalk.u32_in (x3 : Int) (by omega), IntWalk.u32_in _ (by omega), IntWalk.u32_in _ (by omega), IntWalk.u32_in _ (by omega)]
  rw [show (x0 : Int) * 16777216 = ((x0 * 16777216 : Nat) : Int) by omega, show (x1 : Int) * 65536 = ((x1 * 65536 : Nat) : Int) by omega, show (x2 : Int) * 256 = ((x2 * 256 : Nat) : Int) by omega]
  have a1 : x0 * 16777216 ||| x1 * 65536 = x0 * 16777216 + x1 * 65536 := by
    have := Nat.two_pow_add_eq_or_of_lt (i := 24) (b := x1 * 65536) (by omega) x0
    rw [Nat.mul_comm] at this; exact this.symm
  have a2 : x0 * 16777216 + x1 * 65536 ||| x2 * 256 = x0 * 16777216 + x1 * 65536 + x2 * 256 := by
    have := Nat.two_pow_add_eq_or_of_lt (i := 16) (b := x2 * 256) (by omega) (x0 * 256 + x1)
    rw [show 2 ^ 16 * (x0 * 256 + x1) = x0 * 16777216 + x1 * 65536 by omega] at this; exact this.symm
  have a3 : x0 * 16777216 + x1 * 65536 + x2 * 256 ||| x3 = x0 * 16777216 + x1 * 65536 + x2 * 256 + x3 := by
    have := Nat.two_pow_add_eq_or_of_lt (i := 8) (b := x3) (by omega) (x0 * 65536 + x1 * 256 + x2)
    rw [show 2 ^ 8 * (x0 * 65536 + x1 * 256 + x2) = x0 * 16777216 + x1 * 65536 + x2 * 256 by omega] at this; exact this.symm
  rw [u32_or_nat _ _ (by omega) (by omega), a1, u32_or_nat _ _ (by omega) (by omega), a2, u32_or_nat _ _ (by omega) (by omega), a3]

set_option maxRecDepth 100000 in
set_option maxHeartbeats 4000000 in
theorem words_any (v : Value) (l : List UInt8) (w : World) (hv : Row w v (bs l)) (hl : 64 ≤ l.length) :
    Calls Tryd.prog 33 #[v] w fun e w' => ∃ v', e = .returned v' ∧ Own w' w.heap.size 54 v' (us (shaWords l)) ∧ Fr Non w w' := by
  obtain ⟨i0, hi⟩ := info_parts Tryd.info54
  obtain ⟨a, c, rfl, _⟩ := id hv
  obtain ⟨hn, hlc, hm, h1⟩ := hv.bytes
  rw [bs_length] at *
  clear hn
  unfold maxLen at hm
  have HV := Lib.hid hv
  have HI := Lib.hid hi
  clear hv hi h1
  go_enter Tryd.func33, Tryd.ntmps33
  go_wp2
  go_loopw [3, 4] (fun v0 i wr => ∃ k : Nat, k ≤ 16 ∧ i = .int .i64 k ∧ Own wr w.heap.size 54 v0 (us (shaFirst l k)) ∧ Fr Non w wr) (fun _ i _ => 16 - (intOf i).toNat)
  case atStart => exact ⟨0, by omega, rfl, Own.nil _ _ _, Fr.refl _ _⟩
  case round =>
    obtain ⟨k, hk, rfl, hown, hfr⟩ := hrel
    have HO := Lib.hid hown
    have HF := Lib.hid hfr
    clear hown hfr
    by_cases hlt : k < 16
    · have hrow := HV.out.non HF.out
      obtain ⟨-, -, -, h1⟩ := hrow.bytes
      have hbo : ∃ b off, a = some ⟨b, off, none⟩ := by obtain ⟨b, off, e, _⟩ := h1 0 (by omega); exact ⟨b, off, e⟩
      obtain ⟨b, off, rfl⟩ := hbo
      have hc : ∀ j, j < l.length → wr.cell? ⟨b, off + j, none⟩ = some (.int .u8 ((l[j]!).toNat : Int)) := by
        intro j hj
        obtain ⟨b', off', e, h⟩ := h1 j hj
        injection e with e
        injection e with e1 e2
        subst e1 e2
        exact h
      obtain ⟨j, hj⟩ : ∃ j, j = 4 * k := ⟨_, rfl⟩
      have c0 := hc j (by omega)
      have c1 := hc (j + 1) (by omega)
      have c2 := hc (j + 2) (by omega)
      have c3 := hc (j + 3) (by omega)
      have g0 := l[j]!.toNat_lt
      have g1 := l[j + 1]!.toNat_lt
      have g2 := l[j + 2]!.toNat_lt
      have g3 := l[j + 3]!.toNat_lt
      have E : Hid (be4 l (4 * k) = l[j]!.toNat * 16777216 + l[j + 1]!.toNat * 65536 + l[j + 2]!.toNat * 256 + l[j + 3]!.toNat) := Lib.hid (by rw [hj]; rfl)
      generalize l[j]!.toNat = x0 at c0 g0 E
      generalize l[j + 1]!.toNat = x1 at c1 g1 E
      generalize l[j + 2]!.toNat = x2 at c2 g2 E
      generalize l[j + 3]!.toNat = x3 at c3 g3 E
      have hz : (0 : Int) ≤ (j : Int) := by omega
      have hz1 : (0 : Int) ≤ (j : Int) + 1 := by omega
      have hz2 : (0 : Int) ≤ (j : Int) + 2 := by omega
      have hz3 : (0 : Int) ≤ (j : Int) + 3 := by omega
      have hy : (j : Int) < (l.length : Int) := by omega
      have hy1 : (j : Int) + 1 < (l.length : Int) := by omega
      have hy2 : (j : Int) + 2 < (l.length : Int) := by omega
      have hy3 : (j : Int) + 3 < (l.length : Int) := by omega
      have t1 : ((j : Int) + 1).toNat = j + 1 := by omega
      have t2 : ((j : Int) + 2).toNat = j + 2 := by omega
      have t3 : ((j : Int) + 3).toNat = j + 3 := by omega
      have e0 : IntKind.i64.wrap (4 * (k : Int)) = (j : Int) := by rw [IntWalk.i64_in _ (by omega)]; omega
      have e1 : IntKind.i64.wrap ((j : Int) + 1) = (j : Int) + 1 := IntWalk.i64_in _ (by omega)
      have e2 : IntKind.i64.wrap ((j : Int) + 2) = (j : Int) + 2 := IntWalk.i64_in _ (by omega)
      have e3 : IntKind.i64.wrap ((j : Int) + 3) = (j : Int) + 3 := IntWalk.i64_in _ (by omega)
      have HJ := Lib.hid hj
      have hoff : ¬ OwnOf u3 b := fun h => by
        have h2 := HO.out.lt b h
        obtain ⟨b', off', e, h3⟩ := (HV.out.bytes).2.2.2 0 (by omega)
        injection e with e
        injection e with e4 e5
        subst e4 e5
        have := World.block_lt_of_cell? _ _ h3
        have h4 : b < w.heap.size := this
        omega
      clear hc h1 hrow hj
      go_wp2
      go_region_held_law (fun w' => w'.cell? ⟨b, off + j, none⟩ = some (.int .u8 (x0 : Int)) ∧ w'.cell? ⟨b, off + (j + 1), none⟩ = some (.int .u8 (x1 : Int)) ∧ w'.cell? ⟨b, off + (j + 2), none⟩ = some (.int .u8 (x2 : Int)) ∧ w'.cell? ⟨b, off + (j + 3), none⟩ = some (.int .u8 (x3 : Int))) (first | exact ⟨c0, c1, c2, c3⟩ | go_keep | (have f := ((Fr.alloc wr _).non (Fr.drew _)).non hfr'; exact ⟨f.cell c0 hoff, f.cell c1 hoff, f.cell c2 hoff, f.cell c3 hoff⟩))
        ((refine step_push (by rfl) _ _ _ (by rfl) w.heap.size 54 i0 _ 4 Tryd.underlying63 HI.out rfl _ _ (by rfl) ((HO.out.non (Fr.alloc _ _)).non (Fr.drew _)) _ _ (by rfl) (cell_alloc0d _ _ _) (by rfl) ⟨by rw [us_length, shaFirst_length]; omega, by omega⟩ (Nat.le_trans HF.out.size (Fr.drew _ |> fun h => ((Fr.alloc _ _).non h).size)) ?_; intro v' w1 hown' hfr' hmv hkp))
      go_wp2
      go_roundw
      case rel =>
        refine ⟨k + 1, by omega, by go_num, ?_, (HF.out.non ((Fr.alloc _ _).non (Fr.drew _))).new hfr' (fun i h => (HO.out.lt i h).1)⟩
        have e4 := orBe4 x0 x1 x2 x3 g0 g1 g2 g3
        rw [← E.out] at e4
        rw [shaFirst, us_append, show us [be4 l (4 * k)] = [.int .u32 ((be4 l (4 * k) : Nat) : Int)] from rfl, ← e4]
        exact hown'
      case measure => simp [intOf]; omega
    · obtain rfl : k = 16 := by omega
      go_wp2
      rw [show ((16 : Nat) : Int) = 16 from rfl]
      have hown : Own wr w.heap.size 54 u3 (us (shaFill 0 (shaFirst l 16))) := HO.out
      have hfr := HF.out
      clear HO HF
      go_loopw [3, 5] (fun v0 i wr => ∃ k m : Nat, m = 16 + k ∧ k ≤ 48 ∧ i = .int .i64 m ∧ Own wr w.heap.size 54 v0 (us (shaFill k (shaFirst l 16))) ∧ Fr Non w wr) (fun _ i _ => 64 - (intOf i).toNat)
      case atStart => exact ⟨0, 16, rfl, by omega, rfl, hown, hfr⟩
      case round =>
        obtain ⟨k, m, hkm, hk, rfl, hown, hfr⟩ := hrel
        have hL : (shaFill k (shaFirst l 16)).length = m := by rw [shaFill_length, shaFirst_length]; omega
        have hLt := shaFill_lt k (shaFirst l 16) (shaFirst_lt l 16)
        have hsn := shaFill_snoc k (shaFirst l 16)
        rw [shaNext, hL] at hsn
        have HSN := Lib.hid hsn
        have HKM := Lib.hid hkm
        clear hsn
        have HL := Lib.hid hL
        have hm16 : 16 ≤ m := by omega
        have hm64 : m ≤ 64 := by omega
        clear hL hkm
        by_cases hlt : m < 64
        · obtain ⟨g, c', rfl, hg, -⟩ := hown.form (by rw [us_length, HL.out]; omega)
          rw [us_length, HL.out] at hown ⊢
          obtain ⟨p16, h16⟩ : ∃ p, p + 16 = m := ⟨m - 16, by omega⟩
          obtain ⟨p15, h15⟩ : ∃ p, p + 15 = m := ⟨m - 15, by omega⟩
          obtain ⟨p7, h7⟩ : ∃ p, p + 7 = m := ⟨m - 7, by omega⟩
          obtain ⟨p2, h2⟩ : ∃ p, p + 2 = m := ⟨m - 2, by omega⟩
          have HC16 := Lib.hid (us_at (shaFill k (shaFirst l 16)) p16 (by rw [HL.out]; omega))
          have HC7 := Lib.hid (us_at (shaFill k (shaFirst l 16)) p7 (by rw [HL.out]; omega))
          obtain ⟨c16, -⟩ := hown.cellAt p16 _ (us_at _ _ (by rw [HL.out]; omega))
          obtain ⟨c15, -⟩ := hown.cellAt p15 _ (us_at _ _ (by rw [HL.out]; omega))
          obtain ⟨c7, -⟩ := hown.cellAt p7 _ (us_at _ _ (by rw [HL.out]; omega))
          obtain ⟨c2, -⟩ := hown.cellAt p2 _ (us_at _ _ (by rw [HL.out]; omega))
          have b16 := get_lt hLt p16
          have b15 := get_lt hLt p15
          have b7 := get_lt hLt p7
          have b2 := get_lt hLt p2
          have hsn := HSN.out
          rw [show m - 16 = p16 by omega, show m - 15 = p15 by omega, show m - 7 = p7 by omega, show m - 2 = p2 by omega] at hsn
          generalize (shaFill k (shaFirst l 16))[p16]! = x16 at c16 b16 hsn HC16
          generalize (shaFill k (shaFirst l 16))[p15]! = x15 at c15 b15 hsn
          generalize (shaFill k (shaFirst l 16))[p7]! = x7 at c7 b7 hsn HC7
          generalize (shaFill k (shaFirst l 16))[p2]! = x2 at c2 b2 hsn
          have HS2 := Lib.hid hsn
          clear HSN hsn
          have HO := Lib.hid hown
          have HF := Lib.hid hfr
          have HLt := Lib.hid hLt
          clear hown hfr hLt
          have z16 : (0 : Int) ≤ (p16 : Int) := by omega
          have z15 : (0 : Int) ≤ (p15 : Int) := by omega
          have z7 : (0 : Int) ≤ (p7 : Int) := by omega
          have z2 : (0 : Int) ≤ (p2 : Int) := by omega
          have y16 : (p16 : Int) < (m : Int) := by omega
          have y15 : (p15 : Int) < (m : Int) := by omega
          have y7 : (p7 : Int) < (m : Int) := by omega
          have y2 : (p2 : Int) < (m : Int) := by omega
          have e16 : IntKind.i64.wrap ((m : Int) - 16) = (p16 : Int) := by rw [IntWalk.i64_in _ (by omega)]; omega
          have e15 : IntKind.i64.wrap ((m : Int) - 15) = (p15 : Int) := by rw [IntWalk.i64_in _ (by omega)]; omega
          have e7 : IntKind.i64.wrap ((m : Int) - 7) = (p7 : Int) := by rw [IntWalk.i64_in _ (by omega)]; omega
          have e2 : IntKind.i64.wrap ((m : Int) - 2) = (p2 : Int) := by rw [IntWalk.i64_in _ (by omega)]; omega
          clear h16 h15 h7 h2
          go_wp2
          go_quiet ((go_at_call 34; exact Calls.quiet_of (turn_any _ _ _ b15 (by omega) (by omega))))
          rw [xorS0 x15 b15]
          have bs0 := sha_s0_lt b15
          generalize sha_s0 x15 = y15 at bs0 HS2 ⊢
          have f2 := Fr.drewN wr nq
          generalize wr.drewN nq = w2 at f2 ⊢
          replace c2 := f2.cell c2 (fun h => h)
          replace c16 := f2.cell c16 (fun h => h)
          replace c7 := f2.cell c7 (fun h => h)
          clear c15
          go_wp2
          go_quiet ((go_at_call 34; exact Calls.quiet_of (turn_any _ _ _ b2 (by omega) (by omega))))
          rw [xorS1 x2 b2]
          have bs1 := sha_s1_lt b2
          generalize sha_s1 x2 = y2 at bs1 HS2 ⊢
          have f3 := Fr.drewN w2 nq
          generalize w2.drewN nq = w3 at f3 ⊢
          replace c16 := f3.cell c16 (fun h => h)
          replace c7 := f3.cell c7 (fun h => h)
          have HF3 : Hid (Fr Non wr w3) := Lib.hid (f2.non f3)
          clear c2 f2 f3
          go_wp2
          go_region_held_law (fun w' => w'.cell? ⟨g, p16, none⟩ = some (.int .u32 (x16 : Int)) ∧ w'.cell? ⟨g, p7, none⟩ = some (.int .u32 (x7 : Int))) (first | exact ⟨c16, c7⟩ | go_keep | exact ⟨hkp _ rfl _ _ HC16.out, hkp _ rfl _ _ HC7.out⟩)
            ((refine step_push (by rfl) _ _ _ (by rfl) w.heap.size 54 i0 _ 4 Tryd.underlying63 HI.out rfl _ _ (by rfl) (((HO.out.non HF3.out).non (Fr.alloc _ _)).non (Fr.drew _)) _ _ (by rfl) (cell_alloc0d _ _ _) (by rfl) ⟨by rw [us_length, HL.out]; omega, by omega⟩ (Nat.le_trans HF.out.size (Nat.le_trans HF3.out.size (Fr.drew _ |> fun h => ((Fr.alloc _ _).non h).size))) ?_; intro v' w1 hown' hfr' hmv hkp))
          go_wp2
          go_roundw
          case rel =>
            refine ⟨k + 1, m + 1, by have := HKM.out; omega, by have := HKM.out; omega, by go_num, ?_, (HF.out.non (HF3.out.non ((Fr.alloc _ _).non (Fr.drew _)))).new hfr' (fun i h => (HO.out.lt i h).1)⟩
            rw [HS2.out, us_append]
            have e : us [(x16 + y15 + x7 + y2) % 4294967296] = [Value.int .u32 (IntKind.u32.wrap (IntKind.u32.wrap (IntKind.u32.wrap ((x16 : Int) + y15) + x7) + y2))] := by
              simp only [us, List.map_cons, List.map_nil, IntKind.wrap_u32]
              congr 2
              omega
            rw [e]
            exact hown'
          case measure => simp [intOf]; omega
        · have e : shaFill k (shaFirst l 16) = shaWords l := by rw [shaWords, show k = 48 by have := HKM.out; omega]
          rw [e] at hown
          have HO := Lib.hid hown
          have HF := Lib.hid hfr
          clear hown hfr HSN HL hLt e HKM hk
          go_wp2
          go_ret
          exact ⟨_, rfl, HO.out, HF.out⟩
end Go.Proofs.YtajknmapggkmnaaDoor
