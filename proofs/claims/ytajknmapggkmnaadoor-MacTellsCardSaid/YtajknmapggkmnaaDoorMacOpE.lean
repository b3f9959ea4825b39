/- package mac: Equal -/
import Derived.Test.YtajknmapggkmnaaDoorMacOpD
namespace Go.Proofs.YtajknmapggkmnaaDoor
open Go.ChangeShapes Go.WideShapes Go.ChangeAt Go.RowKit

theorem u8or (a b : UInt8) : bits BinOp.or IntKind.u8 (a.toNat : Int) (b.toNat : Int) = ((a ||| b).toNat : Int) := by
  rw [u8_or_nat _ _ a.toNat_lt b.toNat_lt, UInt8.toNat_or]
theorem or_zero (x y : UInt8) : (x ||| y) = 0 ↔ x = 0 ∧ y = 0 := by
  constructor
  · intro h
    have h1 : (x ||| y).toNat = 0 := by rw [h]; rfl
    rw [UInt8.toNat_or] at h1
    have h2 := Nat.left_le_or (n := x.toNat) (m := y.toNat)
    have h3 := Nat.right_le_or (n := x.toNat) (m := y.toNat)
    exact ⟨UInt8.toNat_inj.1 (by simp; omega), UInt8.toNat_inj.1 (by simp; omega)⟩
  · rintro ⟨rfl, rfl⟩; rfl
theorem xor_zero (x y : UInt8) : (x ^^^ y) = 0 ↔ x = y := by
  constructor
  · intro h
    have h1 : (x ^^^ y) ^^^ y = y := by rw [h, UInt8.zero_xor]
    rwa [UInt8.xor_assoc, UInt8.xor_self, UInt8.xor_zero] at h1
  · rintro rfl; exact UInt8.xor_self
theorem unlike_next (a b : List UInt8) (x : UInt8) (k : Nat) (ha : k < a.length) (hb : k < b.length) (h : x = 0 ↔ a.take k = b.take k) : (x ||| (a[k]! ^^^ b[k]!)) = 0 ↔ a.take (k + 1) = b.take (k + 1) := by
  rw [or_zero, xor_zero, h, List.take_succ_eq_append_getElem ha, List.take_succ_eq_append_getElem hb, getElem!_pos a k ha, getElem!_pos b k hb]
  constructor
  · rintro ⟨h1, h2⟩; rw [h1, h2]
  · intro h1
    have h2 := List.append_inj h1 (by simp; omega)
    exact ⟨h2.1, by simpa using h2.2⟩

set_option maxRecDepth 100000 in
set_option maxHeartbeats 1000000 in
theorem equalOp_any (v u : Value) (a b : List UInt8) (w : World) (hv : Row w v (bs a)) (hu : Row w u (bs b)) :
    Calls Tryd.prog 16 #[v, u] w fun e w' => e = .returned (.bool (a == b)) ∧ Fr Non w w' := by
  obtain ⟨a0, c0, rfl, -⟩ := id hv
  obtain ⟨a1, c1, rfl, -⟩ := id hu
  have hmx : a.length ≤ 9223372036854775807 := by have h := hv.le; rw [bs_length] at h; unfold maxLen at h; omega
  simp only [bs_length] at *
  have HV := Lib.hid hv
  have HU := Lib.hid hu
  by_cases hl : a.length = b.length
  · have hne : ((a.length : Int) != (b.length : Int)) = false := by simp; omega
    rw [← hl] at hu hne ⊢
    have HL := Lib.hid hl
    clear hv hu hl
    go_enter Tryd.func16, Tryd.ntmps16
    go_wp2_with fail
    go_loopw [5, 14] (fun x i wr => ∃ (k : Nat) (y : UInt8), k ≤ a.length ∧ i = .int .i64 k ∧ x = .int .u8 y.toNat ∧ (y = 0 ↔ a.take k = b.take k) ∧ Fr Non w wr) (fun _ i _ => a.length - (intOf i).toNat)
    case atStart => exact ⟨0, 0, Nat.zero_le _, rfl, rfl, by simp, Fr.refl _ _⟩
    case round =>
      obtain ⟨k, y, hk, rfl, rfl, hy, hfr⟩ := hrel
      have HY := Lib.hid hy
      have HFR := Lib.hid hfr
      clear hy hfr
      by_cases hlt : k < a.length
      · have hkb : k < b.length := by have := HL.out; omega
        obtain ⟨b1, o1, e1, x1⟩ := (HV.out.non HFR.out).bytes.2.2.2 k hlt
        obtain ⟨b2, o2, e2, x2⟩ := (HU.out.non HFR.out).bytes.2.2.2 k hkb
        subst e1 e2
        have HN := Lib.hid (unlike_next a b y k hlt hkb HY.out)
        have z0 : (0 : Int) ≤ (k : Int) := by omega
        have z1 : (k : Int) < (a.length : Int) := by omega
        have g1 := a[k]!.toNat_lt
        have g2 := b[k]!.toNat_lt
        generalize a[k]! = p at x1 HN g1
        generalize b[k]! = q at x2 HN g2
        go_upto_region 7 with (fail)
        go_quiet (fail)
        go_wp2
        go_roundw
        case rel => exact ⟨k + 1, y ||| (p ^^^ q), by omega, by go_num, by rw [u8xor, u8or], HN.out, HFR.out.non (Fr.drewN _ _)⟩
        case measure => simp [intOf]; omega
      · have hkn : k = a.length := by omega
        have hge : decide ((k : Int) < (a.length : Int)) = false := by simp; omega
        have hab : ((y.toNat : Int) == 0) = (a == b) := by
          have h := HY.out
          have hl := HL.out
          rw [hkn, List.take_length, List.take_of_length_le (by omega)] at h
          rw [Bool.eq_iff_iff, beq_iff_eq, beq_iff_eq, ← h]
          constructor
          · intro h1; exact UInt8.toNat_inj.1 (by simp; omega)
          · rintro rfl; rfl
        clear hkn
        go_wp2_with fail
        go_ret
        exact ⟨rfl, HFR.out⟩
  · have hne : ((a.length : Int) != (b.length : Int)) = true := by simp; omega
    have hab : (a == b) = false := by
      rw [beq_eq_false_iff_ne]; intro h; exact hl (by rw [h])
    have HAB := Lib.hid hab
    clear hv hu hab
    go_enter Tryd.func16, Tryd.ntmps16
    go_wp2_with fail
    go_ret
    exact ⟨by rw [HAB.out]; rfl, Fr.refl _ _⟩
end Go.Proofs.YtajknmapggkmnaaDoor
