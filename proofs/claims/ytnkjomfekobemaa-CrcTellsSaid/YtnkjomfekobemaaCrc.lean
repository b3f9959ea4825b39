/- package crc: contracts of the walk -/
import Derived.Test.YtnkjomfekobemaaBuilt
import Derived.Test.YtnkjomfekobemaaCrcMath
namespace Go.Proofs.Ytnkjomfekobemaa
open Go.ChangeShapes Go.WideShapes Go.ChangeAt Go.RowKit

theorem ret_u32 {k : IntKind} {a b : Int} (h : a = b) : Ending.returned (.int k a) = .returned (.int k b) := by rw [h]
theorem xor32 (x c : Nat) (hx : x < 4294967296) (hc : c < 4294967296) : bits BinOp.xor IntKind.u32 (x : Int) (c : Int) = ((x ^^^ c : Nat) : Int) := u32_xor_nat x c hx hc
theorem xorHalf (x : Nat) (hx : x < 4294967296) : bits BinOp.xor IntKind.u32 ((x : Int) / 2) 2197175160 = (((x / 2) ^^^ 2197175160 : Nat) : Int) := u32_xor_nat (x / 2) 2197175160 (by omega) (by omega)
theorem andOne (x : Nat) (hx : x < 4294967296) : bits BinOp.and IntKind.u32 (x : Int) 1 = ((x % 2 : Nat) : Int) := by
  rw [show (1 : Int) = ((1 : Nat) : Int) from rfl, u32_and_nat x 1 hx (by omega), Nat.and_one_is_mod]

set_option maxRecDepth 100000 in
theorem divided_any (x : Nat) (w : World) (hx : x < 4294967296) :
    Calls Try.prog 17 #[.int .u32 x] w fun e w' => e = .returned (.int .u32 (cHalves 8 x : Nat)) ∧ w = w' := by
  have HX := Lib.hid hx
  clear hx
  go_enter Try.func17, Try.ntmps17
  go_wp2
  go_loop [0, 4] (fun y i => ∃ k m : Nat, k ≤ 8 ∧ i = .int .i64 k ∧ y = .int .u32 m ∧ m < 4294967296 ∧ m = cHalves k x) (fun _ i => 8 - (intOf i).toNat)
  case atStart => exact ⟨0, x, by omega, rfl, rfl, HX.out, rfl⟩
  case round =>
    obtain ⟨k, m, hk, rfl, rfl, hm, he⟩ := hrel
    have HE := Lib.hid he
    clear he
    by_cases hlt : k < 8
    · by_cases h1 : m % 2 = 1
      · have hb : bits BinOp.and IntKind.u32 (m : Int) 1 = 1 := by rw [andOne m hm, h1]; rfl
        have H1 := Lib.hid h1
        clear h1
        go_wp2
        go_round
        case rel => exact ⟨k + 1, cHalf m, by omega, by go_num, by rw [xorHalf m hm, cHalf, if_pos H1.out], cHalf_lt hm, by rw [cHalves_snoc, HE.out]⟩
        case measure => simp [intOf]; omega
      · have hb : bits BinOp.and IntKind.u32 (m : Int) 1 = 0 := by rw [andOne m hm, show m % 2 = 0 by omega]; rfl
        have H1 := Lib.hid h1
        clear h1
        go_wp2
        go_round
        case rel => exact ⟨k + 1, cHalf m, by omega, by go_num, by rw [cHalf, if_neg H1.out]; go_num, cHalf_lt hm, by rw [cHalves_snoc, HE.out]⟩
        case measure => simp [intOf]; omega
    · go_wp2
      go_ret
      have := HE.out
      obtain rfl : k = 8 := by omega
      exact ⟨by rw [this]; rfl, rfl⟩

theorem cOn_take {x : Nat} (l : List UInt8) (k : Nat) (h : k < l.length) : cOn x (l.take (k + 1)) = cByte (cOn x (l.take k)) (l[k]!).toNat := by
  rw [List.take_succ_eq_append_getElem h, cOn_append, getElem!_pos l k h]; rfl

theorem not32 (x : Nat) (hx : x < 4294967296) : bits BinOp.xor IntKind.u32 IntKind.u32.max (x : Int) = ((4294967295 - x : Nat) : Int) := by
  rw [show IntKind.u32.max = ((4294967295 : Nat) : Int) from by decide, u32_xor_nat 4294967295 x (by omega) hx]
  have h1 : (BitVec.allOnes 32 ^^^ BitVec.ofNat 32 x).toNat = 4294967295 ^^^ x := by
    rw [BitVec.toNat_xor, BitVec.toNat_ofNat, Nat.mod_eq_of_lt hx]; rfl
  have h2 : (BitVec.allOnes 32 ^^^ BitVec.ofNat 32 x).toNat = 4294967295 - x := by
    rw [BitVec.allOnes_xor, BitVec.toNat_not, BitVec.toNat_ofNat, Nat.mod_eq_of_lt hx]
  rw [← h1, h2]

set_option maxRecDepth 100000 in
theorem crcMore_any (s : Nat) (v : Value) (l : List UInt8) (w : World) (hs : s < 4294967296) (hv : Row w v (bs l)) :
    Calls Try.prog 10 #[.int .u32 s, v] w fun e w' => e = .returned (.int .u32 (cMore s l : Nat)) ∧ w = w' := by
  obtain ⟨a, c, rfl, _⟩ := id hv
  obtain ⟨hn, hl, hm, h1⟩ := hv.bytes
  rw [bs_length] at *
  clear hn hv
  unfold maxLen at hm
  have H1 := Lib.hid h1
  clear h1
  go_enter Try.func10, Try.ntmps10
  go_wp2
  go_loopw [5, 12] (fun y i wr => ∃ k m : Nat, k ≤ l.length ∧ i = .int .i64 k ∧ y = .int .u32 m ∧ m < 4294967296 ∧ m = cOn (4294967295 - s) (l.take k) ∧ w = wr) (fun _ i _ => l.length - (intOf i).toNat)
  case atStart => exact ⟨0, 4294967295 - s, by omega, rfl, by rw [not32 s hs], by omega, by simp [cOn], rfl⟩
  case round =>
    obtain ⟨k, m, hk, rfl, rfl, hm2, he, rfl⟩ := hrel
    have HE := Lib.hid he
    clear he
    by_cases hlt : k < l.length
    · obtain ⟨b, off, rfl, hc⟩ := H1.out k hlt
      have hb : (l[k]!).toNat < 256 := (l[k]!).toNat_lt
      have E := Lib.hid (cOn_take (x := 4294967295 - s) l k hlt)
      generalize (l[k]!).toNat = q at hc hb E
      have hx : bits BinOp.xor IntKind.u32 (m : Int) (q : Int) = ((m ^^^ q : Nat) : Int) := xor32 m q hm2 (by omega)
      have hx2 : m ^^^ q < 4294967296 := Nat.xor_lt_two_pow (n := 32) hm2 (by omega)
      go_wp2_with fail
      refine (divided_any (m ^^^ q) _ hx2).mono ?_
      rintro e w' ⟨rfl, rfl⟩
      go_wp2_with fail
      go_roundw
      case rel => exact ⟨k + 1, cByte m q, by omega, by go_num, rfl, cByte_lt hm2 hb, by rw [E.out, ← HE.out], trivial⟩
      case measure => simp [intOf]; omega
    · have hn := not32 m hm2
      go_wp2_with fail
      go_ret
      refine ⟨?_, rfl⟩
      have := HE.out
      rw [List.take_of_length_le (by omega)] at this
      rw [cMore, ← this]; rfl

theorem half_any (x : Nat) (w : World) (hx : x < 4294967296) :
    Calls Try.prog 18 #[.int .u32 x] w fun e w' => e = .returned (.int .u32 (cHalf x : Nat)) ∧ w = w' := by
  by_cases h1 : x % 2 = 1
  · have hb : (((x : Int) % 2) == 1) = true := by simp; omega
    have H1 := Lib.hid h1
    clear h1
    go_enter Try.func18, Try.ntmps18
    go_wp2
    go_ret
    exact ⟨ret_u32 (by rw [xorHalf x hx, cHalf, if_pos H1.out]), rfl⟩
  · have hb : (((x : Int) % 2) == 1) = false := by simp; omega
    have H1 := Lib.hid h1
    clear h1
    go_enter Try.func18, Try.ntmps18
    go_wp2
    go_ret
    exact ⟨ret_u32 (by rw [cHalf, if_neg H1.out]; omega), rfl⟩

set_option maxRecDepth 100000 in
theorem refMore_any (s : Nat) (v : Value) (l : List UInt8) (w : World) (hs : s < 4294967296) (hv : Row w v (bs l)) :
    Calls Try.prog 11 #[.int .u32 s, v] w fun e w' => e = .returned (.int .u32 (cMore s l : Nat)) ∧ w = w' := by
  obtain ⟨a, c, rfl, _⟩ := id hv
  obtain ⟨hn, hl, hm, h1⟩ := hv.bytes
  rw [bs_length] at *
  clear hn hv
  unfold maxLen at hm
  have H1 := Lib.hid h1
  clear h1
  go_enter Try.func11, Try.ntmps11
  go_wp2
  go_loopw [5, 6] (fun y i wr => ∃ k m : Nat, k ≤ l.length ∧ i = .int .i64 k ∧ y = .int .u32 m ∧ m < 4294967296 ∧ m = cOn (4294967295 - s) (l.take k) ∧ w = wr) (fun _ i _ => l.length - (intOf i).toNat)
  case atStart => exact ⟨0, 4294967295 - s, by omega, rfl, by go_num, by omega, by simp [cOn], rfl⟩
  case round =>
    obtain ⟨k, m, hk, rfl, rfl, hm2, he, rfl⟩ := hrel
    have HE := Lib.hid he
    clear he
    by_cases hlt : k < l.length
    · obtain ⟨b, off, rfl, hc⟩ := H1.out k hlt
      have hb : (l[k]!).toNat < 256 := (l[k]!).toNat_lt
      have E := Lib.hid (cOn_take (x := 4294967295 - s) l k hlt)
      generalize (l[k]!).toNat = q at hc hb E
      have hx : bits BinOp.xor IntKind.u32 (m : Int) (q : Int) = ((m ^^^ q : Nat) : Int) := xor32 m q hm2 (by omega)
      have hx2 : m ^^^ q < 4294967296 := Nat.xor_lt_two_pow (n := 32) hm2 (by omega)
      go_wp2_with fail
      go_loopw [5, 7] (fun y i wr => ∃ k n : Nat, k ≤ 8 ∧ i = .int .i64 k ∧ y = .int .u32 n ∧ n < 4294967296 ∧ n = cHalves k (m ^^^ q) ∧ w = wr) (fun _ i _ => 8 - (intOf i).toNat)
      case atStart => exact ⟨0, m ^^^ q, by omega, rfl, rfl, hx2, rfl, rfl⟩
      case round =>
        obtain ⟨j, n, hj, rfl, rfl, hn, he2, rfl⟩ := hrel
        have HE2 := Lib.hid he2
        clear he2
        by_cases hlt2 : j < 8
        · go_wp2_with fail
          refine (half_any n _ hn).mono ?_
          rintro e w' ⟨rfl, rfl⟩
          go_wp2_with fail
          go_roundw
          case rel => exact ⟨j + 1, cHalf n, by omega, by go_num, rfl, cHalf_lt hn, by rw [cHalves_snoc, HE2.out], trivial⟩
          case measure => simp [intOf]; omega
        · go_wp2_with fail
          go_roundw
          case rel => exact ⟨k + 1, n, by omega, by go_num, rfl, hn, by have h2 := HE2.out; rw [show j = 8 from by omega] at h2; rw [E.out, ← HE.out, h2]; rfl, trivial⟩
          case measure => simp [intOf]; omega
    · go_wp2_with fail
      go_ret
      refine ⟨?_, rfl⟩
      have := HE.out
      rw [List.take_of_length_le (by omega)] at this
      exact ret_u32 (by rw [cMore, ← this]; omega)
