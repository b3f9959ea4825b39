/- package crc: lists of bytes, masks -/
import Derived.Test.YtnkjomfekobemaaCrc
namespace Go.Proofs.Ytnkjomfekobemaa
open Go.ChangeShapes Go.WideShapes Go.ChangeAt Go.RowKit

theorem orR (x : Nat) (hx : x < 4294967296) : bits BinOp.or IntKind.u32 ((x : Int) * 131072 % 4294967296) ((x : Int) / 32768) = ((x % 32768 * 131072 + x / 32768 : Nat) : Int) := by
  have e1 : (x : Int) * 131072 % 4294967296 = ((x % 32768 * 131072 : Nat) : Int) := by omega
  have e2 : (x : Int) / 32768 = ((x / 32768 : Nat) : Int) := by omega
  rw [e1, e2, u32_or_nat _ _ (by omega) (by omega)]
  have := Nat.two_pow_add_eq_or_of_lt (i := 17) (b := x / 32768) (by omega) (x % 32768)
  rw [Nat.mul_comm] at this
  exact congrArg _ this.symm
theorem orL (x : Nat) (hx : x < 4294967296) : bits BinOp.or IntKind.u32 ((x : Int) * 32768 % 4294967296) ((x : Int) / 131072) = ((x % 131072 * 32768 + x / 131072 : Nat) : Int) := by
  have e1 : (x : Int) * 32768 % 4294967296 = ((x % 131072 * 32768 : Nat) : Int) := by omega
  have e2 : (x : Int) / 131072 = ((x / 131072 : Nat) : Int) := by omega
  rw [e1, e2, u32_or_nat _ _ (by omega) (by omega)]
  have := Nat.two_pow_add_eq_or_of_lt (i := 15) (b := x / 131072) (by omega) (x % 131072)
  rw [Nat.mul_comm] at this
  exact congrArg _ this.symm

theorem rotR_any (x : Nat) (w : World) (hx : x < 4294967296) :
    Calls Try.prog 19 #[.int .u32 x, .int .i64 (-15)] w fun e w' => e = .returned (.int .u32 (x % 32768 * 131072 + x / 32768 : Nat)) ∧ w = w' := by
  have hb : bits BinOp.and IntKind.u64 (IntKind.u64.wrap (-15)) 31 = 17 := by decide +kernel
  go_enter Try.func19, Try.ntmps19
  go_wp2
  go_ret
  exact ⟨ret_u32 (orR x hx), rfl⟩
theorem rotL_any (x : Nat) (w : World) (hx : x < 4294967296) :
    Calls Try.prog 19 #[.int .u32 x, .int .i64 15] w fun e w' => e = .returned (.int .u32 (x % 131072 * 32768 + x / 131072 : Nat)) ∧ w = w' := by
  have hb : bits BinOp.and IntKind.u64 15 31 = 15 := by decide +kernel
  go_enter Try.func19, Try.ntmps19
  go_wp2
  go_ret
  exact ⟨ret_u32 (orL x hx), rfl⟩

def cMask (x : Nat) : Nat := (x % 32768 * 131072 + x / 32768 + 2726488792) % 4294967296
def cUnmask (n : Nat) : Nat := (n + 1568478504) % 4294967296 % 131072 * 32768 + (n + 1568478504) % 4294967296 / 131072
theorem cMask_lt (x : Nat) : cMask x < 4294967296 := Nat.mod_lt _ (by omega)
theorem cUnmask_lt (x : Nat) : cUnmask x < 4294967296 := by unfold cUnmask; omega
theorem cUnmask_cMask (x : Nat) (h : x < 4294967296) : cUnmask (cMask x) = x := by
  unfold cUnmask cMask
  obtain ⟨a, ha⟩ : ∃ a, a = x % 32768 := ⟨_, rfl⟩
  obtain ⟨b, hb⟩ : ∃ b, b = x / 32768 := ⟨_, rfl⟩
  rw [← ha, ← hb]
  have e : ((a * 131072 + b + 2726488792) % 4294967296 + 1568478504) % 4294967296 = a * 131072 + b := by omega
  rw [e, show (a * 131072 + b) % 131072 = b by omega, show (a * 131072 + b) / 131072 = a by omega]
  omega
theorem cMask_cUnmask (x : Nat) (h : x < 4294967296) : cMask (cUnmask x) = x := by
  unfold cUnmask cMask
  obtain ⟨y, hy⟩ : ∃ y, y = (x + 1568478504) % 4294967296 := ⟨_, rfl⟩
  rw [← hy]
  have hy2 : y < 4294967296 := by omega
  obtain ⟨a, ha⟩ : ∃ a, a = y % 131072 := ⟨_, rfl⟩
  obtain ⟨b, hb⟩ : ∃ b, b = y / 131072 := ⟨_, rfl⟩
  rw [← ha, ← hb, show (a * 32768 + b) % 32768 = b by omega, show (a * 32768 + b) / 32768 = a by omega, show b * 131072 + a = y by omega]
  omega

theorem Mask_any (x : Nat) (w : World) (hx : x < 4294967296) :
    Calls Try.prog 13 #[.int .u32 x] w fun e w' => e = .returned (.int .u32 (cMask x : Nat)) ∧ w = w' := by
  go_enter Try.func13, Try.ntmps13
  go_wp2_with fail
  refine (rotR_any x _ hx).mono ?_
  rintro e w' ⟨rfl, rfl⟩
  go_wp2_with fail
  go_ret
  exact ⟨ret_u32 (by unfold cMask; omega), rfl⟩
theorem refMask_any (x : Nat) (w : World) (_ : x < 4294967296) :
    Calls Try.prog 14 #[.int .u32 x] w fun e w' => e = .returned (.int .u32 (cMask x : Nat)) ∧ w = w' := by
  go_enter Try.func14, Try.ntmps14
  go_wp2_with fail
  go_ret
  exact ⟨ret_u32 (by unfold cMask; omega), rfl⟩
theorem Unmask_any (x : Nat) (w : World) (_ : x < 4294967296) :
    Calls Try.prog 15 #[.int .u32 x] w fun e w' => e = .returned (.int .u32 (cUnmask x : Nat)) ∧ w = w' := by
  go_enter Try.func15, Try.ntmps15
  go_wp2_with fail
  rw [show ((x : Int) - 2726488792) % 4294967296 = (((x + 1568478504) % 4294967296 : Nat) : Int) from by omega]
  refine (rotL_any ((x + 1568478504) % 4294967296) _ (Nat.mod_lt _ (by omega))).mono ?_
  rintro e w' ⟨rfl, rfl⟩
  go_wp2_with fail
  go_ret
  exact ⟨ret_u32 (by unfold cUnmask; omega), rfl⟩
theorem refUnmask_any (x : Nat) (w : World) (_ : x < 4294967296) :
    Calls Try.prog 16 #[.int .u32 x] w fun e w' => e = .returned (.int .u32 (cUnmask x : Nat)) ∧ w = w' := by
  go_enter Try.func16, Try.ntmps16
  go_wp2_with fail
  go_ret
  exact ⟨ret_u32 (by unfold cUnmask; omega), rfl⟩

def cSum (ls : List (List UInt8)) : Nat := ls.foldl cMore 0
theorem cSum_lt (ls : List (List UInt8)) : cSum ls < 4294967296 := by
  have : ∀ s, s < 4294967296 → ls.foldl cMore s < 4294967296 := by
    induction ls with
    | nil => exact fun s h => h
    | cons l ls ih => exact fun s h => ih _ (cMore_lt s l)
  exact this 0 (by omega)
theorem cSum_take (ls : List (List UInt8)) (k : Nat) (h : k < ls.length) : cSum (ls.take (k + 1)) = cMore (cSum (ls.take k)) ls[k]! := by
  unfold cSum
  rw [List.take_succ_eq_append_getElem h, List.foldl_append, getElem!_pos ls k h]; rfl

set_option maxRecDepth 100000 in
theorem Sum_any (v : Value) (ls : List (List UInt8)) (w : World) (hv : Rows2 w v ls) :
    Calls Try.prog 12 #[v] w fun e w' => e = .returned (.int .u32 (cSum ls : Nat)) ∧ w = w' := by
  obtain ⟨vs, hr, hlen, hrows⟩ := hv
  obtain ⟨a, c, rfl, hl, hm, h3, h4⟩ := hr
  unfold maxLen at hm
  have HR := Lib.hid hrows
  have H4 := Lib.hid h4
  have HL := Lib.hid hlen
  clear hrows h4 hlen h3
  go_enter Try.func12, Try.ntmps12
  go_wp2
  go_loopw [3, 8] (fun y i wr => ∃ k m : Nat, k ≤ vs.length ∧ i = .int .i64 k ∧ y = .int .u32 m ∧ m < 4294967296 ∧ m = cSum (ls.take k) ∧ w = wr) (fun _ i _ => vs.length - (intOf i).toNat)
  case atStart => exact ⟨0, 0, by omega, rfl, rfl, by omega, rfl, rfl⟩
  case round =>
    obtain ⟨k, m, hk, rfl, rfl, hm2, he, rfl⟩ := hrel
    have HE := Lib.hid he
    clear he
    by_cases hlt : k < vs.length
    · obtain ⟨b, off, rfl, hc⟩ := H4.out k hlt
      have hc1 : w.cell? ⟨b, off + k, none⟩ = some vs[k] := hc k _ (List.getElem?_eq_getElem hlt)
      have hr1 := Lib.hid (HR.out k _ (List.getElem?_eq_getElem hlt))
      generalize vs[k] = u at hc1 hr1
      clear hc
      go_wp2_with fail
      refine (crcMore_any m u _ _ hm2 hr1.out).mono ?_
      rintro e w' ⟨rfl, rfl⟩
      go_wp2_with fail
      go_roundw
      case rel => exact ⟨k + 1, cMore m ls[k]!, by omega, by go_num, by simp, cMore_lt _ _, by rw [HE.out, cSum_take _ _ (by have := HL.out; omega)], trivial⟩
      case measure => simp [intOf]; omega
    · go_wp2_with fail
      go_ret
      refine ⟨?_, rfl⟩
      have := HE.out
      rw [List.take_of_length_le (by have := HL.out; omega)] at this
      rw [this]; rfl
end Go.Proofs.Ytnkjomfekobemaa
