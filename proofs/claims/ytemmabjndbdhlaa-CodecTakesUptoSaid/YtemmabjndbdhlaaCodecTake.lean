/- package codec, what takes: contracts of the walk -/
import Derived.Test.YtemmabjndbdhlaaCodecLay
namespace Go.Proofs.Ytemmabjndbdhlaa
open Go.ChangeShapes Go.WideShapes Go.ChangeAt Go.RowKit

/-- the number that l begins with, how many bytes it has, its fault -/
def decF (l : List UInt8) : Nat → Nat → Nat → Nat × Nat × Nat
  | 0, _, _ => (0, 0, 11)
  | k + 1, i, n => match l[i]? with
    | none => (0, 0, 10)
    | some c => if c.toNat < 128 then (if (0 < i ∧ c.toNat = 0) ∨ (i = 9 ∧ 1 < c.toNat) then (0, 0, 11) else (n + c.toNat * 2 ^ (7 * i), i + 1, 0)) else decF l k (i + 1) (n + (c.toNat - 128) * 2 ^ (7 * i))
def dec (l : List UInt8) : Nat × Nat × Nat := decF l 10 0 0

theorem Row.bytes {w : World} {a : Option Addr} {n c : Nat} {l : List UInt8} (h : Row w (.slice a n c) (bs l)) :
    n = l.length ∧ l.length ≤ c ∧ c ≤ maxLen ∧ (∀ j, j < l.length → ∃ b off, a = some ⟨b, off, none⟩ ∧ w.cell? ⟨b, off + j, none⟩ = some (.int .u8 ((l[j]!).toNat : Int))) := by
  obtain ⟨a', c', e, h1, h2, h3, h4⟩ := h
  injection e with e1 e2 e3
  subst e1 e3
  rw [bs_length] at *
  refine ⟨e2, h1, h2, fun j hj => ?_⟩
  obtain ⟨b, off, rfl, h5⟩ := h4 j hj
  exact ⟨b, off, rfl, h5 j _ (by simp [bs, hj])⟩

theorem or_shift (m x k : Nat) (hm : m < 2 ^ (7 * k)) (hx : x < 128) (hk : k < 9) : bits BinOp.or IntKind.u64 (m : Int) (IntKind.u64.wrap ((x : Int) * 2 ^ (7 * k))) = ((m + x * 2 ^ (7 * k) : Nat) : Int) := by
  have h1 : 2 ^ (7 * k) ≤ 2 ^ 56 := Nat.pow_le_pow_right (by omega) (by omega)
  have h2 : x * 2 ^ (7 * k) ≤ 127 * 2 ^ 56 := Nat.mul_le_mul (by omega) h1
  have e1 : ((x : Int) * 2 ^ (7 * k)) = ((x * 2 ^ (7 * k) : Nat) : Int) := by push_cast; rfl
  rw [e1, IntWalk.u64_in _ (by omega), u64_or_nat _ _ (by omega) (by omega)]
  have e2 := Nat.two_pow_add_eq_or_of_lt hm x
  rw [Nat.or_comm, Nat.add_comm, Nat.mul_comm x, e2]

theorem or63 (m : Nat) (hm : m < 2 ^ (7 * 9)) : bits BinOp.or IntKind.u64 (m : Int) 9223372036854775808 = ((m + 1 * 2 ^ (7 * 9) : Nat) : Int) := by
  have h := u64_or_nat m 9223372036854775808 (by omega) (by omega)
  have e2 := Nat.two_pow_add_eq_or_of_lt hm 1
  rw [Nat.mul_one, Nat.or_comm, Nat.add_comm] at e2
  rw [Nat.one_mul, e2]
  exact h
theorem bits_u64 (op : BinOp) (a b : Int) : ∃ y : Nat, bits op IntKind.u64 a b = (y : Int) := by
  have h := (bits_within op IntKind.u64 a b).1
  have e : IntKind.u64.min = 0 := by decide
  exact ⟨(bits op IntKind.u64 a b).toNat, by omega⟩
theorem and127 (x : Nat) (h : 128 ≤ x) (h' : x < 256) : bits BinOp.and IntKind.u8 (x : Int) 127 = ((x - 128 : Nat) : Int) := by
  have e : ∀ a < 256, 128 ≤ a → a &&& 127 = a - 128 := by decide +kernel
  have := u8_and_nat x 127 h' (by omega)
  rw [e x h' h] at this
  exact this
theorem ret3 {k1 k2 k3 : IntKind} {a b c a' b' c' : Int} (h1 : a = a') (h2 : b = b') (h3 : c = c') : Ending.returned (.tuple #[.int k1 a, .int k2 b, .int k3 c]) = .returned (.tuple #[.int k1 a', .int k2 b', .int k3 c']) := by rw [h1, h2, h3]

set_option maxHeartbeats 1000000 in
set_option maxRecDepth 100000 in
theorem number_any (v : Value) (l : List UInt8) (w : World) (hv : Row w v (bs l)) :
    Calls Try.prog 31 #[v] w fun e w' => e = .returned (.tuple #[.int .u64 (dec l).1, .int .i64 (dec l).2.1, .int .i64 (dec l).2.2]) ∧ w = w' := by
  obtain ⟨a, c, rfl, _⟩ := id hv
  obtain ⟨hn, hl, hm, h1⟩ := hv.bytes
  rw [bs_length] at *
  clear hn hv
  unfold maxLen at hm
  by_cases h10 : l.length ≤ 10
  all_goals
    go_enter Try.func31, Try.ntmps31
    go_wp2
    try rw [show (max (10:Int) 0) = 10 from rfl]
    have H1 := Lib.hid h1
    clear h1
    go_loop [5, 14] (fun n i => ∃ k m : Nat, k ≤ l.length ∧ k ≤ 10 ∧ i = .int .i64 k ∧ n = .int .u64 m ∧ (k < 10 → m < 2 ^ (7 * k) ∧ dec l = decF l (10 - k) k m) ∧ (k = 10 → dec l = (0, 0, 11))) (fun _ i => 10 - (intOf i).toNat)
    case atStart => exact ⟨0, 0, by omega, by omega, rfl, rfl, fun _ => ⟨by simp, rfl⟩, fun h => by omega⟩
    case round =>
      obtain ⟨k, m, hk, hk10, rfl, rfl, hm0, hd⟩ := hrel
      have HD := Lib.hid hd
      by_cases hlt : k < l.length ∧ k < 10
      · obtain ⟨hlt, hlt10⟩ := hlt
        obtain ⟨hm, hdec⟩ := hm0 hlt10
        clear hm0
        obtain ⟨b, off, rfl, hc⟩ := H1.out k (by omega)
        have hx := (l[k]!).toNat_lt
        obtain ⟨f, hf⟩ : ∃ f, 10 - k = f + 1 := ⟨9 - k, by omega⟩
        have hls : l[k]? = some l[k]! := by simp [hlt]
        rw [hf] at hdec
        simp only [decF, hls] at hdec
        generalize l[k]!.toNat = x at hc hx hdec
        have HM := Lib.hid hm
        have HF := Lib.hid hf
        have HX := Lib.hid hdec
        clear hm hdec hd hls hf
        by_cases h128 : x < 128
        · by_cases hbad : (0 < k ∧ x = 0) ∨ (k = 9 ∧ 1 < x)
          · have e : dec l = (0, 0, 11) := by rw [HX.out, if_pos h128, if_pos hbad]
            have E := Lib.hid e
            clear e
            rcases hbad with ⟨h0, rfl⟩ | ⟨rfl, h0⟩
            all_goals
              go_wp2
              go_ret3
              exact ⟨by rw [E.out]; rfl, rfl⟩
          · have e : dec l = (m + x * 2 ^ (7 * k), k + 1, 0) := by rw [HX.out, if_pos h128, if_neg hbad]
            have E := Lib.hid e
            clear e
            by_cases h9 : k = 9
            · subst h9
              obtain rfl : x = 1 := by omega
              go_wp2
              go_ret3
              exact ⟨by rw [E.out]; exact ret3 (or63 m HM.out) rfl rfl, rfl⟩
            · have hx1 : 0 < k → ¬ x = 0 := fun h h' => hbad (.inl ⟨h, h'⟩)
              clear hbad
              have hk9 : ((k : Int) == 9) = false := by simp; omega
              rcases Nat.lt_or_ge 0 k with hk0 | hk0
              · have hx2 := hx1 hk0
                clear hx1
                have hx0 : ((x : Int) == 0) = false := by simp; omega
                go_wp2
                go_ret3
                exact ⟨by rw [E.out]; exact ret3 (or_shift m x k HM.out h128 (by omega)) rfl rfl, rfl⟩
              · clear hx1
                go_wp2
                go_ret3
                exact ⟨by rw [E.out]; exact ret3 (or_shift m x k HM.out h128 (by omega)) rfl rfl, rfl⟩
        · have e : dec l = decF l f (k + 1) (m + (x - 128) * 2 ^ (7 * k)) := by rw [HX.out, if_neg h128]
          have E := Lib.hid e
          clear e
          by_cases h9 : k = 9
          · subst h9
            go_wp2
            go_round
            case rel =>
              obtain ⟨y, hy⟩ := bits_u64 BinOp.or (m : Int) (IntKind.u64.wrap (IntKind.u64.wrap (bits BinOp.and IntKind.u8 (x : Int) 127) * 9223372036854775808))
              refine ⟨10, y, by omega, by omega, rfl, ?_, fun h => by omega, fun _ => ?_⟩
              · exact congrArg (Value.int .u64) hy
              · have hf := HF.out
                obtain rfl : f = 0 := by omega
                rw [E.out]; rfl
            case measure => simp [intOf]
          · go_wp2
            go_round
            case rel =>
              refine ⟨k + 1, m + (x - 128) * 2 ^ (7 * k), by omega, by omega, by go_num, ?_, fun h => ⟨?_, ?_⟩, fun h => by omega⟩
              · rw [and127 x (by omega) (by omega), IntWalk.u64_in ((x - 128 : Nat) : Int) (by omega), or_shift m (x - 128) k HM.out (by omega) (by omega)]
              · have h1 := HM.out
                rw [show 7 * (k + 1) = 7 * k + 7 by omega, Nat.pow_add]
                have h2 : (x - 128) * 2 ^ (7 * k) ≤ 127 * 2 ^ (7 * k) := Nat.mul_le_mul_right _ (by omega)
                omega
              · rw [E.out]; congr 1; have := HF.out; omega
            case measure => simp [intOf]; omega
      · have HM := Lib.hid hm0
        clear hm0 hd
        by_cases h10k : k = 10
        · subst h10k
          go_wp2
          go_ret3
          exact ⟨by rw [HD.out (by first | rfl | trivial)]; rfl, rfl⟩
        · have hkl : k = l.length := by omega
          have e : dec l = (0, 0, 10) := by
            rw [(HM.out (by omega)).2]
            obtain ⟨f, hf⟩ : ∃ f, 10 - k = f + 1 := ⟨9 - k, by omega⟩
            rw [hf]
            simp [decF, hkl]
          have E := Lib.hid e
          clear e
          clear hkl
          go_wp2
          all_goals go_ret3
          all_goals exact ⟨by rw [E.out]; rfl, rfl⟩
end Go.Proofs.Ytemmabjndbdhlaa
