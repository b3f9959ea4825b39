/- package codec, the reader: contracts of the walk -/
import Derived.Test.YtemmabjndbdhlaaCodecTake
namespace Go.Proofs.Ytemmabjndbdhlaa
open Go.ChangeShapes Go.WideShapes Go.ChangeAt Go.RowKit

theorem decF_ok (l : List UInt8) : ∀ k i n, k + i = 10 → n < 2 ^ (7 * i) → (decF l k i n).2.2 = 0 → (decF l k i n).1 < 18446744073709551616 ∧ i < (decF l k i n).2.1 ∧ (decF l k i n).2.1 ≤ l.length ∧ (decF l k i n).2.1 ≤ 10 := by
  intro k
  induction k with
  | zero => intro i n _ _ h; simp [decF] at h
  | succ k ih =>
    intro i n hk hn
    simp only [decF]
    cases hc : l[i]? with
    | none => intro h; simp at h
    | some c =>
      have hil : i < l.length := (List.getElem?_eq_some_iff.1 hc).1
      have hc256 := c.toNat_lt
      simp only []
      split
      · split
        · intro h; simp at h
        · rename_i h128 hbad
          intro _
          refine ⟨?_, by simp, by simp; omega, by simp; omega⟩
          simp only []
          by_cases h9 : i = 9
          · subst h9
            have : c.toNat ≤ 1 := by omega
            have h2 : c.toNat * 2 ^ (7 * 9) ≤ 1 * 2 ^ (7 * 9) := Nat.mul_le_mul_right _ this
            omega
          · have h1 : 2 ^ (7 * i) ≤ 2 ^ 56 := Nat.pow_le_pow_right (by omega) (by omega)
            have h2 : c.toNat * 2 ^ (7 * i) ≤ 127 * 2 ^ 56 := Nat.mul_le_mul (by omega) h1
            omega
      · rename_i h128
        intro h
        have h3 : n + (c.toNat - 128) * 2 ^ (7 * i) < 2 ^ (7 * (i + 1)) := by
          rw [show 7 * (i + 1) = 7 * i + 7 by omega, Nat.pow_add]
          have h2 : (c.toNat - 128) * 2 ^ (7 * i) ≤ 127 * 2 ^ (7 * i) := Nat.mul_le_mul_right _ (by omega)
          omega
        obtain ⟨a, b, c', d⟩ := ih (i + 1) _ (by omega) h3 h
        exact ⟨a, by omega, c', d⟩
theorem dec_ok (l : List UInt8) (h : (dec l).2.2 = 0) : (dec l).1 < 18446744073709551616 ∧ 0 < (dec l).2.1 ∧ (dec l).2.1 ≤ l.length ∧ (dec l).2.1 ≤ 10 :=
  decF_ok l 10 0 0 rfl (by simp) h

def dist (l : List UInt8) (most : Int) : List UInt8 × Nat × Nat :=
  if (dec l).2.2 ≠ 0 then ([], 0, (dec l).2.2)
  else if max most 0 < (dec l).1 then ([], 0, 4)
  else if l.length - (dec l).2.1 < (dec l).1 then ([], 0, 10)
  else ((l.drop (dec l).2.1).take (dec l).1, (dec l).2.1 + (dec l).1, 0)

set_option maxRecDepth 100000 in
theorem text_any (v : Value) (l : List UInt8) (most : Int) (w : World) (hv : Row w v (bs l)) (hmost : most ≤ 9223372036854775807) :
    Calls Try.prog 34 #[v, .int .i64 most] w fun e w' => e = .returned (.tuple #[.string ⟨(dist l most).1.toArray⟩, .int .i64 (dist l most).2.1, .int .i64 (dist l most).2.2]) ∧ w = w' := by
  have hlen := run_lenRow (P := Try.prog) hv 22 5 Try.underlying22
  have hmax := hv.le
  rw [bs_length] at hlen hmax
  unfold maxLen at hmax
  have HV := Lib.hid hv
  clear hv
  go_enter Try.func34, Try.ntmps34
  go_wp2_with fail
  refine (number_any _ l w HV.out).mono ?_
  rintro e w1 ⟨rfl, rfl⟩
  have hok := dec_ok l
  have hD : dist l most = if (dec l).2.2 ≠ 0 then ([], 0, (dec l).2.2) else if max most 0 < ((dec l).1 : Int) then ([], 0, 4) else if l.length - (dec l).2.1 < (dec l).1 then ([], 0, 10) else ((l.drop (dec l).2.1).take (dec l).1, (dec l).2.1 + (dec l).1, 0) := rfl
  generalize (dec l).1 = n at *
  generalize (dec l).2.1 = k at *
  generalize (dec l).2.2 = f at *
  by_cases hf : f = 0
  · obtain ⟨hn64, hk0, hkl, hk10⟩ := hok hf
    rw [if_neg (by simp [hf])] at hD
    have hf0 : ((f : Int) != 0) = false := by simp [hf]
    clear hf hok
    have HN := Lib.hid hn64
    clear hn64
    by_cases h1 : max most 0 < (n : Int)
    · rw [if_pos h1] at hD
      have HD := Lib.hid hD
      clear hD
      have e1 : (if most < 0 then (0 : Int) else most) < (n : Int) := by split <;> omega
      rcases Int.lt_or_le most 0 with h0 | h0
      all_goals
        go_wp2
        go_ret3
        exact ⟨by rw [HD.out]; rfl, rfl⟩
    · rw [if_neg h1] at hD
      by_cases h2 : l.length - k < n
      · rw [if_pos h2] at hD
        have HD := Lib.hid hD
        clear hD
        rcases Int.lt_or_le most 0 with h0 | h0
        all_goals
          go_wp2
          all_goals go_ret3
          all_goals exact ⟨by rw [HD.out]; rfl, rfl⟩
      · rw [if_neg h2] at hD
        have HD := Lib.hid hD
        clear hD
        have hn63 : k + n ≤ l.length := by omega
        have hmx : (n : Int) ≤ max most 0 := by omega
        obtain ⟨v', hrun, hv', _⟩ := run_sub (P := Try.prog) HV.out 22 5 Try.underlying22 (by kernel_rfl) .i64 .i64 k (k + n) k (k + n) rfl (by omega) (by omega) (by rw [bs_length]; omega)
        have hv2 : Row w v' (bs ((l.drop k).take n)) := by simpa [bs, List.map_take, List.map_drop] using hv'
        have hstr := run_str (P := Try.prog) w 22 9 5 v' _ hv2 Try.underlying22 Try.underlying5 Try.underlying9
        clear hv' hv2
        rcases Int.lt_or_le most 0 with h0 | h0
        all_goals
          go_wp2
          go_ret3
          exact ⟨by rw [HD.out]; rfl, rfl⟩
  · rw [if_pos hf] at hD
    have HD := Lib.hid hD
    have hf0 : ((f : Int) != 0) = true := by simp; omega
    clear hD hok hf
    go_wp2
    go_ret3
    exact ⟨by rw [HD.out]; rfl, rfl⟩

def unfix : List UInt8 → Nat
  | [] => 0
  | c :: r => c.toNat + 256 * unfix r
theorem unfix_snoc (l : List UInt8) (c : UInt8) : unfix (l ++ [c]) = unfix l + c.toNat * 256 ^ l.length := by
  induction l with
  | nil => simp [unfix]
  | cons d r ih => simp only [List.cons_append, unfix, ih, List.length_cons, Nat.pow_succ]; rw [Nat.mul_add, Nat.add_assoc]; congr 2; rw [Nat.mul_left_comm, Nat.mul_comm 256]
theorem unfix_lt (l : List UInt8) : unfix l < 256 ^ l.length := by
  induction l with
  | nil => simp [unfix]
  | cons d r ih =>
    have := d.toNat_lt
    simp only [unfix, List.length_cons, Nat.pow_succ]
    omega
/-- the number whose lowest bytes l begins with, so many, and the fault -/
def unfixed (l : List UInt8) (many : Int) : Nat × Nat :=
  if many < 0 ∨ 8 < many then (0, 1) else if (l.length : Int) < many then (0, 10) else (unfix (l.take many.toNat), 0)

theorem or_shift8 (m x k : Nat) (hm : m < 256 ^ k) (hx : x < 256) (hk : k < 8) : bits BinOp.or IntKind.u64 (m : Int) (IntKind.u64.wrap ((x : Int) * 2 ^ (8 * k))) = ((m + x * 256 ^ k : Nat) : Int) := by
  have e0 : 256 ^ k = 2 ^ (8 * k) := by rw [Nat.pow_mul]
  rw [e0] at hm ⊢
  have h1 : 2 ^ (8 * k) ≤ 2 ^ 56 := Nat.pow_le_pow_right (by omega) (by omega)
  have h2 : x * 2 ^ (8 * k) ≤ 255 * 2 ^ 56 := Nat.mul_le_mul (by omega) h1
  have e1 : ((x : Int) * 2 ^ (8 * k)) = ((x * 2 ^ (8 * k) : Nat) : Int) := by push_cast; rfl
  rw [e1, IntWalk.u64_in _ (by omega), u64_or_nat _ _ (by omega) (by omega)]
  have e2 := Nat.two_pow_add_eq_or_of_lt hm x
  rw [Nat.or_comm, Nat.add_comm, Nat.mul_comm x, e2]
theorem ret2 {k1 k2 : IntKind} {a b a' b' : Int} (h1 : a = a') (h2 : b = b') : Ending.returned (.tuple #[.int k1 a, .int k2 b]) = .returned (.tuple #[.int k1 a', .int k2 b']) := by rw [h1, h2]

set_option maxRecDepth 100000 in
theorem fixed_any (v : Value) (l : List UInt8) (many : Int) (w : World) (hv : Row w v (bs l)) :
    Calls Try.prog 35 #[v, .int .i64 many] w fun e w' => e = .returned (.tuple #[.int .u64 (unfixed l many).1, .int .i64 (unfixed l many).2]) ∧ w = w' := by
  have hlen := run_lenRow (P := Try.prog) hv 22 5 Try.underlying22
  have hmax := hv.le
  rw [bs_length] at hlen hmax
  unfold maxLen at hmax
  have HV := Lib.hid hv
  clear hv
  have hU : unfixed l many = if many < 0 ∨ 8 < many then (0, 1) else if (l.length : Int) < many then (0, 10) else (unfix (l.take many.toNat), 0) := rfl
  rcases (show many < 0 ∨ 8 < many ∨ (0 ≤ many ∧ many ≤ 8) by omega) with h | h | ⟨h, h8⟩
  · rw [if_pos (.inl h)] at hU
    have HU := Lib.hid hU
    clear hU
    go_enter Try.func35, Try.ntmps35
    go_wp2
    go_ret2
    exact ⟨by rw [HU.out]; rfl, rfl⟩
  · rw [if_pos (.inr h)] at hU
    have HU := Lib.hid hU
    clear hU
    go_enter Try.func35, Try.ntmps35
    go_wp2
    go_ret2
    exact ⟨by rw [HU.out]; rfl, rfl⟩
  · rw [if_neg (by omega)] at hU
    obtain ⟨m, rfl⟩ := Int.eq_ofNat_of_zero_le h
    rw [Int.toNat_natCast] at hU
    by_cases hs : l.length < m
    · rw [if_pos (by omega)] at hU
      have HU := Lib.hid hU
      clear hU
      go_enter Try.func35, Try.ntmps35
      go_wp2
      go_ret2
      exact ⟨by rw [HU.out]; rfl, rfl⟩
    · rw [if_neg (by omega)] at hU
      have HU := Lib.hid hU
      clear hU
      obtain ⟨v', hrun, hv', _⟩ := run_subHi (P := Try.prog) HV.out 22 5 Try.underlying22 (by kernel_rfl) .i64 m m rfl (by rw [bs_length]; omega)
      have hv2 : Row w v' (bs (l.take m)) := by simpa [bs, List.map_take] using hv'
      clear hv'
      obtain ⟨a, c, rfl, -⟩ := id hv2
      have hl2 : (l.take m).length = m := by simp; omega
      rw [bs_length, hl2] at hv2 hrun
      obtain ⟨-, -, -, hc⟩ := hv2.bytes
      rw [hl2] at hc
      have HC := Lib.hid hc
      have HL := Lib.hid hl2
      have hm8 : m ≤ 8 := by omega
      have hml : m ≤ l.length := by omega
      clear hc hv2 hl2 h h8 hs
      go_enter Try.func35, Try.ntmps35
      go_wp2
      go_loop [6, 23] (fun n i => ∃ k q : Nat, k ≤ m ∧ i = .int .i64 k ∧ n = .int .u64 q ∧ q = unfix ((l.take m).take k)) (fun _ i => m - (intOf i).toNat)
      case atStart => exact ⟨0, 0, Nat.zero_le _, rfl, rfl, rfl⟩
      case round =>
        obtain ⟨k, q, hk, rfl, rfl, hq⟩ := hrel
        have HQ := Lib.hid hq
        clear hq
        by_cases hlt : k < m
        · obtain ⟨b, off, rfl, hcell⟩ := HC.out k hlt
          have hx := ((l.take m)[k]!).toNat_lt
          obtain ⟨x, hxe⟩ : ∃ x, x = ((l.take m)[k]!).toNat := ⟨_, rfl⟩
          rw [← hxe] at hcell hx
          have HX := Lib.hid hxe
          clear hxe
          go_wp2
          go_round
          case rel =>
            have hkl : k < (l.take m).length := by rw [HL.out]; exact hlt
            refine ⟨k + 1, q + x * 256 ^ k, by omega, by go_num, ?_, ?_⟩
            · rw [or_shift8 q x k (by rw [HQ.out]; have := unfix_lt ((l.take m).take k); rwa [List.length_take_of_le (by omega)] at this) (by omega) (by omega)]
            · rw [List.take_succ_eq_append_getElem hkl, unfix_snoc, List.length_take_of_le (by omega), HQ.out, HX.out, getElem!_pos (l.take m) k hkl]
          case measure => simp [intOf]; omega
        · go_wp2
          go_ret2
          obtain rfl : k = m := by omega
          have e : q = unfix (l.take k) := by rw [HQ.out, List.take_of_length_le (by rw [HL.out]; exact Nat.le_refl _)]
          exact ⟨by rw [HU.out, e]; rfl, rfl⟩

/-- a reader at block b: what is left, and its fault; O: the blocks that are its own -/
def Rd (O : Nat → Prop) (w : World) (b : Nat) (l : List UInt8) (f : Nat) : Prop :=
  O b ∧ b < w.heap.size ∧ ∃ v, w.heap[b]? = some (.cells #[v, .int .i64 f] 58 (0, 0)) ∧ Row w v (bs l) ∧ Off (One b) v ∧ Off (fun k => ¬ O k) v

theorem block_cells {w : World} {b e : Nat} {c : Array Value} (h : w.heap[b]? = some (.cells c e (0, 0))) (j : Nat) : w.cell? ⟨b, j, none⟩ = c[j]? ∧ w.frozen? ⟨b, j, none⟩ = false := by
  constructor
  · simp [World.cell?, h]
  · simp [World.frozen?, h]

theorem Rd.cells {O : Nat → Prop} {w : World} {b : Nat} {l : List UInt8} {f : Nat} (h : Rd O w b l f) :
    ∃ v, w.cell? ⟨b, 0, none⟩ = some v ∧ w.cell? ⟨b, 1, none⟩ = some (.int .i64 f) ∧ w.frozen? ⟨b, 0, none⟩ = false ∧ w.frozen? ⟨b, 1, none⟩ = false ∧ Row w v (bs l) ∧ Off (One b) v ∧ Off (fun k => ¬ O k) v := by
  obtain ⟨-, -, v, h1, h2, h3, h4⟩ := h
  exact ⟨v, (block_cells h1 0).1, (block_cells h1 1).1, (block_cells h1 0).2, (block_cells h1 1).2, h2, h3, h4⟩

theorem Rd.frame {O S : Nat → Prop} {w w' : World} {b : Nat} {l : List UInt8} {f : Nat} (h : Rd O w b l f) (hf : Fr S w w') (hs : ∀ k, O k → ¬ S k) : Rd O w' b l f := by
  obtain ⟨h0, hb, v, h1, h2, h3, h4⟩ := h
  refine ⟨h0, Nat.lt_of_lt_of_le hb hf.size, v, hf.heap h1 (hs b h0), h2.frame hf (fun b off n c e hS => ?_), h3, h4⟩
  exact h4 b off n c e (fun hO => hs b hO hS)
theorem Rd.non {O : Nat → Prop} {w w' : World} {b : Nat} {l : List UInt8} {f : Nat} (h : Rd O w b l f) (hf : Fr Non w w') : Rd O w' b l f := h.frame hf (fun _ _ h => h)
/-- the blocks from lo on, below hi -/
def Rng (lo hi : Nat) : Nat → Prop := fun k => lo ≤ k ∧ k < hi

theorem New_any (v : Value) (l : List UInt8) (w : World) (hv : Row w v (bs l)) (hl : l.length ≤ 281474976710656) :
    Calls Try.prog 16 #[v] w fun e w' => ∃ b, e = .returned (.pointer (some ⟨b, 0, none⟩)) ∧ w.heap.size ≤ b ∧ Rd (Rng w.heap.size w'.heap.size) w' b l 0 ∧ Fr Non w w' := by
  go_enter Try.func16, Try.ntmps16
  go_wp2_with fail
  refine (grown_any v l 0 w hv (by omega)).mono ?_
  rintro e w1 ⟨rfl, hown, hfr⟩
  have hlt := (Own.lt hown w.heap.size rfl).2
  go_wp2_with fail
  go_ret
  refine ⟨_, rfl, hfr.size, ⟨⟨hfr.size, by simp⟩, by simp, _, heap_alloc_new w1 _, (Own.row hown).non (Fr.alloc _ _), fun b off n c e hb => ?_, fun b off n c e hb => ?_⟩, hfr.non (Fr.alloc _ _)⟩
  · injection e with e1 _ _
    injection e1 with e2
    injection e2 with e3 _ _
    have : b = w1.heap.size := hb
    omega
  · injection e with e1 _ _
    injection e1 with e2
    injection e2 with e3 _ _
    exact hb ⟨by omega, by simp; omega⟩

theorem stuck_any (O : Nat → Prop) (b : Nat) (f : Nat) (w : World) (l : List UInt8) (h : Rd O w b l f) :
    Calls Try.prog 30 #[.pointer (some ⟨b, 0, none⟩)] w fun e w' => e = .returned (.bool ((f : Int) != 0)) ∧ w = w' := by
  obtain ⟨v, h0, h1, -, -, -, -⟩ := h.cells
  clear h
  go_enter Try.func30, Try.ntmps30
  go_wp2
  go_ret
  exact ⟨rfl, rfl⟩
theorem stuck_nil (w : World) : Calls Try.prog 30 #[.pointer none] w fun e w' => e = .returned (.bool true) ∧ w = w' := by
  go_enter Try.func30, Try.ntmps30
  go_wp2
  go_ret
  exact ⟨rfl, rfl⟩
theorem Left_nil (w : World) : Calls Try.prog 23 #[.pointer none] w fun e w' => e = .returned (.int .i64 0) ∧ w = w' := by
  go_enter Try.func23, Try.ntmps23
  go_wp2
  go_ret
  exact ⟨rfl, rfl⟩
theorem Fault_nil (w : World) : Calls Try.prog 24 #[.pointer none] w fun e w' => e = .returned (.int .i64 0) ∧ w = w' := by
  go_enter Try.func24, Try.ntmps24
  go_wp2
  go_ret
  exact ⟨rfl, rfl⟩
theorem Left_any (O : Nat → Prop) (b : Nat) (f : Nat) (w : World) (l : List UInt8) (h : Rd O w b l f) :
    Calls Try.prog 23 #[.pointer (some ⟨b, 0, none⟩)] w fun e w' => e = .returned (.int .i64 l.length) ∧ w = w' := by
  obtain ⟨v, h0, h1, -, -, h2, -⟩ := h.cells
  have hlen := run_lenRow (P := Try.prog) h2 22 5 Try.underlying22
  rw [bs_length] at hlen
  clear h h2
  go_enter Try.func23, Try.ntmps23
  go_wp2
  go_ret
  exact ⟨rfl, rfl⟩
theorem Fault_any (O : Nat → Prop) (b : Nat) (f : Nat) (w : World) (l : List UInt8) (h : Rd O w b l f) :
    Calls Try.prog 24 #[.pointer (some ⟨b, 0, none⟩)] w fun e w' => e = .returned (.int .i64 f) ∧ w = w' := by
  obtain ⟨v, h0, h1, -, -, -, -⟩ := h.cells
  clear h
  go_enter Try.func24, Try.ntmps24
  go_wp2
  go_ret
  exact ⟨rfl, rfl⟩
/-- the fault, or that bytes are left -/
def endOf (l : List UInt8) (f : Nat) : Nat := if f = 0 ∧ 0 < l.length then 12 else f
theorem End_nil (w : World) : Calls Try.prog 25 #[.pointer none] w fun e w' => e = .returned (.int .i64 0) ∧ w = w' := by
  go_enter Try.func25, Try.ntmps25
  go_wp2_with (first | (go_at_call 24; refine (Fault_nil _).mono ?_; rintro e w' ⟨rfl, rfl⟩) | (go_at_call 23; refine (Left_nil _).mono ?_; rintro e w' ⟨rfl, rfl⟩))
  go_ret
  exact ⟨rfl, rfl⟩
theorem End_any (O : Nat → Prop) (b : Nat) (f : Nat) (w : World) (l : List UInt8) (h : Rd O w b l f) :
    Calls Try.prog 25 #[.pointer (some ⟨b, 0, none⟩)] w fun e w' => e = .returned (.int .i64 (endOf l f)) ∧ w = w' := by
  have H := Lib.hid h
  have E : Hid (endOf l f = if f = 0 ∧ 0 < l.length then 12 else f) := rfl
  clear h
  by_cases hf : f = 0
  · subst hf
    by_cases hl : 0 < l.length
    · go_enter Try.func25, Try.ntmps25
      go_wp2_with (first | (go_at_call 24; refine (Fault_any O _ _ _ _ H.out).mono ?_; rintro e w' ⟨rfl, rfl⟩) | (go_at_call 23; refine (Left_any O _ _ _ _ H.out).mono ?_; rintro e w' ⟨rfl, rfl⟩))
      go_ret
      exact ⟨by rw [E.out, if_pos ⟨by first | rfl | trivial, hl⟩]; rfl, rfl⟩
    · go_enter Try.func25, Try.ntmps25
      go_wp2_with (first | (go_at_call 24; refine (Fault_any O _ _ _ _ H.out).mono ?_; rintro e w' ⟨rfl, rfl⟩) | (go_at_call 23; refine (Left_any O _ _ _ _ H.out).mono ?_; rintro e w' ⟨rfl, rfl⟩))
      go_ret
      exact ⟨by rw [E.out, if_neg (by omega)]; rfl, rfl⟩
  · have hf0 : ((f : Int) == 0) = false := by simp; omega
    have e : endOf l f = f := by rw [E.out, if_neg (by omega)]
    have E2 := Lib.hid e
    clear e hf
    go_enter Try.func25, Try.ntmps25
    go_wp2_with (first | (go_at_call 24; refine (Fault_any O _ _ _ _ H.out).mono ?_; rintro e w' ⟨rfl, rfl⟩) | (go_at_call 23; refine (Left_any O _ _ _ _ H.out).mono ?_; rintro e w' ⟨rfl, rfl⟩))
    go_ret
    exact ⟨by rw [E2.out]; rfl, rfl⟩

theorem block_setCell {w : World} {b e : Nat} {c : Array Value} {fr : Nat × Nat} (h : w.heap[b]? = some (.cells c e fr)) (j : Nat) (u : Value) :
    (w.setCell ⟨b, j, none⟩ u).heap[b]? = some (.cells (c.setIfInBounds j u) e fr) := by
  simp [World.setCell, Array.getElem?_modify, h]

theorem pass_any (O : Nat → Prop) (b : Nat) (f : Nat) (many : Int) (fault : Nat) (w : World) (l : List UInt8) (h : Rd O w b l f) (hm : fault = 0 → 0 ≤ many ∧ many ≤ l.length) :
    Calls Try.prog 32 #[.pointer (some ⟨b, 0, none⟩), .int .i64 many, .int .i64 fault] w fun e w' => e = .returned (.tuple #[]) ∧ Rd O w' b (if fault = 0 then l.drop many.toNat else l) fault ∧ Fr (One b) w w' := by
  obtain ⟨hO, hb, v, hblk, hrow, hoff, hofO⟩ := h
  have c0 := (block_cells hblk 0).1
  have c1 := (block_cells hblk 1).1
  have f0 := (block_cells hblk 0).2
  have f1 := (block_cells hblk 1).2
  have c0' : w.cell? ⟨b, 0, none⟩ = some v := c0
  have c1' : w.cell? ⟨b, 1, none⟩ = some (.int .i64 f) := c1
  have hb1 := block_setCell hblk 1 (.int .i64 fault)
  have HB := Lib.hid hb1
  clear c0 c1 hb1 hblk
  by_cases hf : fault = 0
  · subst hf
    obtain ⟨m0, hm'⟩ := hm rfl
    obtain ⟨many, rfl⟩ := Int.eq_ofNat_of_zero_le m0
    rw [Int.toNat_natCast]
    obtain ⟨v', hrun, hv', hoff'⟩ := run_subLo (P := Try.prog) hrow 22 5 Try.underlying22 (by kernel_rfl) .i64 many many rfl (by rw [bs_length]; omega)
    have hv2 : Row w v' (bs (l.drop many)) := by simpa [bs, List.map_drop] using hv'
    obtain ⟨a', c', rfl, -⟩ := id hv2
    have HV := Lib.hid hv2
    have HR := Lib.hid hrow
    have HO := Lib.hid hoff'
    clear hv' hv2 hrow hoff' hm
    go_enter Try.func32, Try.ntmps32
    go_wp2
    go_end0
    refine ⟨rfl, ⟨hO, by simp [World.setCell]; exact hb, _, ?_, ?_, HO.out _ hoff, HO.out _ hofO⟩, ?_⟩
    · exact block_setCell HB.out 0 _
    · exact (HV.out.frame (Fr.setCell w ⟨b, 1, none⟩ _) (HO.out _ hoff)).frame (Fr.setCell _ ⟨b, 0, none⟩ _) (HO.out _ hoff)
    · exact (Fr.setCell w ⟨b, 1, none⟩ _).trans (Fr.setCell _ ⟨b, 0, none⟩ _) (fun _ h => h) (fun _ h => .inl h)
  · have hf0 : ((fault : Int) == 0) = false := by simp; omega
    have HR := Lib.hid hrow
    have HF := Lib.hid hf
    clear hrow hm hf
    go_enter Try.func32, Try.ntmps32
    go_wp2
    go_end0
    exact ⟨rfl, ⟨hO, by simp [World.setCell]; exact hb, v, HB.out, HR.out.frame (Fr.setCell w ⟨b, 1, none⟩ _) hoff, hoff, hofO⟩, Fr.setCell w ⟨b, 1, none⟩ _⟩

theorem dist_ok (l : List UInt8) (most : Int) (h : (dist l most).2.2 = 0) : (dist l most).2.1 ≤ l.length := by
  unfold dist at *
  by_cases h1 : (dec l).2.2 = 0
  · have := dec_ok l h1
    rw [if_neg (by simp [h1])] at *
    split at h
    · simp at h
    · rename_i h2
      rw [if_neg h2]
      split at h
      · simp at h
      · rename_i h3
        rw [if_neg h3]
        simp only []
        omega
  · rw [if_pos h1] at h
    exact absurd h h1
theorem unfixed_ok (l : List UInt8) (many : Int) (h : (unfixed l many).2 = 0) : many ≤ l.length ∧ 0 ≤ many ∧ many ≤ 8 := by
  unfold unfixed at h
  split at h
  · simp at h
  · split at h
    · simp at h
    · omega
/-- what taking a number answers and leaves -/
def takeNum (l : List UInt8) (f : Nat) : Nat × List UInt8 × Nat := if f = 0 then ((dec l).1, if (dec l).2.2 = 0 then l.drop (dec l).2.1 else l, (dec l).2.2) else (0, l, f)
def takeStr (l : List UInt8) (f : Nat) (most : Int) : List UInt8 × List UInt8 × Nat := if f = 0 then ((dist l most).1, if (dist l most).2.2 = 0 then l.drop (dist l most).2.1 else l, (dist l most).2.2) else ([], l, f)
def takeFix (l : List UInt8) (f : Nat) (many : Int) : Nat × List UInt8 × Nat := if f = 0 then ((unfixed l many).1, if (unfixed l many).2 = 0 then l.drop many.toNat else l, (unfixed l many).2) else (0, l, f)

theorem rNum_any (O : Nat → Prop) (b : Nat) (f : Nat) (w : World) (l : List UInt8) (h : Rd O w b l f) :
    Calls Try.prog 17 #[.pointer (some ⟨b, 0, none⟩)] w fun e w' => e = .returned (.int .u64 (takeNum l f).1) ∧ Rd O w' b (takeNum l f).2.1 (takeNum l f).2.2 ∧ Fr (One b) w w' := by
  obtain ⟨v, h0, -, -, -, hrow, -⟩ := h.cells
  have H := Lib.hid h
  have HR := Lib.hid hrow
  clear h hrow
  by_cases hf : f = 0
  · have E : takeNum l f = ((dec l).1, if (dec l).2.2 = 0 then l.drop (dec l).2.1 else l, (dec l).2.2) := if_pos hf
    have HE := Lib.hid E
    have hf0 : ((f : Int) != 0) = false := by simp [hf]
    clear E hf
    go_enter Try.func17, Try.ntmps17
    go_wp2_with (first | (go_at_call 30; refine (stuck_any O _ _ _ _ H.out).mono ?_; rintro e w' ⟨rfl, rfl⟩) | (go_at_call 31; refine (number_any _ l w HR.out).mono ?_; rintro e w' ⟨rfl, rfl⟩) | fail)
    refine (pass_any O b f (dec l).2.1 (dec l).2.2 w l H.out (fun h => by have := dec_ok l h; omega)).mono ?_
    rw [Int.toNat_natCast]
    rintro e w' ⟨rfl, hrd, hfr⟩
    go_wp2
    go_ret
    rw [HE.out]
    exact ⟨rfl, hrd, hfr⟩
  · have E : takeNum l f = (0, l, f) := if_neg hf
    have HE := Lib.hid E
    have hf0 : ((f : Int) != 0) = true := by simp; omega
    clear E hf
    go_enter Try.func17, Try.ntmps17
    go_wp2_with (go_at_call 30; refine (stuck_any O _ _ _ _ H.out).mono ?_; rintro e w' ⟨rfl, rfl⟩)
    go_ret
    rw [HE.out]
    exact ⟨rfl, H.out, Fr.refl _ _⟩

theorem rStr_any (O : Nat → Prop) (b : Nat) (f : Nat) (w : World) (l : List UInt8) (most : Int) (h : Rd O w b l f) (hmost : most ≤ 9223372036854775807) :
    Calls Try.prog 19 #[.pointer (some ⟨b, 0, none⟩), .int .i64 most] w fun e w' => e = .returned (.string ⟨(takeStr l f most).1.toArray⟩) ∧ Rd O w' b (takeStr l f most).2.1 (takeStr l f most).2.2 ∧ Fr (One b) w w' := by
  obtain ⟨v, h0, -, -, -, hrow, -⟩ := h.cells
  have H := Lib.hid h
  have HR := Lib.hid hrow
  clear h hrow
  by_cases hf : f = 0
  · have E : takeStr l f most = ((dist l most).1, if (dist l most).2.2 = 0 then l.drop (dist l most).2.1 else l, (dist l most).2.2) := if_pos hf
    have HE := Lib.hid E
    have hf0 : ((f : Int) != 0) = false := by simp [hf]
    clear E hf
    go_enter Try.func19, Try.ntmps19
    go_wp2_with (first | (go_at_call 30; refine (stuck_any O _ _ _ _ H.out).mono ?_; rintro e w' ⟨rfl, rfl⟩) | (go_at_call 34; refine (text_any _ l most w HR.out hmost).mono ?_; rintro e w' ⟨rfl, rfl⟩) | fail)
    refine (pass_any O b f (dist l most).2.1 (dist l most).2.2 w l H.out (fun h => by have := dist_ok l most h; omega)).mono ?_
    rw [Int.toNat_natCast]
    rintro e w' ⟨rfl, hrd, hfr⟩
    go_wp2
    go_ret
    rw [HE.out]
    exact ⟨rfl, hrd, hfr⟩
  · have E : takeStr l f most = ([], l, f) := if_neg hf
    have HE := Lib.hid E
    have hf0 : ((f : Int) != 0) = true := by simp; omega
    clear E hf
    go_enter Try.func19, Try.ntmps19
    go_wp2_with (go_at_call 30; refine (stuck_any O _ _ _ _ H.out).mono ?_; rintro e w' ⟨rfl, rfl⟩)
    go_ret
    rw [HE.out]
    exact ⟨rfl, H.out, Fr.refl _ _⟩

theorem rFix_any (O : Nat → Prop) (b : Nat) (f : Nat) (w : World) (l : List UInt8) (many : Int) (h : Rd O w b l f) :
    Calls Try.prog 21 #[.pointer (some ⟨b, 0, none⟩), .int .i64 many] w fun e w' => e = .returned (.int .u64 (takeFix l f many).1) ∧ Rd O w' b (takeFix l f many).2.1 (takeFix l f many).2.2 ∧ Fr (One b) w w' := by
  obtain ⟨v, h0, -, -, -, hrow, -⟩ := h.cells
  have H := Lib.hid h
  have HR := Lib.hid hrow
  clear h hrow
  by_cases hf : f = 0
  · have E : takeFix l f many = ((unfixed l many).1, if (unfixed l many).2 = 0 then l.drop many.toNat else l, (unfixed l many).2) := if_pos hf
    have HE := Lib.hid E
    have hf0 : ((f : Int) != 0) = false := by simp [hf]
    clear E hf
    go_enter Try.func21, Try.ntmps21
    go_wp2_with (first | (go_at_call 30; refine (stuck_any O _ _ _ _ H.out).mono ?_; rintro e w' ⟨rfl, rfl⟩) | (go_at_call 35; refine (fixed_any _ l many w HR.out).mono ?_; rintro e w' ⟨rfl, rfl⟩) | fail)
    refine (pass_any O b f many (unfixed l many).2 w l H.out (fun h => by have := unfixed_ok l many h; omega)).mono ?_
    rintro e w' ⟨rfl, hrd, hfr⟩
    go_wp2
    go_ret
    rw [HE.out]
    exact ⟨rfl, hrd, hfr⟩
  · have E : takeFix l f many = (0, l, f) := if_neg hf
    have HE := Lib.hid E
    have hf0 : ((f : Int) != 0) = true := by simp; omega
    clear E hf
    go_enter Try.func21, Try.ntmps21
    go_wp2_with (go_at_call 30; refine (stuck_any O _ _ _ _ H.out).mono ?_; rintro e w' ⟨rfl, rfl⟩)
    go_ret
    rw [HE.out]
    exact ⟨rfl, H.out, Fr.refl _ _⟩

theorem rNum_nil (w : World) : Calls Try.prog 17 #[.pointer none] w fun e w' => e = .returned (.int .u64 0) ∧ w = w' := by
  go_enter Try.func17, Try.ntmps17
  go_wp2_with (go_at_call 30; refine (stuck_nil _).mono ?_; rintro e w' ⟨rfl, rfl⟩)
  go_ret
  exact ⟨rfl, rfl⟩
theorem rStr_nil (most : Int) (w : World) : Calls Try.prog 19 #[.pointer none, .int .i64 most] w fun e w' => e = .returned (.string ⟨#[]⟩) ∧ w = w' := by
  go_enter Try.func19, Try.ntmps19
  go_wp2_with (go_at_call 30; refine (stuck_nil _).mono ?_; rintro e w' ⟨rfl, rfl⟩)
  go_ret
  exact ⟨rfl, rfl⟩
theorem rFix_nil (many : Int) (w : World) : Calls Try.prog 21 #[.pointer none, .int .i64 many] w fun e w' => e = .returned (.int .u64 0) ∧ w = w' := by
  go_enter Try.func21, Try.ntmps21
  go_wp2_with (go_at_call 30; refine (stuck_nil _).mono ?_; rintro e w' ⟨rfl, rfl⟩)
  go_ret
  exact ⟨rfl, rfl⟩
end Go.Proofs.Ytemmabjndbdhlaa
