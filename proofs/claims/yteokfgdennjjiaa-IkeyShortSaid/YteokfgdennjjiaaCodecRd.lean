/- package codec, the reader and its fixed numbers: contracts of the walk -/
import Derived.Test.YteokfgdennjjiaaCodecFix
namespace Go.Proofs.Yteokfgdennjjiaa
open Go.ChangeShapes Go.WideShapes Go.ChangeAt Go.RowKit

/-- the number whose lowest bytes l begins with, so many, and the fault -/
def unfixed (l : List UInt8) (many : Int) : Nat × Nat :=
  if many < 0 ∨ 8 < many then (0, 1) else if (l.length : Int) < many then (0, 10) else (unfix (l.take many.toNat), 0)

theorem or_shift8 (m x k : Nat) (hm : m < 256 ^ k) (hx : x < 256) (hk : k < 8) : bits BinOp.or IntKind.u64 (m : Int) (IntKind.u64.wrap ((x : Int) * 2 ^ (8 * k))) = ((m + x * 256 ^ k : Nat) : Int) := by
  have e0 : 256 ^ k = 2 ^ (8 * k) := by rw [Nat.pow_mul]
  rw [e0] at hm ⊢
  have h1 : 2 ^ (8 * k) ≤ 2 ^ 56 := Nat.pow_le_pow_right (by omega) (by omega)
  have h2 : x * 2 ^ (8 * k) ≤ 255 * 2 ^ 56 := Nat.mul_le_mul (by omega) h1
  have e1 : ((x : Int) * 2 ^ (8 * k)) = ((x * 2 ^ (8 * k) : Nat) : Int) := by push_cast; rfl
  rw [e1, IntWalk.u64_in _ (by omega), u64_or_nat _ _ (by omega) (by omega)]
  have e2 := Nat.two_pow_add_eq_or_of_lt hm x
  rw [Nat.or_comm, Nat.add_comm, Nat.mul_comm x, e2]
theorem ret2 {k1 k2 : IntKind} {a b a' b' : Int} (h1 : a = a') (h2 : b = b') : Ending.returned (.tuple #[.int k1 a, .int k2 b]) = .returned (.tuple #[.int k1 a', .int k2 b']) := by rw [h1, h2]

set_option maxRecDepth 100000 in
theorem fixed_any (v : Value) (l : List UInt8) (many : Int) (w : World) (hv : Row w v (bs l)) :
    Calls Try.prog 42 #[v, .int .i64 many] w fun e w' => e = .returned (.tuple #[.int .u64 (unfixed l many).1, .int .i64 (unfixed l many).2]) ∧ w = w' := by
  have hlen := run_lenRow (P := Try.prog) hv 43 5 Try.underlying43
  have hmax := hv.le
  rw [bs_length] at hlen hmax
  unfold maxLen at hmax
  have HV := Lib.hid hv
  clear hv
  have hU : unfixed l many = if many < 0 ∨ 8 < many then (0, 1) else if (l.length : Int) < many then (0, 10) else (unfix (l.take many.toNat), 0) := rfl
  rcases (show many < 0 ∨ 8 < many ∨ (0 ≤ many ∧ many ≤ 8) by omega) with h | h | ⟨h, h8⟩
  · rw [if_pos (.inl h)] at hU
    have HU := Lib.hid hU
    clear hU
    go_enter Try.func42, Try.ntmps42
    go_wp2
    go_ret2
    exact ⟨by rw [HU.out]; rfl, rfl⟩
  · rw [if_pos (.inr h)] at hU
    have HU := Lib.hid hU
    clear hU
    go_enter Try.func42, Try.ntmps42
    go_wp2
    go_ret2
    exact ⟨by rw [HU.out]; rfl, rfl⟩
  · rw [if_neg (by omega)] at hU
    obtain ⟨m, rfl⟩ := Int.eq_ofNat_of_zero_le h
    rw [Int.toNat_natCast] at hU
    by_cases hs : l.length < m
    · rw [if_pos (by omega)] at hU
      have HU := Lib.hid hU
      clear hU
      go_enter Try.func42, Try.ntmps42
      go_wp2
      go_ret2
      exact ⟨by rw [HU.out]; rfl, rfl⟩
    · rw [if_neg (by omega)] at hU
      have HU := Lib.hid hU
      clear hU
      obtain ⟨v', hrun, hv', _⟩ := run_subHi (P := Try.prog) HV.out 43 5 Try.underlying43 (by kernel_rfl) .i64 m m rfl (by rw [bs_length]; omega)
      have hv2 : Row w v' (bs (l.take m)) := by simpa [bs, List.map_take] using hv'
      clear hv'
      obtain ⟨a, c, rfl, -⟩ := id hv2
      have hl2 : (l.take m).length = m := by simp; omega
      rw [bs_length, hl2] at hv2 hrun
      obtain ⟨-, -, -, hc⟩ := hv2.bytes
      rw [hl2] at hc
      have HC := Lib.hid hc
      have HL := Lib.hid hl2
      have hm8 : m ≤ 8 := by omega
      have hml : m ≤ l.length := by omega
      clear hc hv2 hl2 h h8 hs
      go_enter Try.func42, Try.ntmps42
      go_wp2
      go_loop [6, 23] (fun n i => ∃ k q : Nat, k ≤ m ∧ i = .int .i64 k ∧ n = .int .u64 q ∧ q = unfix ((l.take m).take k)) (fun _ i => m - (intOf i).toNat)
      case atStart => exact ⟨0, 0, Nat.zero_le _, rfl, rfl, rfl⟩
      case round =>
        obtain ⟨k, q, hk, rfl, rfl, hq⟩ := hrel
        have HQ := Lib.hid hq
        clear hq
        by_cases hlt : k < m
        · obtain ⟨b, off, rfl, hcell⟩ := HC.out k hlt
          have hx := ((l.take m)[k]!).toNat_lt
          obtain ⟨x, hxe⟩ : ∃ x, x = ((l.take m)[k]!).toNat := ⟨_, rfl⟩
          rw [← hxe] at hcell hx
          have HX := Lib.hid hxe
          clear hxe
          go_wp2
          go_round
          case rel =>
            have hkl : k < (l.take m).length := by rw [HL.out]; exact hlt
            refine ⟨k + 1, q + x * 256 ^ k, by omega, by go_num, ?_, ?_⟩
            · rw [or_shift8 q x k (by rw [HQ.out]; have := unfix_lt ((l.take m).take k); rwa [List.length_take_of_le (by omega)] at this) (by omega) (by omega)]
            · rw [List.take_succ_eq_append_getElem hkl, unfix_snoc, List.length_take_of_le (by omega), HQ.out, HX.out, getElem!_pos (l.take m) k hkl]
          case measure => simp [intOf]; omega
        · go_wp2
          go_ret2
          obtain rfl : k = m := by omega
          have e : q = unfix (l.take k) := by rw [HQ.out, List.take_of_length_le (by rw [HL.out]; exact Nat.le_refl _)]
          exact ⟨by rw [HU.out, e]; rfl, rfl⟩

/-- a reader at block b: what is left, and its fault; O: the blocks that are its own -/
def Rd (O : Nat → Prop) (w : World) (b : Nat) (l : List UInt8) (f : Nat) : Prop :=
  O b ∧ b < w.heap.size ∧ ∃ v, w.heap[b]? = some (.cells #[v, .int .i64 f] 59 (0, 0)) ∧ Row w v (bs l) ∧ Off (One b) v ∧ Off (fun k => ¬ O k) v

theorem Rd.cells {O : Nat → Prop} {w : World} {b : Nat} {l : List UInt8} {f : Nat} (h : Rd O w b l f) :
    ∃ v, w.cell? ⟨b, 0, none⟩ = some v ∧ w.cell? ⟨b, 1, none⟩ = some (.int .i64 f) ∧ w.frozen? ⟨b, 0, none⟩ = false ∧ w.frozen? ⟨b, 1, none⟩ = false ∧ Row w v (bs l) ∧ Off (One b) v ∧ Off (fun k => ¬ O k) v := by
  obtain ⟨-, -, v, h1, h2, h3, h4⟩ := h
  exact ⟨v, (block_cells h1 0).1, (block_cells h1 1).1, (block_cells h1 0).2, (block_cells h1 1).2, h2, h3, h4⟩

theorem Rd.frame {O S : Nat → Prop} {w w' : World} {b : Nat} {l : List UInt8} {f : Nat} (h : Rd O w b l f) (hf : Fr S w w') (hs : ∀ k, O k → ¬ S k) : Rd O w' b l f := by
  obtain ⟨h0, hb, v, h1, h2, h3, h4⟩ := h
  refine ⟨h0, Nat.lt_of_lt_of_le hb hf.size, v, hf.heap h1 (hs b h0), h2.frame hf (fun b off n c e hS => ?_), h3, h4⟩
  exact h4 b off n c e (fun hO => hs b hO hS)
theorem Rd.non {O : Nat → Prop} {w w' : World} {b : Nat} {l : List UInt8} {f : Nat} (h : Rd O w b l f) (hf : Fr Non w w') : Rd O w' b l f := h.frame hf (fun _ _ h => h)
/-- the blocks from lo on, below hi -/
def Rng (lo hi : Nat) : Nat → Prop := fun k => lo ≤ k ∧ k < hi

theorem New_any (v : Value) (l : List UInt8) (w : World) (hv : Row w v (bs l)) (hl : l.length ≤ 281474976710656) :
    Calls Try.prog 30 #[v] w fun e w' => ∃ b, e = .returned (.pointer (some ⟨b, 0, none⟩)) ∧ w.heap.size ≤ b ∧ Rd (Rng w.heap.size w'.heap.size) w' b l 0 ∧ Fr Non w w' := by
  go_enter Try.func30, Try.ntmps30
  go_wp2_with fail
  refine (grown_any v l 0 w hv (by omega)).mono ?_
  rintro e w1 ⟨rfl, hown, hfr⟩
  have hlt := (Own.lt hown w.heap.size rfl).2
  go_wp2_with fail
  go_ret
  refine ⟨_, rfl, hfr.size, ⟨⟨hfr.size, by simp⟩, by simp, _, heap_alloc_new w1 _, (Own.row hown).non (Fr.alloc _ _), fun b off n c e hb => ?_, fun b off n c e hb => ?_⟩, hfr.non (Fr.alloc _ _)⟩
  · injection e with e1 _ _
    injection e1 with e2
    injection e2 with e3 _ _
    have : b = w1.heap.size := hb
    omega
  · injection e with e1 _ _
    injection e1 with e2
    injection e2 with e3 _ _
    exact hb ⟨by omega, by simp; omega⟩

theorem stuck_any (O : Nat → Prop) (b : Nat) (f : Nat) (w : World) (l : List UInt8) (h : Rd O w b l f) :
    Calls Try.prog 41 #[.pointer (some ⟨b, 0, none⟩)] w fun e w' => e = .returned (.bool ((f : Int) != 0)) ∧ w = w' := by
  obtain ⟨v, h0, h1, -, -, -, -⟩ := h.cells
  clear h
  go_enter Try.func41, Try.ntmps41
  go_wp2
  go_ret
  exact ⟨rfl, rfl⟩
theorem stuck_nil (w : World) : Calls Try.prog 41 #[.pointer none] w fun e w' => e = .returned (.bool true) ∧ w = w' := by
  go_enter Try.func41, Try.ntmps41
  go_wp2
  go_ret
  exact ⟨rfl, rfl⟩
theorem block_setCell {w : World} {b e : Nat} {c : Array Value} {fr : Nat × Nat} (h : w.heap[b]? = some (.cells c e fr)) (j : Nat) (u : Value) :
    (w.setCell ⟨b, j, none⟩ u).heap[b]? = some (.cells (c.setIfInBounds j u) e fr) := by
  simp [World.setCell, Array.getElem?_modify, h]

theorem pass_any (O : Nat → Prop) (b : Nat) (f : Nat) (many : Int) (fault : Nat) (w : World) (l : List UInt8) (h : Rd O w b l f) (hm : fault = 0 → 0 ≤ many ∧ many ≤ l.length) :
    Calls Try.prog 43 #[.pointer (some ⟨b, 0, none⟩), .int .i64 many, .int .i64 fault] w fun e w' => e = .returned (.tuple #[]) ∧ Rd O w' b (if fault = 0 then l.drop many.toNat else l) fault ∧ Fr (One b) w w' := by
  obtain ⟨hO, hb, v, hblk, hrow, hoff, hofO⟩ := h
  have c0 := (block_cells hblk 0).1
  have c1 := (block_cells hblk 1).1
  have f0 := (block_cells hblk 0).2
  have f1 := (block_cells hblk 1).2
  have c0' : w.cell? ⟨b, 0, none⟩ = some v := c0
  have c1' : w.cell? ⟨b, 1, none⟩ = some (.int .i64 f) := c1
  have hb1 := block_setCell hblk 1 (.int .i64 fault)
  have HB := Lib.hid hb1
  clear c0 c1 hb1 hblk
  by_cases hf : fault = 0
  · subst hf
    obtain ⟨m0, hm'⟩ := hm rfl
    obtain ⟨many, rfl⟩ := Int.eq_ofNat_of_zero_le m0
    rw [Int.toNat_natCast]
    obtain ⟨v', hrun, hv', hoff'⟩ := run_subLo (P := Try.prog) hrow 43 5 Try.underlying43 (by kernel_rfl) .i64 many many rfl (by rw [bs_length]; omega)
    have hv2 : Row w v' (bs (l.drop many)) := by simpa [bs, List.map_drop] using hv'
    obtain ⟨a', c', rfl, -⟩ := id hv2
    have HV := Lib.hid hv2
    have HR := Lib.hid hrow
    have HO := Lib.hid hoff'
    clear hv' hv2 hrow hoff' hm
    go_enter Try.func43, Try.ntmps43
    go_wp2
    go_end0
    refine ⟨rfl, ⟨hO, by simp [World.setCell]; exact hb, _, ?_, ?_, HO.out _ hoff, HO.out _ hofO⟩, ?_⟩
    · exact block_setCell HB.out 0 _
    · exact (HV.out.frame (Fr.setCell w ⟨b, 1, none⟩ _) (HO.out _ hoff)).frame (Fr.setCell _ ⟨b, 0, none⟩ _) (HO.out _ hoff)
    · exact (Fr.setCell w ⟨b, 1, none⟩ _).trans (Fr.setCell _ ⟨b, 0, none⟩ _) (fun _ h => h) (fun _ h => .inl h)
  · have hf0 : ((fault : Int) == 0) = false := by simp; omega
    have HR := Lib.hid hrow
    have HF := Lib.hid hf
    clear hrow hm hf
    go_enter Try.func43, Try.ntmps43
    go_wp2
    go_end0
    exact ⟨rfl, ⟨hO, by simp [World.setCell]; exact hb, v, HB.out, HR.out.frame (Fr.setCell w ⟨b, 1, none⟩ _) hoff, hoff, hofO⟩, Fr.setCell w ⟨b, 1, none⟩ _⟩

theorem unfixed_ok (l : List UInt8) (many : Int) (h : (unfixed l many).2 = 0) : many ≤ l.length ∧ 0 ≤ many ∧ many ≤ 8 := by
  unfold unfixed at h
  split at h
  · simp at h
  · split at h
    · simp at h
    · omega
def takeFix (l : List UInt8) (f : Nat) (many : Int) : Nat × List UInt8 × Nat := if f = 0 then ((unfixed l many).1, if (unfixed l many).2 = 0 then l.drop many.toNat else l, (unfixed l many).2) else (0, l, f)

theorem rFix_any (O : Nat → Prop) (b : Nat) (f : Nat) (w : World) (l : List UInt8) (many : Int) (h : Rd O w b l f) :
    Calls Try.prog 31 #[.pointer (some ⟨b, 0, none⟩), .int .i64 many] w fun e w' => e = .returned (.int .u64 (takeFix l f many).1) ∧ Rd O w' b (takeFix l f many).2.1 (takeFix l f many).2.2 ∧ Fr (One b) w w' := by
  obtain ⟨v, h0, -, -, -, hrow, -⟩ := h.cells
  have H := Lib.hid h
  have HR := Lib.hid hrow
  clear h hrow
  by_cases hf : f = 0
  · have E : takeFix l f many = ((unfixed l many).1, if (unfixed l many).2 = 0 then l.drop many.toNat else l, (unfixed l many).2) := if_pos hf
    have HE := Lib.hid E
    have hf0 : ((f : Int) != 0) = false := by simp [hf]
    clear E hf
    go_enter Try.func31, Try.ntmps31
    go_wp2_with (first | (go_at_call 41; refine (stuck_any O _ _ _ _ H.out).mono ?_; rintro e w' ⟨rfl, rfl⟩) | (go_at_call 42; refine (fixed_any _ l many w HR.out).mono ?_; rintro e w' ⟨rfl, rfl⟩) | fail)
    refine (pass_any O b f many (unfixed l many).2 w l H.out (fun h => by have := unfixed_ok l many h; omega)).mono ?_
    rintro e w' ⟨rfl, hrd, hfr⟩
    go_wp2
    go_ret
    rw [HE.out]
    exact ⟨rfl, hrd, hfr⟩
  · have E : takeFix l f many = (0, l, f) := if_neg hf
    have HE := Lib.hid E
    have hf0 : ((f : Int) != 0) = true := by simp; omega
    clear E hf
    go_enter Try.func31, Try.ntmps31
    go_wp2_with (go_at_call 41; refine (stuck_any O _ _ _ _ H.out).mono ?_; rintro e w' ⟨rfl, rfl⟩)
    go_ret
    rw [HE.out]
    exact ⟨rfl, H.out, Fr.refl _ _⟩

theorem rFix_nil (many : Int) (w : World) : Calls Try.prog 31 #[.pointer none, .int .i64 many] w fun e w' => e = .returned (.int .u64 0) ∧ w = w' := by
  go_enter Try.func31, Try.ntmps31
  go_wp2_with (go_at_call 41; refine (stuck_nil _).mono ?_; rintro e w' ⟨rfl, rfl⟩)
  go_ret
  exact ⟨rfl, rfl⟩
end Go.Proofs.Yteokfgdennjjiaa
