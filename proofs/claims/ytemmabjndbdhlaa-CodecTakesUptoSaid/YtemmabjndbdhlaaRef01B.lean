/- the document's answers of layer 1: what takes -/
import Derived.Test.YtemmabjndbdhlaaRef01A
import Derived.Deep.RegionHeld3
import Derived.Deep.CutBlock
import Derived.Deep.DeepCutAuto
namespace Go.Proofs.Ytemmabjndbdhlaa
open Go.ChangeShapes Go.WideShapes Go.ChangeAt Go.RowKit

theorem Row.frame' {S : Nat → Prop} {w w' : World} {v : Value} {l : List UInt8} (h : Row w v (bs l)) (f : Fr S w w') (hn : l ≠ [] → Off S v) : Row w' v (bs l) := by
  by_cases hl : l = []
  · subst hl
    obtain ⟨a, c, rfl, h1, h2, h3, _⟩ := h
    exact ⟨a, c, rfl, h1, h2, h3, fun j hj => absurd hj (by simp [bs])⟩
  · exact h.frame f (hn hl)
/-- the document's reader at block p: its bytes, its place, its fault -/
def RRd (w : World) (p : Nat) (v : Value) (L : List UInt8) (i e : Nat) : Prop :=
  w.heap[p]? = some (.cells #[v, .int .i64 i, .int .i64 e] 37 (0, 0)) ∧ Row w v (bs L) ∧ (L ≠ [] → Off (One p) v) ∧ i ≤ L.length ∧ ∃ a c, v = .slice a L.length c

theorem RRd.cells {w : World} {p : Nat} {v : Value} {L : List UInt8} {i e : Nat} (h : RRd w p v L i e) :
    w.cell? ⟨p, 0, none⟩ = some v ∧ w.cell? ⟨p, 1, none⟩ = some (.int .i64 i) ∧ w.cell? ⟨p, 2, none⟩ = some (.int .i64 e) ∧ w.frozen? ⟨p, 1, none⟩ = false ∧ w.frozen? ⟨p, 2, none⟩ = false :=
  ⟨(block_cells h.1 0).1, (block_cells h.1 1).1, (block_cells h.1 2).1, (block_cells h.1 1).2, (block_cells h.1 2).2⟩

theorem RRd.drew {w : World} {p : Nat} {v : Value} {L : List UInt8} {i e n : Nat} (h : RRd w p v L i e) : RRd (w.drewN n) p v L i e := h

theorem RRd.set1 {w : World} {p : Nat} {v : Value} {L : List UInt8} {i e : Nat} (h : RRd w p v L i e) (i' : Nat) (hi : i' ≤ L.length) : RRd (w.setCell ⟨p, 1, none⟩ (.int .i64 i')) p v L i' e := by
  obtain ⟨h1, h2, h3, h4, h5⟩ := h
  exact ⟨block_setCell h1 1 _, h2.frame' (Fr.setCell _ ⟨p, 1, none⟩ _) h3, h3, hi, h5⟩
theorem RRd.set2 {w : World} {p : Nat} {v : Value} {L : List UInt8} {i e : Nat} (h : RRd w p v L i e) (e' : Nat) : RRd (w.setCell ⟨p, 2, none⟩ (.int .i64 e')) p v L i e' := by
  obtain ⟨h1, h2, h3, h4, h5⟩ := h
  exact ⟨block_setCell h1 2 _, h2.frame' (Fr.setCell _ ⟨p, 2, none⟩ _) h3, h3, h4, h5⟩

theorem fail_any (w : World) (p : Nat) (v : Value) (L : List UInt8) (i e e' : Nat) (h : RRd w p v L i e) :
    Calls Try.prog 33 #[.pointer (some ⟨p, 0, none⟩), .int .i64 e'] w fun en w' => en = .returned (.tuple #[]) ∧ RRd w' p v L i e' ∧ Fr (One p) w w' := by
  obtain ⟨c0, c1, c2, f1, f2⟩ := h.cells
  have H := Lib.hid h
  clear h
  go_enter Try.func33, Try.ntmps33
  go_wp2
  go_end0
  exact ⟨rfl, H.out.set2 e', Fr.setCell w ⟨p, 2, none⟩ _⟩

theorem rrEnd_any (w : World) (p : Nat) (v : Value) (L : List UInt8) (i e : Nat) (h : RRd w p v L i e) :
    Calls Try.prog 26 #[.pointer (some ⟨p, 0, none⟩)] w fun en w' => en = .returned (.int .i64 (endOf (L.drop i) e)) ∧ ∃ n, w' = w.drewN n := by
  obtain ⟨c0, c1, c2, f1, f2⟩ := h.cells
  obtain ⟨-, hrow, -, hiL, a, c, rfl⟩ := h
  have hE : endOf (L.drop i) e = if e = 0 ∧ i < L.length then 12 else e := by
    unfold endOf
    rw [List.length_drop]
    by_cases h1 : e = 0 ∧ i < L.length
    · rw [if_pos h1, if_pos (by omega)]
    · rw [if_neg h1, if_neg (by omega)]
  have E := Lib.hid hE
  clear hE hrow
  by_cases he : e = 0
  · subst he
    by_cases hlt : i < L.length
    · go_enter Try.func26, Try.ntmps26
      go_wp2_with fail
      go_quiet (fail)
      go_wp2
      go_ret
      exact ⟨by rw [E.out, if_pos ⟨by first | rfl | trivial, hlt⟩]; rfl, _, rfl⟩
    · have hd : decide ((i : Int) < (L.length : Int)) = false := by simp; omega
      go_enter Try.func26, Try.ntmps26
      go_wp2_with fail
      go_quiet (fail)
      go_wp2
      go_ret
      exact ⟨by rw [E.out, if_neg (by omega)]; rfl, _, rfl⟩
  · have he0 : ((e : Int) == 0) = false := by simp; omega
    have e2 : endOf (L.drop i) e = e := by rw [E.out, if_neg (by omega)]
    have E2 := Lib.hid e2
    clear e2 he
    go_enter Try.func26, Try.ntmps26
    go_wp2_with fail
    go_quiet (fail)
    go_wp2
    go_ret
    exact ⟨by rw [E2.out]; rfl, _, rfl⟩

theorem Fr.drewN (w : World) (n : Nat) : Fr Non w (w.drewN n) := ⟨rfl, rfl, rfl, Nat.le_refl _, fun _ _ _ => rfl⟩

set_option maxRecDepth 100000 in
set_option maxHeartbeats 2000000 in
theorem rrFix_any (w : World) (p : Nat) (v : Value) (L : List UInt8) (i e : Nat) (many : Int) (h : RRd w p v L i e) :
    Calls Try.prog 22 #[.pointer (some ⟨p, 0, none⟩), .int .i64 many] w fun en w' => en = .returned (.int .u64 (takeFix (L.drop i) e many).1) ∧
      (∃ i', (takeFix (L.drop i) e many).2.1 = L.drop i' ∧ RRd w' p v L i' (takeFix (L.drop i) e many).2.2) ∧ Fr (One p) w w' := by
  by_cases he : e = 0
  · subst he
    have T : takeFix (L.drop i) 0 many = ((unfixed (L.drop i) many).1, if (unfixed (L.drop i) many).2 = 0 then (L.drop i).drop many.toNat else L.drop i, (unfixed (L.drop i) many).2) := if_pos rfl
    have U : unfixed (L.drop i) many = if many < 0 ∨ 8 < many then (0, 1) else if ((L.drop i).length : Int) < many then (0, 10) else (unfix ((L.drop i).take many.toNat), 0) := rfl
    rcases (show many < 0 ∨ 8 < many ∨ (0 ≤ many ∧ many ≤ 8) by omega) with hm | hm | ⟨hm, hm8⟩
    · rw [if_pos (.inl hm)] at U
      rw [U] at T
      have HT := Lib.hid T
      obtain ⟨c0, c1, c2, f1, f2⟩ := h.cells
      have H := Lib.hid h
      clear U T h
      go_enter Try.func22, Try.ntmps22
      go_wp2_with fail
      refine (fail_any w p v L i 0 1 H.out).mono ?_
      rintro en w1 ⟨rfl, hr, hf⟩
      go_wp2_with fail
      go_ret
      rw [HT.out]
      exact ⟨rfl, ⟨i, rfl, hr⟩, hf⟩
    · rw [if_pos (.inr hm)] at U
      rw [U] at T
      have HT := Lib.hid T
      obtain ⟨c0, c1, c2, f1, f2⟩ := h.cells
      have H := Lib.hid h
      clear U T h
      go_enter Try.func22, Try.ntmps22
      go_wp2_with fail
      refine (fail_any w p v L i 0 1 H.out).mono ?_
      rintro en w1 ⟨rfl, hr, hf⟩
      go_wp2_with fail
      go_ret
      rw [HT.out]
      exact ⟨rfl, ⟨i, rfl, hr⟩, hf⟩
    · rw [if_neg (by omega)] at U
      obtain ⟨m, rfl⟩ := Int.eq_ofNat_of_zero_le hm
      rw [List.length_drop, Int.toNat_natCast] at U
      rw [Int.toNat_natCast] at T
      have hiL := h.2.2.2.1
      have hmx := h.2.1.le
      rw [bs_length] at hmx
      unfold maxLen at hmx
      obtain ⟨a, c, rfl⟩ := h.2.2.2.2
      by_cases hs : L.length - i < m
      · rw [if_pos (by omega)] at U
        rw [U] at T
        have HT := Lib.hid T
        obtain ⟨c0, c1, c2, f1, f2⟩ := h.cells
        have H := Lib.hid h
        clear U T h
        go_enter Try.func22, Try.ntmps22
        go_wp2_with fail
        go_quiet (fail)
        go_wp2_with fail
        refine (fail_any _ p _ L i 0 10 (RRd.drew H.out)).mono ?_
        rintro en w1 ⟨rfl, hr, hf⟩
        go_wp2_with fail
        go_ret
        rw [HT.out]
        exact ⟨rfl, ⟨i, rfl, hr⟩, (Fr.drewN _ _).non hf⟩
      · rw [if_neg (by omega)] at U
        rw [U] at T
        have HT := Lib.hid T
        obtain ⟨c0, c1, c2, f1, f2⟩ := h.cells
        have H := Lib.hid h
        have hmL : i + m ≤ L.length := by omega
        clear U T h hs
        go_enter Try.func22, Try.ntmps22
        go_wp2_with fail
        go_quiet (fail)
        go_wp2_with fail
        go_loopw [5, 6] (fun n' j' wr => ∃ t q : Nat, t ≤ m ∧ j' = .int .i64 ((t : Int) - 1) ∧ n' = .int .u64 q ∧ q = unfix ((L.drop (i + t)).take (m - t)) ∧ RRd wr p (.slice a L.length c) L i 0 ∧ Fr Non w wr) (fun _ j' _ => (intOf j' + 1).toNat)
        case atStart => exact ⟨m, 0, Nat.le_refl _, rfl, rfl, by simp [unfix], RRd.drew H.out, Fr.drewN _ _⟩
        case round =>
          obtain ⟨t, q, htm, rfl, rfl, hq, hr, hf⟩ := hrel
          obtain ⟨c0, c1, c2, f1, f2⟩ := hr.cells
          match t, htm, hq with
          | 0, htm, hq =>
            have HQ := Lib.hid hq
            have HR := Lib.hid hr
            clear hq hr
            go_wp2
            go_ret
            refine ⟨?_, ⟨i + m, ?_, ?_⟩, hf.non (Fr.setCell _ ⟨p, 1, none⟩ _)⟩
            · rw [HT.out, HQ.out]; simp
            · rw [HT.out]; simp
            · rw [HT.out]; exact HR.out.set1 (i + m) hmL
          | s + 1, htm, hq =>
            have hdr : (L.drop (i + s)).take (m - s) = L[i + s]! :: (L.drop (i + (s + 1))).take (m - (s + 1)) := by
              rw [List.drop_eq_getElem_cons (by omega), show m - s = (m - (s + 1)) + 1 by omega, List.take_succ_cons, getElem!_pos L (i + s) (by omega)]
              rfl
            have hq2 : unfix ((L.drop (i + s)).take (m - s)) = (L[i + s]!).toNat + 256 * q := by rw [hdr, hq]; rfl
            have hqlt : q < 256 ^ (m - (s + 1)) := by
              rw [hq]
              have h1 := unfix_lt ((L.drop (i + (s + 1))).take (m - (s + 1)))
              rwa [List.length_take, List.length_drop, Nat.min_eq_left (by omega)] at h1
            have hq56 : q < 72057594037927936 := Nat.lt_of_lt_of_le hqlt (by have : (256 : Nat) ^ (m - (s + 1)) ≤ 256 ^ 7 := Nat.pow_le_pow_right (by omega) (by omega); simpa using this)
            obtain ⟨b, off, n2, c2', e0, -, hcell⟩ := run_at hr.2.1 (i + s) (.int .u8 ((L[i + s]!).toNat : Int)) (by rw [getElem!_pos L (i + s) (by omega)]; simp [bs]; exact ⟨_, List.getElem?_eq_getElem (by omega), rfl⟩)
            have hx := (L[i + s]!).toNat_lt
            generalize (L[i + s]!).toNat = x at hq2 hcell hx
            injection e0 with e1 e2 e3
            subst e1
            clear e2 e3
            have HQ2 := Lib.hid hq2
            have HR := Lib.hid hr
            have es : (((s + 1 : Nat) : Int) - 1) = (s : Int) := by omega
            rw [es]
            have hs1 : (i : Int) + (s : Int) < (L.length : Int) := by omega
            have hs0 : (0 : Int) ≤ (i : Int) + (s : Int) := by omega
            clear hq hr es hqlt hdr hq2
            go_wp2_with fail
            go_quiet (fail)
            go_wp2
            go_roundw
            case rel => exact ⟨s, q * 256 + x, by omega, by go_num, by go_num, by rw [HQ2.out]; omega, RRd.drew HR.out, hf.non (Fr.drewN _ _)⟩
            case measure => simp [intOf]
  · have T : takeFix (L.drop i) e many = (0, L.drop i, e) := if_neg he
    have HT := Lib.hid T
    have he0 : ((e : Int) != 0) = true := by simp; omega
    obtain ⟨c0, c1, c2, f1, f2⟩ := h.cells
    have H := Lib.hid h
    clear T h he
    go_enter Try.func22, Try.ntmps22
    go_wp2_with fail
    go_ret
    rw [HT.out]
    exact ⟨rfl, ⟨i, rfl, H.out⟩, Fr.refl _ _⟩

/-- the groups of seven bits of l, one behind the other, and c on top -/
def acc (c : Nat) : List UInt8 → Nat
  | [] => c
  | d :: r => (d.toNat - 128) + 128 * acc c r

theorem decF_acc (l : List UInt8) (c : UInt8) (tail : List UInt8) (hc : c.toNat < 128) : ∀ (ds : List UInt8) (k i n : Nat), l.drop i = ds ++ c :: tail → (∀ d ∈ ds, 128 ≤ d.toNat) → ds.length < k →
    decF l k i n = if (0 < i + ds.length ∧ c.toNat = 0) ∨ (i + ds.length = 9 ∧ 1 < c.toNat) then (0, 0, 11) else (n + acc c.toNat ds * 2 ^ (7 * i), i + ds.length + 1, 0) := by
  intro ds
  induction ds with
  | nil =>
    intro k i n hl _ hk
    have h0 : l[i]? = some c := by
      have := List.getElem?_drop (xs := l) (i := i) (j := 0)
      rw [hl] at this
      simpa using this.symm
    match k, hk with
    | k + 1, _ =>
      simp only [decF, h0, hc, if_true, List.length_nil, Nat.add_zero, acc]
  | cons d r ih =>
    intro k i n hl hd hk
    have hd0 := hd d (by simp)
    have h0 : l[i]? = some d := by
      have := List.getElem?_drop (xs := l) (i := i) (j := 0)
      rw [hl] at this
      simpa using this.symm
    have hl2 : l.drop (i + 1) = r ++ c :: tail := by rw [← List.drop_drop, hl]; rfl
    match k, hk with
    | k + 1, hk =>
      simp only [decF, h0]
      rw [if_neg (by omega), ih k (i + 1) _ hl2 (fun x hx => hd x (by simp [hx])) (by simp at hk; omega)]
      simp only [List.length_cons, acc]
      rw [show i + 1 + r.length = i + (r.length + 1) by omega]
      split
      · rfl
      · congr 1
        rw [show 7 * (i + 1) = 7 * i + 7 by omega, Nat.pow_add, Nat.add_mul, Nat.add_assoc]
        congr 2
        rw [show (2 : Nat) ^ 7 = 128 from rfl, ← Nat.mul_assoc, Nat.mul_right_comm, Nat.mul_comm (acc c.toNat r) 128]
theorem decF_long (l : List UInt8) : ∀ (k i n : Nat), (∀ j, i ≤ j → j < i + k → 128 ≤ (l[j]!).toNat ∧ j < l.length) → decF l k i n = (0, 0, 11) := by
  intro k
  induction k with
  | zero => intro i n _; rfl
  | succ k ih =>
    intro i n h
    obtain ⟨h1, h2⟩ := h i (Nat.le_refl _) (by omega)
    rw [getElem!_pos l i h2] at h1
    simp only [decF, List.getElem?_eq_getElem h2]
    rw [if_neg (by omega)]
    exact ih _ _ (fun j hj hjk => h j (by omega) (by omega))
theorem acc_lt (c : Nat) (ds : List UInt8) (hc : c < 128) : acc c ds < 128 ^ (ds.length + 1) := by
  induction ds with
  | nil => simpa [acc] using hc
  | cons d r ih =>
    have := d.toNat_lt
    simp only [acc, List.length_cons]
    rw [Nat.pow_succ]
    omega
theorem acc_b (c : Nat) (ds : List UInt8) (h : (c < 128 ∧ ds.length ≤ 8) ∨ (c ≤ 1 ∧ ds.length ≤ 9)) : acc c ds < 18446744073709551616 := by
  rcases h with ⟨h1, h2⟩ | ⟨h1, h2⟩
  · have h3 := acc_lt c ds h1
    have h4 : (128 : Nat) ^ (ds.length + 1) ≤ 128 ^ 9 := Nat.pow_le_pow_right (by omega) (by omega)
    have h5 : (128 : Nat) ^ 9 = 9223372036854775808 := by decide
    omega
  · have h : ∀ ds : List UInt8, acc c ds < 2 * 128 ^ ds.length := by
      intro ds
      induction ds with
      | nil => simp [acc]; omega
      | cons d r ih =>
        have := d.toNat_lt
        simp only [acc, List.length_cons]
        rw [Nat.pow_succ]
        omega
    have h3 := h ds
    have h4 : (128 : Nat) ^ ds.length ≤ 128 ^ 9 := Nat.pow_le_pow_right (by omega) (by omega)
    have h5 : (128 : Nat) ^ 9 = 9223372036854775808 := by decide
    omega

set_option maxRecDepth 100000 in
set_option maxHeartbeats 4000000 in
theorem rrNum_any (w : World) (p : Nat) (v : Value) (L : List UInt8) (i e : Nat) (h : RRd w p v L i e) :
    Calls Try.prog 18 #[.pointer (some ⟨p, 0, none⟩)] w fun en w' => en = .returned (.int .u64 (takeNum (L.drop i) e).1) ∧
      (∃ i', (takeNum (L.drop i) e).2.1 = L.drop i' ∧ RRd w' p v L i' (takeNum (L.drop i) e).2.2) ∧ Fr (One p) w w' := by
  by_cases he : e = 0
  · subst he
    have T : takeNum (L.drop i) 0 = ((dec (L.drop i)).1, if (dec (L.drop i)).2.2 = 0 then (L.drop i).drop (dec (L.drop i)).2.1 else L.drop i, (dec (L.drop i)).2.2) := if_pos rfl
    have HT := Lib.hid T
    have hiL := h.2.2.2.1
    have hmx := h.2.1.le
    rw [bs_length] at hmx
    unfold maxLen at hmx
    obtain ⟨a, c, rfl⟩ := h.2.2.2.2
    have H := Lib.hid h
    obtain ⟨c0, c1, c2, f1, f2⟩ := h.cells
    clear T h
    go_enter Try.func18, Try.ntmps18
    clear c0 c1 f1 f2
    go_upto_block 0 with fail
    go_cut [3] (fun k' wx => ∃ k : Nat, k' = .int .i64 k ∧ k ≤ 10 ∧ i + k ≤ L.length ∧ (∀ j, j < k → 128 ≤ (L[i + j]!).toNat) ∧ (k = 10 ∨ i + k = L.length ∨ (L[i + k]!).toNat < 128) ∧ RRd wx p (.slice a L.length c) L i 0 ∧ Fr Non w wx)
    case first =>
      go_wp2_with fail
      go_loopw [3] (fun k' wx => ∃ k : Nat, k' = .int .i64 k ∧ k ≤ 10 ∧ i + k ≤ L.length ∧ (∀ j, j < k → 128 ≤ (L[i + j]!).toNat) ∧ RRd wx p (.slice a L.length c) L i 0 ∧ Fr Non w wx) (fun k' _ => 10 - (intOf k').toNat)
      case atStart => exact ⟨0, rfl, by omega, by omega, fun j hj => by omega, H.out, Fr.refl _ _⟩
      case round =>
        obtain ⟨k, rfl, hk10, hkL, hall, hr, hf⟩ := hrel
        obtain ⟨c0, c1, c2, f1, f2⟩ := hr.cells
        have HA := Lib.hid hall
        have HR := Lib.hid hr
        have hw1 : IntKind.i64.wrap ((i : Int) + (k : Int)) = (i : Int) + (k : Int) := IntWalk.i64_in _ (by omega)
        have hw0 : (0 : Int) ≤ (i : Int) + (k : Int) := by omega
        by_cases hend : i + k = L.length
        · have t1 : decide ((i : Int) + (k : Int) < (L.length : Int)) = false := by simp; omega
          clear hall hr
          go_wp2_with fail
          go_quiet (fail)
          go_wp2_with fail
          go_meet
          exact ⟨k, rfl, hk10, hkL, HA.out, .inr (.inl hend), RRd.drew HR.out, hf.non (Fr.drewN _ _)⟩
        · obtain ⟨b, off, n2, c2', e0, -, hcell⟩ := run_at hr.2.1 (i + k) (.int .u8 ((L[i + k]!).toNat : Int)) (by rw [getElem!_pos L (i + k) (by omega)]; simp [bs]; exact ⟨_, List.getElem?_eq_getElem (by omega), rfl⟩)
          have hx := (L[i + k]!).toNat_lt
          obtain ⟨x, hxe⟩ : ∃ x, x = (L[i + k]!).toNat := ⟨_, rfl⟩
          rw [← hxe] at hcell hx
          injection e0 with e1 e2 e3
          subst e1
          clear e2 e3
          have HXE := Lib.hid hxe
          have hs1 : (i : Int) + (k : Int) < (L.length : Int) := by omega
          have t1 : decide ((i : Int) + (k : Int) < (L.length : Int)) = true := by simp; omega
          clear hxe hall hr hend
          by_cases hk : k < 10
          · have t4 : decide ((k : Int) < 10) = true := by simp; omega
            by_cases h128 : 128 ≤ x
            · go_wp2_with fail
              go_quiet (fail)
              go_wp2
              go_roundw
              case rel =>
                refine ⟨k + 1, by go_num, by omega, by omega, fun j hj => ?_, RRd.drew HR.out, hf.non (Fr.drewN _ _)⟩
                by_cases hjk : j = k
                · subst hjk; rw [← HXE.out]; exact h128
                · exact HA.out j (by omega)
              case measure => simp [intOf]; omega
            · have t2 : decide ((128 : Int) ≤ (x : Int)) = false := by simp; omega
              go_wp2_with fail
              go_quiet (fail)
              go_wp2_with fail
              go_meet
              exact ⟨k, rfl, hk10, hkL, HA.out, .inr (.inr (by rw [← HXE.out]; omega)), RRd.drew HR.out, hf.non (Fr.drewN _ _)⟩
          · have t2 : decide ((k : Int) < 10) = false := by simp; omega
            go_wp2_with fail
            go_quiet (fail)
            go_wp2_with fail
            go_meet
            exact ⟨k, rfl, hk10, hkL, HA.out, .inl (by omega), RRd.drew HR.out, hf.non (Fr.drewN _ _)⟩
    case rest =>
      obtain ⟨k, rfl, hk10, hkL, hall, hst, hr, hf⟩ := hcut
      have HA := Lib.hid hall
      have HR := Lib.hid hr
      obtain ⟨c0, c1, c2, f1, f2⟩ := hr.cells
      have hw0 : (0 : Int) ≤ (i : Int) + (k : Int) := by omega
      have hdrop : ∀ j, j < k → (L.drop i)[j]! = L[i + j]! := fun j hj => by
        rw [getElem!_pos (L.drop i) j (by rw [List.length_drop]; omega), List.getElem_drop, getElem!_pos L (i + j) (by omega)]
      by_cases h10 : k = 10
      · have hd : dec (L.drop i) = (0, 0, 11) := decF_long _ 10 0 0 (fun j _ hj => by
          rw [hdrop j (by omega)]
          exact ⟨HA.out j (by omega), by rw [List.length_drop]; omega⟩)
        have HD := Lib.hid hd
        have hk : ((k : Int) == 10) = true := by simp; omega
        clear hall hst hr hdrop hd h10
        go_wp2_with fail
        refine (fail_any _ p _ L i 0 11 HR.out).mono ?_
        rintro en w1 ⟨rfl, hr1, hf1⟩
        go_wp2_with fail
        go_ret
        rw [HT.out, HD.out]
        exact ⟨rfl, ⟨i, rfl, hr1⟩, hf.non hf1⟩
      · have hk : ((k : Int) == 10) = false := by simp; omega
        by_cases hend : i + k = L.length
        · have hd : dec (L.drop i) = (0, 0, 10) := decF_short _ 10 0 0 rfl (by rw [List.length_drop]; omega) (Nat.zero_le _) (fun j _ hj => by
            rw [List.length_drop] at hj
            have h1 := HA.out j (by omega)
            have h2 := hdrop j (by omega)
            rw [getElem!_pos (L.drop i) j (by rw [List.length_drop]; omega)] at h2
            rw [h2]
            exact h1)
          have HD := Lib.hid hd
          have t1 : decide ((L.length : Int) ≤ (i : Int) + (k : Int)) = true := by simp; omega
          have t3 : (L.length : Int) ≤ (i : Int) + (k : Int) := by omega
          clear hall hst hr hdrop hd h10 hend
          go_wp2_with fail
          go_quiet (fail)
          go_wp2_with fail
          refine (fail_any _ p _ L i 0 10 (RRd.drew HR.out)).mono ?_
          rintro en w1 ⟨rfl, hr1, hf1⟩
          go_wp2_with fail
          go_ret
          rw [HT.out, HD.out]
          exact ⟨rfl, ⟨i, rfl, hr1⟩, (hf.non (Fr.drewN _ _)).non hf1⟩
        · have hlast : (L[i + k]!).toNat < 128 := by
            rcases hst with h1 | h1 | h1
            · exact absurd h1 h10
            · exact absurd h1 hend
            · exact h1
          have hsplit : L.drop i = (L.drop i).take k ++ L[i + k]! :: L.drop (i + k + 1) := by
            have h2 : (L.drop i).drop k = L[i + k]! :: L.drop (i + k + 1) := by
              rw [List.drop_drop, List.drop_eq_getElem_cons (by omega), getElem!_pos L (i + k) (by omega)]
            rw [← h2]
            exact (List.take_append_drop k (L.drop i)).symm
          have hlen : ((L.drop i).take k).length = k := by rw [List.length_take, List.length_drop]; omega
          have hd := decF_acc (L.drop i) L[i + k]! (L.drop (i + k + 1)) hlast ((L.drop i).take k) 10 0 0 (by rw [List.drop_zero]; exact hsplit) (fun d hd => by
            obtain ⟨j, hj, rfl⟩ := List.mem_iff_getElem.1 hd
            rw [hlen] at hj
            have h1 := HA.out j hj
            have h2 := hdrop j hj
            rw [getElem!_pos (L.drop i) j (by rw [List.length_drop]; omega)] at h2
            rw [List.getElem_take, h2]
            exact h1) (by omega)
          rw [hlen, Nat.zero_add] at hd
          obtain ⟨b, off, n2, c2', e0, -, hcell⟩ := run_at hr.2.1 (i + k) (.int .u8 ((L[i + k]!).toNat : Int)) (by rw [getElem!_pos L (i + k) (by omega)]; simp [bs]; exact ⟨_, List.getElem?_eq_getElem (by omega), rfl⟩)
          obtain ⟨x, hxe⟩ : ∃ x, x = (L[i + k]!).toNat := ⟨_, rfl⟩
          rw [← hxe] at hcell hlast hd
          injection e0 with e1 e2 e3
          subst e1
          clear e2 e3
          have hs1 : (i : Int) + (k : Int) < (L.length : Int) := by omega
          have t1 : decide ((L.length : Int) ≤ (i : Int) + (k : Int)) = false := by simp; omega
          have HX := Lib.hid hxe
          have HS := Lib.hid hsplit
          have HL := Lib.hid hlen
          clear hall hst hr hdrop hxe hsplit hlen
          by_cases hbad : (0 < k ∧ x = 0) ∨ (k = 9 ∧ 1 < x)
          · rw [if_pos hbad] at hd
            have hd2 : dec (L.drop i) = (0, 0, 11) := hd
            have HD := Lib.hid hd2
            clear hd hd2
            have hcase : (k = 9 ∧ (1 < x ∨ x = 0)) ∨ (k ≠ 9 ∧ 0 < k ∧ x = 0) := by omega
            clear hbad h10 hend
            rcases hcase with ⟨h9, hx⟩ | ⟨h9, hk0, hx⟩
            · have k9 : ((k : Int) == 9) = true := by simp; omega
              have hk0 : (0 : Int) < (k : Int) := by omega
              clear h9
              rcases hx with hx | rfl
              · have x1 : decide ((1 : Int) < (x : Int)) = true := by simp; omega
                go_wp2_with fail
                go_quiet (fail)
                go_wp2_with fail
                go_quiet (fail)
                go_wp2_with fail
                refine (fail_any _ p _ L i 0 11 (RRd.drew HR.out)).mono ?_
                rintro en w1 ⟨rfl, hr1, hf1⟩
                go_wp2_with fail
                go_ret
                rw [HT.out, HD.out]
                exact ⟨rfl, ⟨i, rfl, hr1⟩, (hf.non (Fr.drewN _ _)).non hf1⟩
              · go_wp2_with fail
                go_quiet (fail)
                go_wp2_with fail
                go_quiet (fail)
                go_wp2_with fail
                refine (fail_any _ p _ L i 0 11 (RRd.drew HR.out)).mono ?_
                rintro en w1 ⟨rfl, hr1, hf1⟩
                go_wp2_with fail
                go_ret
                rw [HT.out, HD.out]
                exact ⟨rfl, ⟨i, rfl, hr1⟩, (hf.non (Fr.drewN _ _)).non hf1⟩
            · subst hx
              have k9 : ((k : Int) == 9) = false := by simp; omega
              have hk1 : (0 : Int) < (k : Int) := by omega
              clear h9 hk0
              go_wp2_with fail
              go_quiet (fail)
              go_wp2_with fail
              go_quiet (fail)
              go_wp2_with fail
              refine (fail_any _ p _ L i 0 11 (RRd.drew HR.out)).mono ?_
              rintro en w1 ⟨rfl, hr1, hf1⟩
              go_wp2_with fail
              go_ret
              rw [HT.out, HD.out]
              exact ⟨rfl, ⟨i, rfl, hr1⟩, (hf.non (Fr.drewN _ _)).non hf1⟩
          · rw [if_neg hbad] at hd
            have hd2 : dec (L.drop i) = (acc x ((L.drop i).take k), k + 1, 0) := by
              have h1 : dec (L.drop i) = (0 + acc x ((L.drop i).take k) * 2 ^ (7 * 0), k + 1, 0) := hd
              rw [h1]; simp
            have hbound : ∀ s, acc x (((L.drop i).take k).drop s) < 18446744073709551616 := fun s => by
              apply acc_b
              rw [List.length_drop, HL.out]
              omega
            have HB := Lib.hid hbound
            have HD := Lib.hid hd2
            obtain ⟨ds, hds⟩ : ∃ ds, ds = (L.drop i).take k := ⟨_, rfl⟩
            have HDS := Lib.hid hds
            have hx1 : ¬ (k = 9 ∧ 1 < x) := fun h => hbad (.inr h)
            have hx0 : ¬ (0 < k ∧ x = 0) := fun h => hbad (.inl h)
            clear hd hd2 hbound hds hbad h10 hend
            have tail : ∀ (wz : World), RRd wz p (.slice (some ⟨b, off, none⟩) L.length c) L i 0 → True := fun _ _ => trivial
            clear tail
            have hcase : (k = 9 ∧ 0 < k ∧ ¬ 1 < x ∧ ¬ x = 0) ∨ (k ≠ 9 ∧ 0 < k ∧ ¬ x = 0) ∨ (k ≠ 9 ∧ ¬ 0 < k) := by omega
            clear hx1 hx0
            rcases hcase with ⟨h9, hk0, hx1, hx0⟩ | ⟨h9, hk0, hx0⟩ | ⟨h9, hk0⟩
            · have k9 : ((k : Int) == 9) = true := by simp; omega
              have k0 : (0 : Int) < (k : Int) := by omega
              have x0 : ((x : Int) == 0) = false := by simp; omega
              have x1 : decide ((1 : Int) < (x : Int)) = false := by simp; omega
              have x1' : ¬ (1 : Int) < (x : Int) := by omega
              clear h9 hk0 hx1 hx0
              go_wp2_with fail
              go_quiet (fail)
              go_wp2_with fail
              go_quiet (fail)
              go_wp2_with fail
              go_loopw [5, 6] (fun n' j' wx => ∃ t q : Nat, t ≤ k ∧ j' = .int .i64 ((t : Int) - 1) ∧ n' = .int .u64 q ∧ q = acc x (((L.drop i).take k).drop t) ∧ RRd wx p (.slice (some ⟨b, off, none⟩) L.length c) L i 0 ∧ Fr Non w wx) (fun _ j' _ => (intOf j' + 1).toNat)
              case atStart => exact ⟨k, x, Nat.le_refl _, rfl, rfl, by rw [List.drop_of_length_le (by rw [HL.out]; exact Nat.le_refl _)]; rfl, RRd.drew HR.out, hf.non (Fr.drewN _ _)⟩
              case round =>
                obtain ⟨t, q, htm, rfl, rfl, hq, hr, hf⟩ := hrel
                obtain ⟨c0, c1, c2, f1, f2⟩ := hr.cells
                match t, htm, hq with
                | 0, htm, hq =>
                  have HQ := Lib.hid hq
                  have HRR := Lib.hid hr
                  clear hq hr
                  go_wp2
                  go_ret
                  refine ⟨?_, ⟨i + (k + 1), ?_, ?_⟩, hf.non (Fr.setCell _ ⟨p, 1, none⟩ _)⟩
                  · rw [HT.out, HD.out, HQ.out]; simp
                  · rw [HT.out, HD.out]; simp
                  · rw [HT.out, HD.out]; exact HRR.out.set1 (i + (k + 1)) (by omega)
                | s + 1, htm, hq =>
                  have hsl : s < ((L.drop i).take k).length := by rw [HL.out]; omega
                  have hdr : ((L.drop i).take k).drop s = L[i + s]! :: ((L.drop i).take k).drop (s + 1) := by
                    rw [List.drop_eq_getElem_cons hsl, List.getElem_take, List.getElem_drop, getElem!_pos L (i + s) (by omega)]
                  have hq2 : acc x (((L.drop i).take k).drop s) = ((L[i + s]!).toNat - 128) + 128 * q := by rw [hdr, hq]; rfl
                  have hb2 := HB.out s
                  rw [hq2] at hb2
                  have h128 := HA.out s (by omega)
                  obtain ⟨b2, off2, n2, c2', e0, -, hcell2⟩ := run_at hr.2.1 (i + s) (.int .u8 ((L[i + s]!).toNat : Int)) (by rw [getElem!_pos L (i + s) (by omega)]; simp [bs]; exact ⟨_, List.getElem?_eq_getElem (by omega), rfl⟩)
                  have hx8 := (L[i + s]!).toNat_lt
                  generalize (L[i + s]!).toNat = y at hq2 hcell2 hx8 hb2 h128
                  injection e0 with e1 e2 e3
                  injection e1 with e1
                  injection e1 with e4 e5 _
                  subst e4 e5
                  clear e2 e3
                  have HQ2 := Lib.hid hq2
                  have HRR := Lib.hid hr
                  have es : (((s + 1 : Nat) : Int) - 1) = (s : Int) := by omega
                  rw [es]
                  have hs1 : (i : Int) + (s : Int) < (L.length : Int) := by omega
                  have hs0 : (0 : Int) ≤ (i : Int) + (s : Int) := by omega
                  have w1 : IntKind.u64.wrap ((q : Int) * 128) = (q : Int) * 128 := IntWalk.u64_in _ (by omega)
                  have w2 : IntKind.u8.wrap ((y : Int) - 128) = (y : Int) - 128 := IntWalk.u8_in _ (by omega)
                  have w3 : IntKind.u64.wrap ((q : Int) * 128 + ((y : Int) - 128)) = (q : Int) * 128 + ((y : Int) - 128) := IntWalk.u64_in _ (by omega)
                  clear hq hr es hdr hq2 hsl
                  go_wp2_with fail
                  go_quiet (fail)
                  go_wp2
                  go_roundw
                  case rel => exact ⟨s, q * 128 + (y - 128), by omega, by go_num, by go_num, by rw [HQ2.out]; omega, RRd.drew HRR.out, hf.non (Fr.drewN _ _)⟩
                  case measure => simp [intOf]
            · have k9 : ((k : Int) == 9) = false := by simp; omega
              have k0 : (0 : Int) < (k : Int) := by omega
              have x0 : ((x : Int) == 0) = false := by simp; omega
              clear h9 hk0 hx0
              go_wp2_with fail
              go_quiet (fail)
              go_wp2_with fail
              go_quiet (fail)
              go_wp2_with fail
              go_loopw [5, 6] (fun n' j' wx => ∃ t q : Nat, t ≤ k ∧ j' = .int .i64 ((t : Int) - 1) ∧ n' = .int .u64 q ∧ q = acc x (((L.drop i).take k).drop t) ∧ RRd wx p (.slice (some ⟨b, off, none⟩) L.length c) L i 0 ∧ Fr Non w wx) (fun _ j' _ => (intOf j' + 1).toNat)
              case atStart => exact ⟨k, x, Nat.le_refl _, rfl, rfl, by rw [List.drop_of_length_le (by rw [HL.out]; exact Nat.le_refl _)]; rfl, RRd.drew HR.out, hf.non (Fr.drewN _ _)⟩
              case round =>
                obtain ⟨t, q, htm, rfl, rfl, hq, hr, hf⟩ := hrel
                obtain ⟨c0, c1, c2, f1, f2⟩ := hr.cells
                match t, htm, hq with
                | 0, htm, hq =>
                  have HQ := Lib.hid hq
                  have HRR := Lib.hid hr
                  clear hq hr
                  go_wp2
                  go_ret
                  refine ⟨?_, ⟨i + (k + 1), ?_, ?_⟩, hf.non (Fr.setCell _ ⟨p, 1, none⟩ _)⟩
                  · rw [HT.out, HD.out, HQ.out]; simp
                  · rw [HT.out, HD.out]; simp
                  · rw [HT.out, HD.out]; exact HRR.out.set1 (i + (k + 1)) (by omega)
                | s + 1, htm, hq =>
                  have hsl : s < ((L.drop i).take k).length := by rw [HL.out]; omega
                  have hdr : ((L.drop i).take k).drop s = L[i + s]! :: ((L.drop i).take k).drop (s + 1) := by
                    rw [List.drop_eq_getElem_cons hsl, List.getElem_take, List.getElem_drop, getElem!_pos L (i + s) (by omega)]
                  have hq2 : acc x (((L.drop i).take k).drop s) = ((L[i + s]!).toNat - 128) + 128 * q := by rw [hdr, hq]; rfl
                  have hb2 := HB.out s
                  rw [hq2] at hb2
                  have h128 := HA.out s (by omega)
                  obtain ⟨b2, off2, n2, c2', e0, -, hcell2⟩ := run_at hr.2.1 (i + s) (.int .u8 ((L[i + s]!).toNat : Int)) (by rw [getElem!_pos L (i + s) (by omega)]; simp [bs]; exact ⟨_, List.getElem?_eq_getElem (by omega), rfl⟩)
                  have hx8 := (L[i + s]!).toNat_lt
                  generalize (L[i + s]!).toNat = y at hq2 hcell2 hx8 hb2 h128
                  injection e0 with e1 e2 e3
                  injection e1 with e1
                  injection e1 with e4 e5 _
                  subst e4 e5
                  clear e2 e3
                  have HQ2 := Lib.hid hq2
                  have HRR := Lib.hid hr
                  have es : (((s + 1 : Nat) : Int) - 1) = (s : Int) := by omega
                  rw [es]
                  have hs1 : (i : Int) + (s : Int) < (L.length : Int) := by omega
                  have hs0 : (0 : Int) ≤ (i : Int) + (s : Int) := by omega
                  have w1 : IntKind.u64.wrap ((q : Int) * 128) = (q : Int) * 128 := IntWalk.u64_in _ (by omega)
                  have w2 : IntKind.u8.wrap ((y : Int) - 128) = (y : Int) - 128 := IntWalk.u8_in _ (by omega)
                  have w3 : IntKind.u64.wrap ((q : Int) * 128 + ((y : Int) - 128)) = (q : Int) * 128 + ((y : Int) - 128) := IntWalk.u64_in _ (by omega)
                  clear hq hr es hdr hq2 hsl
                  go_wp2_with fail
                  go_quiet (fail)
                  go_wp2
                  go_roundw
                  case rel => exact ⟨s, q * 128 + (y - 128), by omega, by go_num, by go_num, by rw [HQ2.out]; omega, RRd.drew HRR.out, hf.non (Fr.drewN _ _)⟩
                  case measure => simp [intOf]
            · have k9 : ((k : Int) == 9) = false := by simp; omega
              have k0 : ¬ (0 : Int) < (k : Int) := by omega
              clear h9 hk0
              go_wp2_with fail
              go_quiet (fail)
              go_wp2_with fail
              go_quiet (fail)
              go_wp2_with fail
              go_loopw [5, 6] (fun n' j' wx => ∃ t q : Nat, t ≤ k ∧ j' = .int .i64 ((t : Int) - 1) ∧ n' = .int .u64 q ∧ q = acc x (((L.drop i).take k).drop t) ∧ RRd wx p (.slice (some ⟨b, off, none⟩) L.length c) L i 0 ∧ Fr Non w wx) (fun _ j' _ => (intOf j' + 1).toNat)
              case atStart => exact ⟨k, x, Nat.le_refl _, rfl, rfl, by rw [List.drop_of_length_le (by rw [HL.out]; exact Nat.le_refl _)]; rfl, RRd.drew HR.out, hf.non (Fr.drewN _ _)⟩
              case round =>
                obtain ⟨t, q, htm, rfl, rfl, hq, hr, hf⟩ := hrel
                obtain ⟨c0, c1, c2, f1, f2⟩ := hr.cells
                match t, htm, hq with
                | 0, htm, hq =>
                  have HQ := Lib.hid hq
                  have HRR := Lib.hid hr
                  clear hq hr
                  go_wp2
                  go_ret
                  refine ⟨?_, ⟨i + (k + 1), ?_, ?_⟩, hf.non (Fr.setCell _ ⟨p, 1, none⟩ _)⟩
                  · rw [HT.out, HD.out, HQ.out]; simp
                  · rw [HT.out, HD.out]; simp
                  · rw [HT.out, HD.out]; exact HRR.out.set1 (i + (k + 1)) (by omega)
                | s + 1, htm, hq => exact absurd htm (by omega)
  · have T : takeNum (L.drop i) e = (0, L.drop i, e) := if_neg he
    have HT := Lib.hid T
    have he0 : ((e : Int) != 0) = true := by simp; omega
    obtain ⟨c0, c1, c2, f1, f2⟩ := h.cells
    have H := Lib.hid h
    clear T h he
    go_enter Try.func18, Try.ntmps18
    go_wp2_with fail
    go_ret
    rw [HT.out]
    exact ⟨rfl, ⟨i, rfl, H.out⟩, Fr.refl _ _⟩
end Go.Proofs.Ytemmabjndbdhlaa
