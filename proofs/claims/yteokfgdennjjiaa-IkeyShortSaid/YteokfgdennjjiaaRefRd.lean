/- the document's answers of layer 1: its reader, and fixed numbers -/
import Derived.Test.YteokfgdennjjiaaCodecRd
import Derived.Test.YteokfgdennjjiaaWords
import Derived.Deep.RegionHeld3
import Derived.Deep.CutBlock
import Derived.Deep.DeepCutAuto
namespace Go.Proofs.Yteokfgdennjjiaa
open Go.ChangeShapes Go.WideShapes Go.ChangeAt Go.RowKit

theorem Row.frame' {S : Nat → Prop} {w w' : World} {v : Value} {l : List UInt8} (h : Row w v (bs l)) (f : Fr S w w') (hn : l ≠ [] → Off S v) : Row w' v (bs l) := by
  by_cases hl : l = []
  · subst hl
    obtain ⟨a, c, rfl, h1, h2, h3, _⟩ := h
    exact ⟨a, c, rfl, h1, h2, h3, fun j hj => absurd hj (by simp [bs])⟩
  · exact h.frame f (hn hl)
/-- the document's reader at block p: its bytes, its place, its fault -/
def RRd (w : World) (p : Nat) (v : Value) (L : List UInt8) (i e : Nat) : Prop :=
  w.heap[p]? = some (.cells #[v, .int .i64 i, .int .i64 e] 50 (0, 0)) ∧ Row w v (bs L) ∧ (L ≠ [] → Off (One p) v) ∧ i ≤ L.length ∧ ∃ a c, v = .slice a L.length c

theorem RRd.cells {w : World} {p : Nat} {v : Value} {L : List UInt8} {i e : Nat} (h : RRd w p v L i e) :
    w.cell? ⟨p, 0, none⟩ = some v ∧ w.cell? ⟨p, 1, none⟩ = some (.int .i64 i) ∧ w.cell? ⟨p, 2, none⟩ = some (.int .i64 e) ∧ w.frozen? ⟨p, 1, none⟩ = false ∧ w.frozen? ⟨p, 2, none⟩ = false :=
  ⟨(block_cells h.1 0).1, (block_cells h.1 1).1, (block_cells h.1 2).1, (block_cells h.1 1).2, (block_cells h.1 2).2⟩

theorem RRd.drew {w : World} {p : Nat} {v : Value} {L : List UInt8} {i e n : Nat} (h : RRd w p v L i e) : RRd (w.drewN n) p v L i e := h

theorem RRd.set1 {w : World} {p : Nat} {v : Value} {L : List UInt8} {i e : Nat} (h : RRd w p v L i e) (i' : Nat) (hi : i' ≤ L.length) : RRd (w.setCell ⟨p, 1, none⟩ (.int .i64 i')) p v L i' e := by
  obtain ⟨h1, h2, h3, h4, h5⟩ := h
  exact ⟨block_setCell h1 1 _, h2.frame' (Fr.setCell _ ⟨p, 1, none⟩ _) h3, h3, hi, h5⟩
theorem RRd.set2 {w : World} {p : Nat} {v : Value} {L : List UInt8} {i e : Nat} (h : RRd w p v L i e) (e' : Nat) : RRd (w.setCell ⟨p, 2, none⟩ (.int .i64 e')) p v L i e' := by
  obtain ⟨h1, h2, h3, h4, h5⟩ := h
  exact ⟨block_setCell h1 2 _, h2.frame' (Fr.setCell _ ⟨p, 2, none⟩ _) h3, h3, h4, h5⟩

theorem RRd.drew1 {w : World} {p : Nat} {v : Value} {L : List UInt8} {i e : Nat} (h : RRd w p v L i e) : RRd w.drew p v L i e := h
theorem RRd.frame {S : Nat → Prop} {w w' : World} {p : Nat} {v : Value} {L : List UInt8} {i e : Nat} (h : RRd w p v L i e) (f : Fr S w w') (hp : ¬ S p) (hv : Row w' v (bs L)) : RRd w' p v L i e := by
  obtain ⟨h1, h2, h3, h4, h5⟩ := h
  exact ⟨f.heap h1 hp, hv, h3, h4, h5⟩
/-- a slice of bytes that were there lies off all that is new -/
theorem Row.old {w : World} {v : Value} {xs : List Value} (h : Row w v xs) (hn : 0 < xs.length) {S : Nat → Prop} (hS : ∀ k, S k → w.heap.size ≤ k) : Off S v := by
  obtain ⟨b, off, n, c, rfl, -, hc⟩ := run_at h 0 _ (List.getElem?_eq_getElem hn)
  intro b' off' n' c' e hb
  injection e with e1 _ _
  injection e1 with e1
  injection e1 with e1 _ _
  subst e1
  have h1 := World.block_lt_of_cell? w _ hc
  have h2 := hS _ hb
  simp only [] at h1
  omega
theorem fail_any (w : World) (p : Nat) (v : Value) (L : List UInt8) (i e e' : Nat) (h : RRd w p v L i e) :
    Calls Try.prog 44 #[.pointer (some ⟨p, 0, none⟩), .int .i64 e'] w fun en w' => en = .returned (.tuple #[]) ∧ RRd w' p v L i e' ∧ Fr (One p) w w' := by
  obtain ⟨c0, c1, c2, f1, f2⟩ := h.cells
  have H := Lib.hid h
  clear h
  go_enter Try.func44, Try.ntmps44
  go_wp2
  go_end0
  exact ⟨rfl, H.out.set2 e', Fr.setCell w ⟨p, 2, none⟩ _⟩

set_option maxRecDepth 100000 in
set_option maxHeartbeats 2000000 in
theorem rrFix_any (w : World) (p : Nat) (v : Value) (L : List UInt8) (i e : Nat) (many : Int) (h : RRd w p v L i e) :
    Calls Try.prog 32 #[.pointer (some ⟨p, 0, none⟩), .int .i64 many] w fun en w' => en = .returned (.int .u64 (takeFix (L.drop i) e many).1) ∧
      (∃ i', (takeFix (L.drop i) e many).2.1 = L.drop i' ∧ RRd w' p v L i' (takeFix (L.drop i) e many).2.2) ∧ Fr (One p) w w' := by
  by_cases he : e = 0
  · subst he
    have T : takeFix (L.drop i) 0 many = ((unfixed (L.drop i) many).1, if (unfixed (L.drop i) many).2 = 0 then (L.drop i).drop many.toNat else L.drop i, (unfixed (L.drop i) many).2) := if_pos rfl
    have U : unfixed (L.drop i) many = if many < 0 ∨ 8 < many then (0, 1) else if ((L.drop i).length : Int) < many then (0, 10) else (unfix ((L.drop i).take many.toNat), 0) := rfl
    rcases (show many < 0 ∨ 8 < many ∨ (0 ≤ many ∧ many ≤ 8) by omega) with hm | hm | ⟨hm, hm8⟩
    · rw [if_pos (.inl hm)] at U
      rw [U] at T
      have HT := Lib.hid T
      obtain ⟨c0, c1, c2, f1, f2⟩ := h.cells
      have H := Lib.hid h
      clear U T h
      go_enter Try.func32, Try.ntmps32
      go_wp2_with fail
      refine (fail_any w p v L i 0 1 H.out).mono ?_
      rintro en w1 ⟨rfl, hr, hf⟩
      go_wp2_with fail
      go_ret
      rw [HT.out]
      exact ⟨rfl, ⟨i, rfl, hr⟩, hf⟩
    · rw [if_pos (.inr hm)] at U
      rw [U] at T
      have HT := Lib.hid T
      obtain ⟨c0, c1, c2, f1, f2⟩ := h.cells
      have H := Lib.hid h
      clear U T h
      go_enter Try.func32, Try.ntmps32
      go_wp2_with fail
      refine (fail_any w p v L i 0 1 H.out).mono ?_
      rintro en w1 ⟨rfl, hr, hf⟩
      go_wp2_with fail
      go_ret
      rw [HT.out]
      exact ⟨rfl, ⟨i, rfl, hr⟩, hf⟩
    · rw [if_neg (by omega)] at U
      obtain ⟨m, rfl⟩ := Int.eq_ofNat_of_zero_le hm
      rw [List.length_drop, Int.toNat_natCast] at U
      rw [Int.toNat_natCast] at T
      have hiL := h.2.2.2.1
      have hmx := h.2.1.le
      rw [bs_length] at hmx
      unfold maxLen at hmx
      obtain ⟨a, c, rfl⟩ := h.2.2.2.2
      by_cases hs : L.length - i < m
      · rw [if_pos (by omega)] at U
        rw [U] at T
        have HT := Lib.hid T
        obtain ⟨c0, c1, c2, f1, f2⟩ := h.cells
        have H := Lib.hid h
        clear U T h
        go_enter Try.func32, Try.ntmps32
        go_wp2_with fail
        go_quiet (fail)
        go_wp2_with fail
        refine (fail_any _ p _ L i 0 10 (RRd.drew H.out)).mono ?_
        rintro en w1 ⟨rfl, hr, hf⟩
        go_wp2_with fail
        go_ret
        rw [HT.out]
        exact ⟨rfl, ⟨i, rfl, hr⟩, (Fr.drewN _ _).non hf⟩
      · rw [if_neg (by omega)] at U
        rw [U] at T
        have HT := Lib.hid T
        obtain ⟨c0, c1, c2, f1, f2⟩ := h.cells
        have H := Lib.hid h
        have hmL : i + m ≤ L.length := by omega
        clear U T h hs
        go_enter Try.func32, Try.ntmps32
        go_wp2_with fail
        go_quiet (fail)
        go_wp2_with fail
        go_loopw [5, 6] (fun n' j' wr => ∃ t q : Nat, t ≤ m ∧ j' = .int .i64 ((t : Int) - 1) ∧ n' = .int .u64 q ∧ q = unfix ((L.drop (i + t)).take (m - t)) ∧ RRd wr p (.slice a L.length c) L i 0 ∧ Fr Non w wr) (fun _ j' _ => (intOf j' + 1).toNat)
        case atStart => exact ⟨m, 0, Nat.le_refl _, rfl, rfl, by simp [unfix], RRd.drew H.out, Fr.drewN _ _⟩
        case round =>
          obtain ⟨t, q, htm, rfl, rfl, hq, hr, hf⟩ := hrel
          obtain ⟨c0, c1, c2, f1, f2⟩ := hr.cells
          match t, htm, hq with
          | 0, htm, hq =>
            have HQ := Lib.hid hq
            have HR := Lib.hid hr
            clear hq hr
            go_wp2
            go_ret
            refine ⟨?_, ⟨i + m, ?_, ?_⟩, hf.non (Fr.setCell _ ⟨p, 1, none⟩ _)⟩
            · rw [HT.out, HQ.out]; simp
            · rw [HT.out]; simp
            · rw [HT.out]; exact HR.out.set1 (i + m) hmL
          | s + 1, htm, hq =>
            have hdr : (L.drop (i + s)).take (m - s) = L[i + s]! :: (L.drop (i + (s + 1))).take (m - (s + 1)) := by
              rw [List.drop_eq_getElem_cons (by omega), show m - s = (m - (s + 1)) + 1 by omega, List.take_succ_cons, getElem!_pos L (i + s) (by omega)]
              rfl
            have hq2 : unfix ((L.drop (i + s)).take (m - s)) = (L[i + s]!).toNat + 256 * q := by rw [hdr, hq]; rfl
            have hqlt : q < 256 ^ (m - (s + 1)) := by
              rw [hq]
              have h1 := unfix_lt ((L.drop (i + (s + 1))).take (m - (s + 1)))
              rwa [List.length_take, List.length_drop, Nat.min_eq_left (by omega)] at h1
            have hq56 : q < 72057594037927936 := Nat.lt_of_lt_of_le hqlt (by have : (256 : Nat) ^ (m - (s + 1)) ≤ 256 ^ 7 := Nat.pow_le_pow_right (by omega) (by omega); simpa using this)
            obtain ⟨b, off, n2, c2', e0, -, hcell⟩ := run_at hr.2.1 (i + s) (.int .u8 ((L[i + s]!).toNat : Int)) (by rw [getElem!_pos L (i + s) (by omega)]; simp [bs]; exact ⟨_, List.getElem?_eq_getElem (by omega), rfl⟩)
            have hx := (L[i + s]!).toNat_lt
            generalize (L[i + s]!).toNat = x at hq2 hcell hx
            injection e0 with e1 e2 e3
            subst e1
            clear e2 e3
            have HQ2 := Lib.hid hq2
            have HR := Lib.hid hr
            have es : (((s + 1 : Nat) : Int) - 1) = (s : Int) := by omega
            rw [es]
            have hs1 : (i : Int) + (s : Int) < (L.length : Int) := by omega
            have hs0 : (0 : Int) ≤ (i : Int) + (s : Int) := by omega
            clear hq hr es hqlt hdr hq2
            go_wp2_with fail
            go_quiet (fail)
            go_wp2
            go_roundw
            case rel => exact ⟨s, q * 256 + x, by omega, by go_num, by go_num, by rw [HQ2.out]; omega, RRd.drew HR.out, hf.non (Fr.drewN _ _)⟩
            case measure => simp [intOf]
  · have T : takeFix (L.drop i) e many = (0, L.drop i, e) := if_neg he
    have HT := Lib.hid T
    have he0 : ((e : Int) != 0) = true := by simp; omega
    obtain ⟨c0, c1, c2, f1, f2⟩ := h.cells
    have H := Lib.hid h
    clear T h he
    go_enter Try.func32, Try.ntmps32
    go_wp2_with fail
    go_ret
    rw [HT.out]
    exact ⟨rfl, ⟨i, rfl, H.out⟩, Fr.refl _ _⟩

end Go.Proofs.Yteokfgdennjjiaa
