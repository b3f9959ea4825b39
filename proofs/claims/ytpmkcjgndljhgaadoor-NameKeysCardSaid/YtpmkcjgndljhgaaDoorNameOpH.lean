/- package name: which heads are right; a head's bytes -/
import Derived.Test.YtpmkcjgndljhgaaDoorNameRefH
import Derived.Test.YtpmkcjgndljhgaaDoorCodecFix
import Derived.Lib.SmallJoins
import Derived.ArgAppend

namespace Go.Proofs.YtpmkcjgndljhgaaDoor
open Go.ChangeShapes Go.WideShapes Go.ChangeAt Go.RowKit

set_option maxRecDepth 100000 in
theorem right_any (h : Hd) (w : World) : Calls Tryd.prog 17 #[.agg (hdCells h).toArray] w fun e w' => e = .returned (.bool (hdRight h)) ∧ Fr Non w w' := by
  obtain ⟨k, l, g, e, n⟩ := h
  have E : hdRight ⟨k, l, g, e, n⟩ = if k = 2 then decide (l < 5) else (decide (k = 1) || decide (k = 3)) && decide (l = 0) && decide (g = 0) := rfl
  have hc : (hdCells ⟨k, l, g, e, n⟩).toArray = #[.int .u8 k, .int .u8 l, .int .u64 g, .int .u64 e, .int .u64 n] := rfl
  rw [hc]
  clear hc
  have HE := Lib.hid E
  clear E
  go_enter Tryd.func17, Tryd.ntmps17
  by_cases h2 : k = 2
  · have r : hdRight ⟨k, l, g, e, n⟩ = decide ((l : Int) < 5) := by rw [HE.out, if_pos h2]; simp only [decide_eq_decide]; omega
    have HR := Lib.hid r
    clear r HE
    subst h2
    go_wp2
    go_ret
    exact ⟨by rw [HR.out]; rfl, Fr.alloc _ _⟩
  · have i2 : ((k : Int) == 2) = false := by simp; omega
    by_cases h13 : k = 1 ∨ k = 3
    · by_cases hl : l = 0
      · subst hl
        by_cases hg : g = 0
        · subst hg
          rcases h13 with rfl | rfl
          · go_wp2
            go_ret
            exact ⟨by rw [HE.out]; rfl, Fr.alloc _ _⟩
          · go_wp2
            go_ret
            exact ⟨by rw [HE.out]; rfl, Fr.alloc _ _⟩
        · have ig : ((g : Int) == 0) = false := by simp; omega
          have r : hdRight ⟨k, 0, g, e, n⟩ = false := by rw [HE.out, if_neg h2]; simp [hg]
          have HR := Lib.hid r
          clear r hg h2
          rcases h13 with rfl | rfl
          · go_wp2
            go_ret
            exact ⟨by rw [HR.out]; rfl, Fr.alloc _ _⟩
          · go_wp2
            go_ret
            exact ⟨by rw [HR.out]; rfl, Fr.alloc _ _⟩
      · have il : ((l : Int) == 0) = false := by simp; omega
        have r : hdRight ⟨k, l, g, e, n⟩ = false := by rw [HE.out, if_neg h2]; simp [hl]
        have HR := Lib.hid r
        clear r hl h2
        rcases h13 with rfl | rfl
        · go_wp2
          go_ret
          exact ⟨by rw [HR.out]; rfl, Fr.alloc _ _⟩
        · go_wp2
          go_ret
          exact ⟨by rw [HR.out]; rfl, Fr.alloc _ _⟩
    · have i1 : ((k : Int) == 1) = false := by simp; omega
      have i3 : ((k : Int) == 3) = false := by simp; omega
      have r : hdRight ⟨k, l, g, e, n⟩ = false := by rw [HE.out, if_neg h2]; simp [show ¬ k = 1 by omega, show ¬ k = 3 by omega]
      have HR := Lib.hid r
      clear r h2 h13
      go_wp2
      go_ret
      exact ⟨by rw [HR.out]; rfl, Fr.alloc _ _⟩

/-- a head's bytes, of its three numbers the first so many -/
def layN (h : Hd) (i : Nat) : List UInt8 := tant ++ [UInt8.ofNat h.kind, UInt8.ofNat h.level] ++ (([h.gen, h.epoch, h.number].take i).map (fixF 8)).flatten
theorem layN_three (h : Hd) : layN h 3 = hdLay h := by simp [layN, hdLay]
theorem layN_step0 (h : Hd) : layN h 0 ++ fixF (clamp8 8) h.gen = layN h 1 := by rw [show clamp8 8 = 8 from rfl]; simp [layN]
theorem layN_step1 (h : Hd) : layN h 1 ++ fixF (clamp8 8) h.epoch = layN h 2 := by rw [show clamp8 8 = 8 from rfl]; simp [layN]
theorem layN_step2 (h : Hd) : layN h 2 ++ fixF (clamp8 8) h.number = layN h 3 := by rw [show clamp8 8 = 8 from rfl]; simp [layN]
theorem layN_length (h : Hd) (i : Nat) : (layN h i).length ≤ 30 := by
  have hi : i = 0 ∨ i = 1 ∨ i = 2 ∨ 3 ≤ i := by omega
  rcases hi with rfl | rfl | rfl | hi
  · simp [layN, tant]
  · simp [layN, tant, fixF_length]
  · simp [layN, tant, fixF_length]
  · rw [show layN h i = layN h 3 by simp only [layN]; rw [List.take_of_length_le (by simpa using hi), List.take_of_length_le (by simp)], layN_three, hdLay_length]; exact Nat.le_refl _

set_option maxRecDepth 100000 in
set_option maxHeartbeats 2000000 in
theorem lay_any (h : Hd) (w : World) (hk : h.ok) : Calls Tryd.prog 19 #[.agg (hdCells h).toArray] w fun e w' => ∃ v, e = .returned v ∧ Own w' w.heap.size 5 v (bs (hdLay h)) ∧ Fr Non w w' := by
  obtain ⟨i0, hi⟩ := info_parts Tryd.info5
  have HI := Lib.hid hi
  have HK := Lib.hid hk
  have e2 : bs tant ++ [.int .u8 h.kind, .int .u8 h.level] = bs (layN h 0) := by
    show _ = [_, _, _, _, Value.int .u8 _, Value.int .u8 _]
    rw [ofNat_toNat _ hk.1, ofNat_toNat _ hk.2.1]
    rfl
  have HE2 := Lib.hid e2
  clear hi hk e2
  go_enter Tryd.func19, Tryd.ntmps19
  go_upto_region 1 with (fail)
  have hb1 := Blk.new w 32 (hdCells h)
  have hf1 := Fr.alloc w (.cells (hdCells h).toArray 32)
  have hs1 : (w.alloc (.cells (hdCells h).toArray 32)).heap.size = w.heap.size + 1 := by simp
  generalize w.alloc (.cells (hdCells h).toArray 32) = w1 at hb1 hf1 hs1 ⊢
  obtain ⟨c0, c1, c2, c3, c4⟩ := hdCells_at hb1
  have hkc : (convert 33 33 (.slice (some ⟨w.heap.size + 1, 0, none⟩) 4 4)).run Tryd.prog (w1.alloc (.cells #[.int .u8 116, .int .u8 97, .int .u8 110, .int .u8 116] 5)) = .ok (.slice (some ⟨w.heap.size + 1, 0, none⟩) 4 4) (w1.alloc (.cells #[.int .u8 116, .int .u8 97, .int .u8 110, .int .u8 116] 5 (4, 5))) :=
    Go.Joins.run_convert_bytes_const_at (P := Tryd.prog) w1 33 5 #[.int .u8 116, .int .u8 97, .int .u8 110, .int .u8 116] 4 4 _ hs1.symm Tryd.underlying33 Tryd.underlying5
  have hf2 := Fr.alloc w1 (.cells #[.int .u8 116, .int .u8 97, .int .u8 110, .int .u8 116] 5 (4, 5))
  have d0 := hf2.cell c0 (fun h => h)
  have d1 := hf2.cell c1 (fun h => h)
  have hol : ∀ j u, (bs tant)[j]? = some u → (w1.alloc (.cells #[.int .u8 116, .int .u8 97, .int .u8 110, .int .u8 116] 5 (4, 5))).cell? ⟨w.heap.size + 1, 0 + j, none⟩ = some u := fun j u hj => by
    rw [Nat.zero_add]
    exact (Go.Joins.cell_alloc_mark_at w1 (bs tant).toArray 5 (4, 5) (w.heap.size + 1) j hs1.symm).trans (by rw [List.getElem?_toArray]; exact hj)
  have hs2 : (w1.alloc (.cells #[.int .u8 116, .int .u8 97, .int .u8 110, .int .u8 116] 5 (4, 5))).heap.size = w.heap.size + 2 := by simp [hs1]
  clear c0 c1 c2 c3 c4
  have HH1 := Lib.hid (hb1.non hf2)
  have HF1 := Lib.hid (hf1.non hf2)
  have HOL := Lib.hid hol
  clear hb1 hf1 hf2 hol
  have hfn := Fr.alloc (w1.alloc (.cells #[.int .u8 116, .int .u8 97, .int .u8 110, .int .u8 116] 5 (4, 5))) (.cells #[.int .u8 h.kind, .int .u8 h.level] 5)
  have hnew : ∀ j u, [Value.int .u8 h.kind, Value.int .u8 h.level][j]? = some u → ((w1.alloc (.cells #[.int .u8 116, .int .u8 97, .int .u8 110, .int .u8 116] 5 (4, 5))).alloc (.cells #[.int .u8 h.kind, .int .u8 h.level] 5)).cell? ((⟨w.heap.size + 2, 0, none⟩ : Addr).add j) = some u := fun j u hj => by
    rw [Addr.add_lit, Nat.zero_add, ← hs2, World.cell?_alloc_new]
    exact (List.getElem?_toArray (xs := [Value.int .u8 h.kind, Value.int .u8 h.level])).trans hj
  have HFN := Lib.hid hfn
  have HNW := Lib.hid hnew
  clear hfn hnew
  go_wp2_with (at_builtin; refine wpList_append_arg _ rfl _ _ 33 rfl 5 i0 (.int .u8 0) 1 1 Tryd.underlying33 HI.out.1 HI.out.2.1 HI.out.2.2.1 HI.out.2.2.2 rfl (by decide) (w.heap.size + 1) 0 4 4 (bs tant) rfl rfl ?olds ⟨w.heap.size + 2, 0, none⟩ 2 2 [.int .u8 h.kind, .int .u8 h.level] ?two rfl ?news ?ones ?spare ?b1 ?b2 ?room ?grow)
  case two => rfl
  case olds => exact fun j u hj => HFN.out.cell (HOL.out j u hj) (fun h => h)
  case news => exact HNW.out
  case ones => intro u hu; simp only [List.mem_cons, List.not_mem_nil, or_false] at hu; rcases hu with rfl | rfl <;> rfl
  case spare => intro h; omega
  case b1 => decide
  case b2 => decide
  case grow =>
    intro v3 w3 hown hgr
    have hfr : Fr Non w w3 := (HF1.out.non HFN.out).non (Fr.ofGrownNone hgr)
    have hb3 := (HH1.out.non HFN.out).non (Fr.ofGrownNone hgr)
    rw [HE2.out] at hown
    have ho3 : Own w3 w.heap.size 5 v3 (bs (layN h 0)) := by
      have h6 : (bs (layN h 0)).length = 6 := by rw [← HE2.out]; rfl
      refine Own.mono (base := w.heap.size + 2 + 1) ?_ (by omega)
      show World.ownsRow _ _ _ _ _ (bs (layN h 0)).length _
      rw [h6]
      exact hown
    obtain ⟨c0, c1, c2, c3, c4⟩ := hdCells_at hb3
    have HO3 := Lib.hid ho3
    have HF3 := Lib.hid hfr
    clear hown hgr hfr ho3 hb3 HH1 HF1 HOL HFN HNW hs1 hs2 hkc d0 d1 HE2
    go_wp2_with fail
    clear c0 c1 c2 c3 c4
    obtain ⟨A, hA⟩ : ∃ A : Value, Value.agg #[Value.int .u64 h.gen, Value.int .u64 h.epoch, Value.int .u64 h.number] = A := ⟨_, rfl⟩
    have HIX : Hid ((∀ w, (Instr.index 58 A (.int .i64 0)).run Tryd.prog w = .ok (.int .u64 h.gen) w) ∧ (∀ w, (Instr.index 58 A (.int .i64 1)).run Tryd.prog w = .ok (.int .u64 h.epoch) w) ∧ (∀ w, (Instr.index 58 A (.int .i64 2)).run Tryd.prog w = .ok (.int .u64 h.number) w)) := Lib.hid (by subst hA; exact ⟨fun _ => by kernel_rfl, fun _ => by kernel_rfl, fun _ => by kernel_rfl⟩)
    rw [hA]
    clear hA
    go_loopw [3, 21] (fun v' i' wr => ∃ (i : Nat) (v : Value), i' = .int .i64 i ∧ i ≤ 3 ∧ v' = v ∧ Own wr w.heap.size 5 v (bs (layN h i)) ∧ Fr Non w wr) (fun _ i' _ => 3 - (intOf i').toNat)
    case atStart => exact ⟨0, v3, rfl, by omega, rfl, HO3.out, HF3.out⟩
    case round =>
      obtain ⟨i, v, rfl, hi, rfl, hO, hF⟩ := hrel
      rcases (show i = 0 ∨ i = 1 ∨ i = 2 ∨ i = 3 by omega) with rfl | rfl | rfl | rfl
      · rw [show (0 : Nat) = 0 from rfl] at hO
        have HOk := Lib.hid hO
        have HFk := Lib.hid hF
        clear hO hF
        have hix := HIX.out.1
        go_wp2_with (go_at_call 32; refine (Fix_any _ _ _ _ _ HOk.out.row (HK.out.2.2.1) (by have := layN_length h 0; omega)).mono ?_; rintro e wk ⟨vk, rfl, hO2, hF2⟩; rw [layN_step0] at hO2)
        go_roundw
        case rel => exact ⟨1, vk, by go_num, by omega, rfl, hO2.mono HFk.out.size, HFk.out.non hF2⟩
        case measure => simp [intOf]
      · rw [show (1 : Nat) = 1 from rfl] at hO
        have HOk := Lib.hid hO
        have HFk := Lib.hid hF
        clear hO hF
        have hix := HIX.out.2.1
        go_wp2_with (go_at_call 32; refine (Fix_any _ _ _ _ _ HOk.out.row (HK.out.2.2.2.1) (by have := layN_length h 1; omega)).mono ?_; rintro e wk ⟨vk, rfl, hO2, hF2⟩; rw [layN_step1] at hO2)
        go_roundw
        case rel => exact ⟨2, vk, by go_num, by omega, rfl, hO2.mono HFk.out.size, HFk.out.non hF2⟩
        case measure => simp [intOf]
      · rw [show (2 : Nat) = 2 from rfl] at hO
        have HOk := Lib.hid hO
        have HFk := Lib.hid hF
        clear hO hF
        have hix := HIX.out.2.2
        go_wp2_with (go_at_call 32; refine (Fix_any _ _ _ _ _ HOk.out.row (HK.out.2.2.2.2) (by have := layN_length h 2; omega)).mono ?_; rintro e wk ⟨vk, rfl, hO2, hF2⟩; rw [layN_step2] at hO2)
        go_roundw
        case rel => exact ⟨3, vk, by go_num, by omega, rfl, hO2.mono HFk.out.size, HFk.out.non hF2⟩
        case measure => simp [intOf]
      · rw [layN_three] at hO
        have HOk := Lib.hid hO
        have HFk := Lib.hid hF
        clear hO hF
        go_wp2_with fail
        go_ret
        exact ⟨_, rfl, HOk.out, HFk.out⟩
end Go.Proofs.YtpmkcjgndljhgaaDoor
