/- package name: a number's digits in a name; names -/
import Derived.Test.YtpmkcjgndljhgaaDoorNumPlain
import Derived.Test.YtpmkcjgndljhgaaDoorGroundA
import Derived.Test.YtpmkcjgndljhgaaDoorPow
import Derived.Test.YtpmkcjgndljhgaaDoorShelf
import Derived.Lib.ItoaMem
import Derived.Lib.MinMax

namespace Go.Proofs.YtpmkcjgndljhgaaDoor
open Go.ChangeShapes Go.WideShapes Go.ChangeAt Go.RowKit Go.Sort

theorem holds_zero0 (w : World) (T : TypeId) (nd : Nat) (hs : nd ≤ 24) : Holds (fun (b : UInt8) => Value.int .u8 (b.toNat : Int)) (w.alloc (.cells Lib.zeros24 T)) w.heap.size 0 (Array.replicate nd (0 : UInt8)) := fun j hj => by
  have hj' : j < nd := by simpa using hj
  refine ⟨?_, World.frozen?_alloc_new _ _ _ _⟩
  rw [World.cell?_alloc_new, Lib.zeros24_at _ (by omega), getElem!_pos _ j hj]
  simp
theorem fr_putNew (w : World) (o : Obj) (off : Nat) (dk : Array UInt8) (k : Nat) : Fr Non w ((putRow (fun (b : UInt8) => Value.int .u8 (b.toNat : Int)) (w.alloc o) w.heap.size off dk).drewN k) := by
  obtain ⟨os', e⟩ : ∃ os', putRow (fun (b : UInt8) => Value.int .u8 (b.toNat : Int)) (w.alloc o) w.heap.size off dk = grow w os' := by
    rw [alloc_eq_grow]
    obtain ⟨os', _, e⟩ := putRow_grow_new (fun (b : UInt8) => Value.int .u8 (b.toNat : Int)) w #[o] w.heap.size off dk (Nat.le_refl _)
    exact ⟨os', e⟩
  rw [e]
  exact ⟨rfl, rfl, rfl, by show w.heap.size ≤ (w.heap ++ os').size; rw [Array.size_append]; omega, fun j hj _ => heap_grow_old w os' hj⟩

set_option maxRecDepth 100000 in
theorem fmt_any (u : Nat) (w : World) (hu : u < 18446744073709551616) (ht : PowT w) :
    Calls Tryd.prog 46 #[.int .u64 u, .int .i64 10] w fun e w' => e = .returned (.string ⟨(Lib.decDigits u).toArray⟩) ∧ Fr Non w w' := by
  by_cases hs : u < 100
  · go_enter Tryd.func46, Tryd.ntmps46
    go_wp2_with (go_at_call 59; refine (Tryd.internal_strconv_small u hs _).mono ?_; rintro e w' ⟨rfl, rfl⟩)
    go_ret
    exact ⟨rfl, Fr.refl _ _⟩
  · have hu1 : 1 ≤ u := by omega
    have hnd20 : Lib.nDigits u ≤ 20 := Lib.nDigits_le20 u hu
    have hal : Tryd.prog.arrayLen 95 = 24 := by kernel_rfl
    have hsl1 : ∀ W, (Instr.sliceAt 95 (.pointer (some ⟨w.heap.size, 0, none⟩)) none (some (.int .i64 (Lib.nDigits u : Int))) none).run Tryd.prog W = .ok (.slice (some ⟨w.heap.size, 0, none⟩) (Lib.nDigits u) 24) W := fun W => by
      rw [run_sliceAt_array_h W 95 ⟨w.heap.size, 0, none⟩ (by kernel_rfl) .i64 (Lib.nDigits u : Int) (by omega) (by rw [hal]; omega)]
      go_simp
    have hH0 := holds_zero0 w 95 (Lib.nDigits u) (by omega)
    have hfmt := Tryd.internal_strconv_formatBase10 w.heap.size 0 24 u (Array.replicate (Lib.nDigits u) 0) (w.alloc (.cells Lib.zeros24 95)) hH0 (by rw [Array.size_replicate]; exact Lib.lt_pow_nDigits u) hu (by rw [Array.size_replicate]; omega)
    rw [Array.size_replicate] at hfmt
    have HH0 := Lib.hid hH0
    have HT := Lib.hid ht
    clear hH0 hal ht
    go_enter Tryd.func46, Tryd.ntmps46
    go_wp2_with (go_at_call 60; refine (Tryd.internal_strconv_numDigits u hu1 hu _ (Lib.tabIs_alloc HT.out _)).mono ?_; rintro e w' ⟨rfl, rfl⟩)
    go_at_call 61
    refine hfmt.mono ?_
    rintro e w' ⟨rfl, k, v', dk, rfl, hF⟩
    have hcv : (convert 33 9 (.slice (some ⟨w.heap.size, 0, none⟩) (Lib.nDigits u) 24)).run Tryd.prog ((putRow (fun (b : UInt8) => Value.int .u8 (b.toNat : Int)) (w.alloc (.cells Lib.zeros24 95)) w.heap.size 0 dk).drewN k) = .ok (.string ⟨(Lib.decDigits u).toArray⟩) ((putRow (fun (b : UInt8) => Value.int .u8 (b.toNat : Int)) (w.alloc (.cells Lib.zeros24 95)) w.heap.size 0 dk).drewN k) := by
      have h := run_convert_bytes_back (P := Tryd.prog) ((putRow (fun (b : UInt8) => Value.int .u8 (b.toNat : Int)) (w.alloc (.cells Lib.zeros24 95)) w.heap.size 0 dk).drewN k) 33 9 5 ⟨w.heap.size, 0, none⟩ 24 (Lib.decDigits u) Tryd.underlying33 Tryd.underlying5 Tryd.underlying9 (fun j hj => by
        rw [Lib.row_is_numeral hF j hj, Lib.add_plain, World.cell?_drewN]
        exact cell?_putRow (fun (b : UInt8) => Value.int .u8 (b.toNat : Int)) _ w.heap.size 0 _ dk HH0.out (by rw [hF.size, Array.size_replicate]) j (by rw [hF.size]; rw [Lib.decDigits_length] at hj; exact hj))
      rw [Lib.decDigits_length] at h
      exact h
    go_wp2
    go_ret
    exact ⟨rfl, fr_putNew w _ 0 dk k⟩

theorem fmtU_any (u : Nat) (w : World) (hu : u < 18446744073709551616) (ht : PowT w) :
    Calls Tryd.prog 36 #[.int .u64 u, .int .i64 10] w fun e w' => e = .returned (.string ⟨(Lib.decDigits u).toArray⟩) ∧ Fr Non w w' := by
  go_enter Tryd.func36, Tryd.ntmps36
  go_wp2_with (go_at_call 46; refine (fmt_any u _ hu ht).mono ?_; rintro e w' ⟨rfl, hf⟩)
  go_ret
  exact ⟨rfl, hf⟩

theorem Fr.ofBelow {a b : World} (h : Below a.heap.size a b) : Fr Non a b := ⟨h.os, h.tape, h.output, h.size, fun k hk _ => h.block k hk⟩
set_option maxRecDepth 100000 in
theorem digits_any (n : Nat) (w : World) (hn : n < 18446744073709551616) (ht : PowT w) :
    Calls Tryd.prog 25 #[.int .u64 n] w fun e w' => e = .returned (.string ⟨(digs 6 n).toArray⟩) ∧ Fr Non w w' := by
  have hlen := decDigits_length_le n hn
  obtain ⟨D, hD⟩ : ∃ D : ByteArray, (⟨(Lib.decDigits n).toArray⟩ : ByteArray) = D := ⟨_, rfl⟩
  have hDs : D.size = (Lib.decDigits n).length := by rw [← hD]; rfl
  have hc (w : World) (ht : PowT w) := fmtU_any n w hn ht
  rw [hD] at hc
  obtain ⟨c, hcc⟩ : ∃ c, 6 - (Lib.decDigits n).length = c := ⟨_, rfl⟩
  obtain ⟨E, hE⟩ : ∃ E : ByteArray, (⟨(Lib.repeatL [48] c).toArray⟩ : ByteArray) = E := ⟨_, rfl⟩
  have hEs : E.size = c := by
    rw [← hE]
    show (Lib.repeatL [48] c).length = c
    rw [Lib.repeatL_length]; simp
  have hfin : E ++ D = ⟨(digs 6 n).toArray⟩ := by
    rw [digs_dec, hcc, ← hE, ← hD]
    apply ByteArray.ext
    simp
  have hrep (w : World) : Calls Tryd.prog 37 #[.string ⟨#[48]⟩, .int .i64 c] w fun e w' => e = .returned (.string E) ∧ Below w.heap.size w w' := by
    have h := Tryd.strings_Repeat ⟨#[48]⟩ c w (by omega) (by have : (⟨#[48]⟩ : ByteArray).size = 1 := rfl; rw [this]; omega)
    rw [← hE]
    exact h
  have hmax : ((max (6 - (D.size : Int)) 0 : Int)) = (c : Int) := by omega
  have hmx (w : World) : (Builtin.max_ #[3, 3] 3 #[.int .i64 (6 - (D.size : Int)), .int .i64 0]).run Tryd.prog w = .ok (.int .i64 c) w := by
    have h : (if (6 - (D.size : Int)) < 0 then (0 : Int) else 6 - (D.size : Int)) = c := by split <;> omega
    first | (rw [run_max_int2]; simp only [h]) | (simp [Builtin.max_, Builtin.max2]; omega)
  have HD := Lib.hid hDs
  have HC := Lib.hid hc
  have HF := Lib.hid hfin
  have HR := Lib.hid hrep
  have HT := Lib.hid ht
  have hD20 : D.size ≤ 20 := by omega
  have hE6 : E.size ≤ 6 := by omega
  clear hmax hD hDs hc hcc hE hEs hfin hrep ht hlen
  go_enter Tryd.func25, Tryd.ntmps25
  go_wp2_with (first
    | (go_at_call 36; refine (HC.out _ HT.out).mono ?_; rintro e w1 ⟨rfl, hf1⟩)
    | (go_at_call 37; refine (HR.out _).mono ?_; rintro e w2 ⟨rfl, hf2⟩)
    | fail)
  go_ret
  exact ⟨by rw [HF.out]; rfl, hf1.non (Fr.ofBelow hf2)⟩

set_option maxRecDepth 100000 in
theorem name_any (kind n : Nat) (w : World) (hk : kind < 256) (hn : n < 18446744073709551616) (ht : PowT w) :
    Calls Tryd.prog 11 #[.int .u8 kind, .int .u64 n] w fun e w' => e = .returned (.string ⟨(nmName kind n).toArray⟩) ∧ Fr Non w w' := by
  obtain ⟨D, hD⟩ : ∃ D : ByteArray, D = ⟨(digs 6 n).toArray⟩ := ⟨_, rfl⟩
  have hDs : D.size ≤ 20 := by rw [hD]; exact digs_length_le 6 20 n (by omega) (by omega)
  have HD := Lib.hid hD
  have HN := Lib.hid hn
  have call (w : World) (ht : PowT w) := digits_any n w hn ht
  have HT := Lib.hid ht
  rw [← hD] at call
  have HC := Lib.hid call
  clear hn hD call ht
  go_enter Tryd.func11, Tryd.ntmps11
  by_cases h1 : kind = 1
  · subst h1
    go_wp2_with (go_at_call 25; refine (HC.out _ HT.out).mono ?_; rintro e w1 ⟨rfl, hf⟩)
    go_ret
    exact ⟨by rw [HD.out]; rfl, hf⟩
  by_cases h2 : kind = 2
  · subst h2
    go_wp2_with (go_at_call 25; refine (HC.out _ HT.out).mono ?_; rintro e w1 ⟨rfl, hf⟩)
    go_ret
    exact ⟨by rw [HD.out]; rfl, hf⟩
  by_cases h3 : kind = 3
  · subst h3
    go_wp2_with (go_at_call 25; refine (HC.out _ HT.out).mono ?_; rintro e w1 ⟨rfl, hf⟩)
    go_ret
    exact ⟨by rw [HD.out]; rfl, hf⟩
  by_cases h4 : kind = 4
  · subst h4
    go_wp2
    go_ret
    exact ⟨rfl, Fr.refl _ _⟩
  by_cases h5 : kind = 5
  · subst h5
    go_wp2
    go_ret
    exact ⟨rfl, Fr.refl _ _⟩
  have E : nmName kind n = [] := by simp [nmName, h1, h2, h3, h4, h5]
  have HE := Lib.hid E
  have i1 : ((kind : Int) == 1) = false := by simp; omega
  have i2 : ((kind : Int) == 2) = false := by simp; omega
  have i3 : ((kind : Int) == 3) = false := by simp; omega
  have i4 : ((kind : Int) == 4) = false := by simp; omega
  have i5 : ((kind : Int) == 5) = false := by simp; omega
  clear E h1 h2 h3 h4 h5
  go_wp2
  go_ret
  exact ⟨by rw [HE.out]; rfl, Fr.refl _ _⟩
end Go.Proofs.YtpmkcjgndljhgaaDoor
