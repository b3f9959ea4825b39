/- package ikey, the document's: short keys -/
import Derived.Test.YteokfgdennjjiaaIkeyRefA
import Derived.Test.YteokfgdennjjiaaKShort
import Derived.Test.YteokfgdennjjiaaHeld
import Derived.Deep.CutBlock
import Derived.Deep.DeepCutAuto
namespace Go.Proofs.Yteokfgdennjjiaa
open Go.ChangeShapes Go.WideShapes Go.ChangeAt Go.RowKit

set_option maxRecDepth 100000 in
set_option maxHeartbeats 2000000 in
theorem refBetween_any (a b : ByteArray) (w : World) (ha : a.size ≤ 140737488355328) (hb : b.size ≤ 140737488355328) :
    Calls Try.prog 22 #[.string a, .string b] w fun e w' => e = .returned (.string (baBetween a b)) ∧ Fr Non w w' := by
  go_enter Try.func22, Try.ntmps22
  go_wp2_with fail
  go_loopw [5] (fun i' wr => ∃ (i : Nat), i' = .int .i64 i ∧ i ≤ a.size ∧ i ≤ b.size ∧ a.data.toList.take i ++ kBetween (a.data.toList.drop i) (b.data.toList.drop i) = kBetween a.data.toList b.data.toList ∧ Fr Non w wr) (fun i' _ => a.size - (intOf i').toNat)
  case atStart => exact ⟨0, rfl, by omega, by omega, rfl, Fr.refl _ _⟩
  case round =>
    obtain ⟨i, rfl, hia, hib, hv, hfr⟩ := hrel
    have HV := Lib.hid hv
    have HFR := Lib.hid hfr
    clear hv hfr
    by_cases h1 : (i : Int) < a.size
    · by_cases h2 : (i : Int) < b.size
      · have l1 : i < a.data.toList.length := by rw [ba_len]; omega
        have l2 : i < b.data.toList.length := by rw [ba_len]; omega
        have z0 : (0 : Int) ≤ i := by omega
        by_cases h3 : a[i]'(by omega) = b[i]'(by omega)
        · have x3 : ((((a[i]'(by omega)).toNat : Int)) == ((b[i]'(by omega)).toNat : Int)) = true := by rw [h3]; simp
          have HST := Lib.hid (kBetween_step l1 l2 h3)
          clear h3
          go_upto_region 2 with (fail)
          go_region
          have HF2 := Lib.hid (HFR.out.non (Fr.drew _))
          generalize wr.drew = w2 at HF2 ⊢
          go_wp2_with fail
          go_roundw
          case rel => exact ⟨i + 1, by go_num, by omega, by omega, by rw [← HST.out]; exact HV.out, HF2.out⟩
          case measure => simp [intOf]; omega
        · have x3 : ((((a[i]'(by omega)).toNat : Int)) == ((b[i]'(by omega)).toNat : Int)) = false := by
            simp only [beq_eq_false_iff_ne]
            intro h
            exact h3 (UInt8.toNat_inj.mp (by omega))
          go_upto_region 2 with (fail)
          go_region
          have HF2 := Lib.hid (HFR.out.non (Fr.drew _))
          generalize wr.drew = w2 at HF2 ⊢
          by_cases h4 : (a[i]'(by omega)).toNat + 2 ≤ (b[i]'(by omega)).toNat
          · have HC : Hid (a.data.toList.take i ++ [UInt8.ofNat ((a[i]'(by omega)).toNat + 1)] = kBetween a.data.toList b.data.toList) := Lib.hid (by rw [← HV.out]; exact (kBetween_cut l1 l2 h4).symm)
            have wa : wrap64 ((a[i]'(by omega)).toNat : Int) = ((a[i]'(by omega)).toNat : Int) := IntWalk.wrap64_in _ (by have := (a[i]'(by omega)).toNat_lt; omega)
            have wb : wrap64 ((b[i]'(by omega)).toNat : Int) = ((b[i]'(by omega)).toNat : Int) := IntWalk.wrap64_in _ (by have := (b[i]'(by omega)).toNat_lt; omega)
            have wd : wrap64 (((b[i]'(by omega)).toNat : Int) - ((a[i]'(by omega)).toNat : Int)) = ((b[i]'(by omega)).toNat : Int) - ((a[i]'(by omega)).toNat : Int) := IntWalk.wrap64_in _ (by have := (a[i]'(by omega)).toNat_lt; have := (b[i]'(by omega)).toNat_lt; omega)
            have x4 : ¬ (((b[i]'(by omega)).toNat : Int) - ((a[i]'(by omega)).toNat : Int) < 2) := by omega
            have x5 : (2 : Int) ≤ (((b[i]'(by omega)).toNat : Int) - ((a[i]'(by omega)).toNat : Int)) := by omega
            go_upto_region 4 with (fail)
            go_region
            have HF3 := Lib.hid (HF2.out.non (Fr.drew _))
            generalize w2.drew = w3 at HF3 ⊢
            obtain ⟨q, hq⟩ : ∃ q, q = (a[i]'(by omega)).toNat + 1 := ⟨_, rfl⟩
            have hq2 : q < 256 := by have := (b[i]'(by omega)).toNat_lt; omega
            have eu : IntKind.u8.wrap (((a[i]'(by omega)).toNat : Int) + 1) = (q : Int) := by rw [IntKind.wrap_u8]; omega
            have hstr := str_one (P := Try.prog) Try.underlying43 Try.underlying5 Try.underlying9 q hq2
            have hstrD := str_oneD (P := Try.prog) Try.underlying43 Try.underlying5 Try.underlying9 q hq2
            have HQ : Hid (baBetween a b = a.extract 0 i ++ ⟨#[UInt8.ofNat q]⟩) := Lib.hid (by
              refine (ba_of ?_).symm
              rw [ByteArray.data_append, Array.toList_append, extract_take, ← HC.out, hq])
            have hsz : (a.extract 0 i).size ≤ 140737488355328 := by rw [ByteArray.size_extract]; omega
            have hz : ¬ 9223372036854775807 < (a.extract 0 i).size + (⟨#[UInt8.ofNat q]⟩ : ByteArray).size := by show ¬ _ < _ + 1; omega
            have hz2 : ¬ 9223372036854775807 < min i a.size + 1 := by omega
            generalize (⟨#[UInt8.ofNat q]⟩ : ByteArray) = D at hstr hstrD HQ hz
            clear hq hq2 HC h3 x3 x4 x5 wa wb wd h4
            go_upto_region 5 with (fail)
            go_region
            have HF4 : Hid (Fr Non w (w3.alloc (.cells #[Value.int .u8 q] 5)).drew) := Lib.hid ((HF3.out.non (Fr.alloc _ _)).non (Fr.drew _))
            go_wp2_with fail
            go_ret
            exact ⟨by rw [HQ.out]; rfl, HF4.out⟩
          · have HC : Hid (a = baBetween a b) := Lib.hid (ba_of (by rw [← HV.out]; exact (kBetween_stay l1 l2 h3 h4).symm))
            have wa : wrap64 ((a[i]'(by omega)).toNat : Int) = ((a[i]'(by omega)).toNat : Int) := IntWalk.wrap64_in _ (by have := (a[i]'(by omega)).toNat_lt; omega)
            have wb : wrap64 ((b[i]'(by omega)).toNat : Int) = ((b[i]'(by omega)).toNat : Int) := IntWalk.wrap64_in _ (by have := (b[i]'(by omega)).toNat_lt; omega)
            have wd : wrap64 (((b[i]'(by omega)).toNat : Int) - ((a[i]'(by omega)).toNat : Int)) = ((b[i]'(by omega)).toNat : Int) - ((a[i]'(by omega)).toNat : Int) := IntWalk.wrap64_in _ (by have := (a[i]'(by omega)).toNat_lt; have := (b[i]'(by omega)).toNat_lt; omega)
            have x4 : (((b[i]'(by omega)).toNat : Int) - ((a[i]'(by omega)).toNat : Int) < 2) := by omega
            have x5 : ¬ (2 : Int) ≤ (((b[i]'(by omega)).toNat : Int) - ((a[i]'(by omega)).toNat : Int)) := by omega
            go_upto_region 4 with (fail)
            go_region
            have HF3 := Lib.hid (HF2.out.non (Fr.drew _))
            generalize w2.drew = w3 at HF3 ⊢
            go_wp2_with fail
            go_ret
            exact ⟨by rw [← HC.out]; rfl, HF3.out⟩
      · have HC : Hid (a = baBetween a b) := Lib.hid (ba_of (by rw [← HV.out]; exact (kBetween_end (.inr (by rw [ba_len]; omega))).symm))
        go_upto_region 2 with (fail)
        go_region
        have HF2 := Lib.hid (HFR.out.non (Fr.drew _))
        generalize wr.drew = w2 at HF2 ⊢
        go_upto_region 4 with (fail)
        go_region
        have HF3 := Lib.hid (HF2.out.non (Fr.drew _))
        generalize w2.drew = w3 at HF3 ⊢
        go_wp2_with fail
        go_ret
        exact ⟨by rw [← HC.out]; rfl, HF3.out⟩
    · have HC : Hid (a = baBetween a b) := Lib.hid (ba_of (by rw [← HV.out]; exact (kBetween_end (.inl (by rw [ba_len]; omega))).symm))
      go_upto_region 2 with (fail)
      go_region
      have HF2 := Lib.hid (HFR.out.non (Fr.drew _))
      generalize wr.drew = w2 at HF2 ⊢
      go_upto_region 4 with (fail)
      go_region
      have HF3 := Lib.hid (HF2.out.non (Fr.drew _))
      generalize w2.drew = w3 at HF3 ⊢
      go_wp2_with fail
      go_ret
      exact ⟨by rw [← HC.out]; rfl, HF3.out⟩
set_option maxRecDepth 100000 in
set_option maxHeartbeats 2000000 in
theorem refAfter_any (a : ByteArray) (w : World) (ha : a.size ≤ 140737488355328) :
    Calls Try.prog 24 #[.string a] w fun e w' => e = .returned (.string (baAfter a)) ∧ Fr Non w w' := by
  go_enter Try.func24, Try.ntmps24
  go_wp2_with fail
  go_loopw [3] (fun i' wr => ∃ (i : Nat), i' = .int .i64 i ∧ i ≤ a.size ∧ a.data.toList.take i ++ kAfter (a.data.toList.drop i) = kAfter a.data.toList ∧ Fr Non w wr) (fun i' _ => a.size - (intOf i').toNat)
  case atStart => exact ⟨0, rfl, by omega, rfl, Fr.refl _ _⟩
  case round =>
    obtain ⟨i, rfl, hia, hv, hfr⟩ := hrel
    have HV := Lib.hid hv
    have HFR := Lib.hid hfr
    clear hv hfr
    by_cases h1 : (i : Int) < a.size
    · have l1 : i < a.data.toList.length := by rw [ba_len]; omega
      have z0 : (0 : Int) ≤ i := by omega
      by_cases h4 : (a[i]'(by omega)).toNat < 255
      · have HC : Hid (a.data.toList.take i ++ [UInt8.ofNat ((a[i]'(by omega)).toNat + 1)] = kAfter a.data.toList) := Lib.hid (by rw [← HV.out]; exact (kAfter_cut l1 h4).symm)
        have x4 : ((a[i]'(by omega)).toNat : Int) < 255 := by omega
        obtain ⟨q, hq⟩ : ∃ q, q = (a[i]'(by omega)).toNat + 1 := ⟨_, rfl⟩
        have hq2 : q < 256 := by omega
        have eu : IntKind.u8.wrap (((a[i]'(by omega)).toNat : Int) + 1) = (q : Int) := by rw [IntKind.wrap_u8]; omega
        have hstr := str_one (P := Try.prog) Try.underlying43 Try.underlying5 Try.underlying9 q hq2
        have hstrD := str_oneD (P := Try.prog) Try.underlying43 Try.underlying5 Try.underlying9 q hq2
        have HQ : Hid (baAfter a = a.extract 0 i ++ ⟨#[UInt8.ofNat q]⟩) := Lib.hid (by
          refine (ba_of ?_).symm
          rw [ByteArray.data_append, Array.toList_append, extract_take, ← HC.out, hq])
        have hsz : (a.extract 0 i).size ≤ 140737488355328 := by rw [ByteArray.size_extract]; omega
        have hz : ¬ 9223372036854775807 < (a.extract 0 i).size + (⟨#[UInt8.ofNat q]⟩ : ByteArray).size := by show ¬ _ < _ + 1; omega
        generalize (⟨#[UInt8.ofNat q]⟩ : ByteArray) = D at hstr hstrD HQ hz
        clear hq hq2 HC h4
        go_upto_region 5 with (fail)
        go_region
        have HF4 : Hid (Fr Non w (wr.alloc (.cells #[Value.int .u8 q] 5)).drew) := Lib.hid ((HFR.out.non (Fr.alloc _ _)).non (Fr.drew _))
        go_wp2_with fail
        go_ret
        exact ⟨by rw [HQ.out]; rfl, HF4.out⟩
      · have x4 : ¬ ((a[i]'(by omega)).toNat : Int) < 255 := by omega
        have HST := Lib.hid (kAfter_step l1 h4)
        clear h4
        go_wp2_with fail
        go_roundw
        case rel => exact ⟨i + 1, by go_num, by omega, by rw [← HST.out]; exact HV.out, HFR.out⟩
        case measure => simp [intOf]; omega
    · have HC : Hid (a = baAfter a) := Lib.hid (ba_of (by rw [← HV.out]; exact (kAfter_end (by rw [ba_len]; omega)).symm))
      go_wp2_with fail
      go_ret
      exact ⟨by rw [← HC.out]; rfl, HFR.out⟩
end Go.Proofs.Yteokfgdennjjiaa
