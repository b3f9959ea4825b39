/- package ikey: short keys -/
import Derived.Test.YteokfgdennjjiaaIkeyRefA
import Derived.Test.YteokfgdennjjiaaKShort
import Derived.Test.YteokfgdennjjiaaHeld
import Derived.Test.YteokfgdennjjiaaShelf
import Derived.Lib.MinMax
import Derived.Deep.CutBlock
import Derived.Deep.DeepCutAuto
namespace Go.Proofs.Yteokfgdennjjiaa
open Go.ChangeShapes Go.WideShapes Go.ChangeAt Go.RowKit

theorem Fr.ofBelow' {a b : World} (h : Below a.heap.size a b) : Fr Non a b := ⟨h.os, h.tape, h.output, h.size, fun k hk _ => h.block k hk⟩
set_option maxRecDepth 100000 in
theorem clone_any (a : ByteArray) (w : World) (ha : a.size ≤ 140737488355328) : Calls Try.prog 36 #[.string a] w fun e w' => e = .returned (.string a) ∧ Fr Non w w' := by
  go_enter Try.func36, Try.ntmps36
  go_wp2_with (go_at_call 45; refine (Try.stringslite_Clone a _ (by omega)).mono ?_; rintro e w' ⟨rfl, hb⟩)
  go_ret
  exact ⟨rfl, Fr.ofBelow' hb⟩
/-- a up to a place, and its byte there and 1 -/
def baRaised (a : ByteArray) (i q : Nat) : ByteArray := a.extract 0 i ++ ⟨#[UInt8.ofNat q]⟩
set_option maxRecDepth 100000 in
set_option maxHeartbeats 2000000 in
theorem raised_any (a : ByteArray) (i : Nat) (w : World) (ha : a.size ≤ 140737488355328) (hi : i < a.size) (h255 : (a[i]'hi).toNat < 255) :
    Calls Try.prog 35 #[.string a, .int .i64 i] w fun e w' => e = .returned (.string (baRaised a i ((a[i]'hi).toNat + 1))) ∧ Fr Non w w' := by
  have z0 : (0 : Int) ≤ i := by omega
  have z1 : (i : Int) < a.size := by omega
  obtain ⟨q, hq⟩ : ∃ q, q = (a[i]'hi).toNat + 1 := ⟨_, rfl⟩
  have hq2 : q < 256 := by omega
  have eu : IntKind.u8.wrap (((a[i]'hi).toNat : Int) + 1) = (q : Int) := by rw [IntKind.wrap_u8]; omega
  have hstr := str_one (P := Try.prog) Try.underlying43 Try.underlying5 Try.underlying9 q hq2
  have hstrD := str_oneD (P := Try.prog) Try.underlying43 Try.underlying5 Try.underlying9 q hq2
  have HQ : Hid (baRaised a i q = a.extract 0 i ++ ⟨#[UInt8.ofNat q]⟩) := Lib.hid rfl
  have hsz : (a.extract 0 i).size ≤ 140737488355328 := by rw [ByteArray.size_extract]; omega
  have hz : ¬ 9223372036854775807 < (a.extract 0 i).size + (⟨#[UInt8.ofNat q]⟩ : ByteArray).size := by show ¬ _ < _ + 1; omega
  rw [← hq]
  generalize (⟨#[UInt8.ofNat q]⟩ : ByteArray) = D at hstr hstrD HQ hz
  generalize baRaised a i q = Z at HQ ⊢
  clear hq hq2 h255
  go_enter Try.func35, Try.ntmps35
  go_upto_region 1 with (fail)
  go_region
  have HF4 : Hid (Fr Non w (w.alloc (.cells #[Value.int .u8 q] 5)).drew) := Lib.hid ((Fr.alloc _ _).non (Fr.drew _))
  go_wp2_with fail
  go_ret
  exact ⟨by rw [HQ.out]; rfl, HF4.out⟩
set_option maxRecDepth 100000 in
set_option maxHeartbeats 2000000 in
theorem parting_any (a b : ByteArray) (w : World) (ha : a.size ≤ 140737488355328) :
    Calls Try.prog 34 #[.string a, .string b] w fun e w' => ∃ i : Nat, e = .returned (.int .i64 i) ∧ i ≤ a.size ∧ i ≤ b.size ∧ a.data.toList.take i ++ kBetween (a.data.toList.drop i) (b.data.toList.drop i) = kBetween a.data.toList b.data.toList ∧ (∀ (h1 : i < a.size) (h2 : i < b.size), ¬ a[i] = b[i]) ∧ Fr Non w w' := by
  obtain ⟨m, hm⟩ : ∃ m, min a.size b.size = m := ⟨_, rfl⟩
  have hmi : min (a.size : Int) (b.size : Int) = (m : Int) := by omega
  have hm1 : m ≤ a.size := by omega
  have hm2 : m ≤ b.size := by omega
  have HM := Lib.hid hm
  clear hm
  go_enter Try.func34, Try.ntmps34
  go_wp2_with fail
  go_loopw [13] (fun i' wr => ∃ (i : Nat), i' = .int .i64 i ∧ i ≤ m ∧ a.data.toList.take i ++ kBetween (a.data.toList.drop i) (b.data.toList.drop i) = kBetween a.data.toList b.data.toList ∧ Fr Non w wr) (fun i' _ => m - (intOf i').toNat)
  case atStart => exact ⟨0, rfl, by omega, rfl, Fr.refl _ _⟩
  case round =>
    obtain ⟨i, rfl, hia, hv, hfr⟩ := hrel
    have HV := Lib.hid hv
    have HFR := Lib.hid hfr
    clear hv hfr
    by_cases h1 : (i : Int) < m
    · have l1 : i < a.data.toList.length := by rw [ba_len]; omega
      have l2 : i < b.data.toList.length := by rw [ba_len]; omega
      have z0 : (0 : Int) ≤ i := by omega
      have z1 : (i : Int) < a.size := by omega
      have z2 : (i : Int) < b.size := by omega
      by_cases h3 : a[i]'(by omega) = b[i]'(by omega)
      · have x3 : ((((a[i]'(by omega)).toNat : Int)) == ((b[i]'(by omega)).toNat : Int)) = true := by rw [h3]; simp
        have HST := Lib.hid (kBetween_step l1 l2 h3)
        clear h3 l1 l2
        go_upto_region 5 with (fail)
        go_region
        have HF2 := Lib.hid (HFR.out.non (Fr.drew _))
        generalize wr.drew = w2 at HF2 ⊢
        go_wp2_with fail
        go_roundw
        case rel => exact ⟨i + 1, by go_num, by omega, by rw [← HST.out]; exact HV.out, HF2.out⟩
        case measure => simp [intOf]; omega
      · have x3 : ((((a[i]'(by omega)).toNat : Int)) == ((b[i]'(by omega)).toNat : Int)) = false := by
          simp only [beq_eq_false_iff_ne]
          intro h
          exact h3 (UInt8.toNat_inj.mp (by omega))
        have H3 : Hid (∀ (h1 : i < a.size) (h2 : i < b.size), ¬ a[i] = b[i]) := Lib.hid (fun _ _ => h3)
        clear h3 l1 l2
        go_upto_region 5 with (fail)
        go_region
        have HF2 := Lib.hid (HFR.out.non (Fr.drew _))
        generalize wr.drew = w2 at HF2 ⊢
        go_wp2_with fail
        go_ret
        exact ⟨i, rfl, by omega, by omega, HV.out, H3.out, HF2.out⟩
    · have H3 : Hid (∀ (h1 : i < a.size) (h2 : i < b.size), ¬ a[i] = b[i]) := Lib.hid (fun h1 h2 => by have := HM.out; omega)
      have hmi2 : (m : Int) = (i : Int) := by omega
      have HMI := Lib.hid hmi2
      clear hmi2
      go_wp2_with fail
      go_ret
      exact ⟨m, rfl, by omega, by omega, by have e := HMI.out; rw [show m = i by omega]; exact HV.out, by have e := HMI.out; rw [show m = i by omega]; exact H3.out, HFR.out⟩
set_option maxRecDepth 100000 in
set_option maxHeartbeats 2000000 in
theorem betweenC_any (a b : ByteArray) (w : World) (ha : a.size ≤ 140737488355328) :
    Calls Try.prog 21 #[.string a, .string b] w fun e w' => e = .returned (.string (baBetween a b)) ∧ Fr Non w w' := by
  obtain ⟨m, hm⟩ : ∃ m, min a.size b.size = m := ⟨_, rfl⟩
  have hmi : min (a.size : Int) (b.size : Int) = (m : Int) := by omega
  go_enter Try.func21, Try.ntmps21
  go_wp2_with (go_at_call 34; refine (parting_any a b _ ha).mono ?_; rintro e w1 ⟨i, rfl, hia, hib, hv, hd, hf1⟩)
  have HV := Lib.hid hv
  have HF1 := Lib.hid hf1
  have HD := Lib.hid hd
  clear hv hf1 hd
  by_cases h1 : (i : Int) < m
  · have l1 : i < a.data.toList.length := by rw [ba_len]; omega
    have l2 : i < b.data.toList.length := by rw [ba_len]; omega
    have z0 : (0 : Int) ≤ i := by omega
    have z1 : (i : Int) < a.size := by omega
    have z2 : (i : Int) < b.size := by omega
    have h3 : ¬ a[i]'(by omega) = b[i]'(by omega) := HD.out _ _
    by_cases h5 : ((a[i]'(by omega)).toNat : Int) < ((b[i]'(by omega)).toNat : Int)
    · by_cases h4 : (a[i]'(by omega)).toNat + 2 ≤ (b[i]'(by omega)).toNat
      · have HC : Hid (a.data.toList.take i ++ [UInt8.ofNat ((a[i]'(by omega)).toNat + 1)] = kBetween a.data.toList b.data.toList) := Lib.hid (by rw [← HV.out]; exact (kBetween_cut l1 l2 h4).symm)
        have wd : IntKind.u8.wrap (((b[i]'(by omega)).toNat : Int) - ((a[i]'(by omega)).toNat : Int)) = ((b[i]'(by omega)).toNat : Int) - ((a[i]'(by omega)).toNat : Int) := by rw [IntKind.wrap_u8]; have := (b[i]'(by omega)).toNat_lt; omega
        have x4 : ¬ (((b[i]'(by omega)).toNat : Int) - ((a[i]'(by omega)).toNat : Int) < 2) := by omega
        have x5 : (2 : Int) ≤ (((b[i]'(by omega)).toNat : Int) - ((a[i]'(by omega)).toNat : Int)) := by omega
        have h255 : (a[i]'(by omega)).toNat < 255 := by have := (b[i]'(by omega)).toNat_lt; omega
        have HB : Hid (baRaised a i ((a[i]'(by omega)).toNat + 1) = baBetween a b) := Lib.hid (by
          refine ba_of ?_
          unfold baRaised
          rw [ByteArray.data_append, Array.toList_append, extract_take, ← HC.out])
        have hra (w : World) := raised_any a i w ha (by omega) h255
        rw [HB.out] at hra
        have HRA := Lib.hid hra
        clear hra h4 h3 h255 HC HB l1 l2
        go_upto_region 2 with (fail)
        go_region
        have HF2 := Lib.hid (HF1.out.non (Fr.drew _))
        generalize w1.drew = w2 at HF2 ⊢
        go_wp2_with (go_at_call 35; refine (HRA.out _).mono ?_; rintro e w3 ⟨rfl, hf3⟩)
        go_ret
        exact ⟨rfl, HF2.out.non hf3⟩
      · have HC : Hid (a = baBetween a b) := Lib.hid (ba_of (by rw [← HV.out]; exact (kBetween_stay l1 l2 h3 h4).symm))
        have wd : IntKind.u8.wrap (((b[i]'(by omega)).toNat : Int) - ((a[i]'(by omega)).toNat : Int)) = ((b[i]'(by omega)).toNat : Int) - ((a[i]'(by omega)).toNat : Int) := by rw [IntKind.wrap_u8]; have := (b[i]'(by omega)).toNat_lt; omega
        have x4 : (((b[i]'(by omega)).toNat : Int) - ((a[i]'(by omega)).toNat : Int) < 2) := by omega
        have x5 : ¬ (2 : Int) ≤ (((b[i]'(by omega)).toNat : Int) - ((a[i]'(by omega)).toNat : Int)) := by omega
        clear h4 h3 l1 l2
        go_upto_region 2 with (fail)
        go_region
        have HF2 := Lib.hid (HF1.out.non (Fr.drew _))
        generalize w1.drew = w2 at HF2 ⊢
        go_wp2_with (go_at_call 36; refine (clone_any a _ ha).mono ?_; rintro e w3 ⟨rfl, hf3⟩)
        go_ret
        exact ⟨by rw [← HC.out]; rfl, HF2.out.non hf3⟩
    · have HC : Hid (a = baBetween a b) := Lib.hid (ba_of (by rw [← HV.out]; exact (kBetween_stay l1 l2 h3 (fun h => by have h6 : (a[i]'(by omega)).toNat + 2 ≤ (b[i]'(by omega)).toNat := h; omega)).symm))
      clear h3 l1 l2
      go_upto_region 2 with (fail)
      go_region
      have HF2 := Lib.hid (HF1.out.non (Fr.drew _))
      generalize w1.drew = w2 at HF2 ⊢
      go_wp2_with (go_at_call 36; refine (clone_any a _ ha).mono ?_; rintro e w3 ⟨rfl, hf3⟩)
      go_ret
      exact ⟨by rw [← HC.out]; rfl, HF2.out.non hf3⟩
  · have HC : Hid (a = baBetween a b) := Lib.hid (ba_of (by rw [← HV.out]; exact (kBetween_end (by rw [ba_len, ba_len]; omega)).symm))
    go_upto_region 2 with (fail)
    go_region
    have HF2 := Lib.hid (HF1.out.non (Fr.drew _))
    generalize w1.drew = w2 at HF2 ⊢
    go_wp2_with (go_at_call 36; refine (clone_any a _ ha).mono ?_; rintro e w3 ⟨rfl, hf3⟩)
    go_ret
    exact ⟨by rw [← HC.out]; rfl, HF2.out.non hf3⟩
set_option maxRecDepth 100000 in
set_option maxHeartbeats 2000000 in
theorem afterC_any (a : ByteArray) (w : World) (ha : a.size ≤ 140737488355328) :
    Calls Try.prog 23 #[.string a] w fun e w' => e = .returned (.string (baAfter a)) ∧ Fr Non w w' := by
  go_enter Try.func23, Try.ntmps23
  go_wp2_with fail
  go_loopw [6] (fun i' wr => ∃ (i : Nat), i' = .int .i64 i ∧ i ≤ a.size ∧ a.data.toList.take i ++ kAfter (a.data.toList.drop i) = kAfter a.data.toList ∧ Fr Non w wr) (fun i' _ => a.size - (intOf i').toNat)
  case atStart => exact ⟨0, rfl, by omega, rfl, Fr.refl _ _⟩
  case round =>
    obtain ⟨i, rfl, hia, hv, hfr⟩ := hrel
    have HV := Lib.hid hv
    have HFR := Lib.hid hfr
    clear hv hfr
    by_cases h1 : (i : Int) < a.size
    · have l1 : i < a.data.toList.length := by rw [ba_len]; omega
      have z0 : (0 : Int) ≤ i := by omega
      by_cases h4 : (a[i]'(by omega)).toNat < 255
      · have x4 : ((((a[i]'(by omega)).toNat : Int)) == 255) = false := by simp only [beq_eq_false_iff_ne]; omega
        have HC : Hid (a.data.toList.take i ++ [UInt8.ofNat ((a[i]'(by omega)).toNat + 1)] = kAfter a.data.toList) := Lib.hid (by rw [← HV.out]; exact (kAfter_cut l1 h4).symm)
        have HB : Hid (baRaised a i ((a[i]'(by omega)).toNat + 1) = baAfter a) := Lib.hid (by
          refine ba_of ?_
          unfold baRaised
          rw [ByteArray.data_append, Array.toList_append, extract_take, ← HC.out])
        have hra (w : World) := raised_any a i w ha (by omega) h4
        rw [HB.out] at hra
        have HRA := Lib.hid hra
        clear hra h4 HC HB l1
        go_wp2_with (go_at_call 35; refine (HRA.out _).mono ?_; rintro e w3 ⟨rfl, hf3⟩)
        go_ret
        exact ⟨rfl, HFR.out.non hf3⟩
      · have x4 : ((((a[i]'(by omega)).toNat : Int)) == 255) = true := by simp only [beq_iff_eq]; have := (a[i]'(by omega)).toNat_lt; omega
        have HST := Lib.hid (kAfter_step l1 h4)
        clear h4 l1
        go_wp2_with fail
        go_roundw
        case rel => exact ⟨i + 1, by go_num, by omega, by rw [← HST.out]; exact HV.out, HFR.out⟩
        case measure => simp [intOf]; omega
    · have HC : Hid (a = baAfter a) := Lib.hid (ba_of (by rw [← HV.out]; exact (kAfter_end (by rw [ba_len]; omega)).symm))
      go_wp2_with (go_at_call 36; refine (clone_any a _ ha).mono ?_; rintro e w3 ⟨rfl, hf3⟩)
      go_ret
      exact ⟨by rw [← HC.out]; rfl, HFR.out.non hf3⟩
end Go.Proofs.Yteokfgdennjjiaa
