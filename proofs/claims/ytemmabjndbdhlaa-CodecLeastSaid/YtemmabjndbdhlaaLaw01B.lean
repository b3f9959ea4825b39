/- bytes that are taken as a number are those that are laid of it -/
import Derived.Test.YtemmabjndbdhlaaLaw01A
import Derived.Test.YtemmabjndbdhlaaCodecMath
import Derived.Deep.RegionHeld3
namespace Go.Proofs.Ytemmabjndbdhlaa
open Go.ChangeShapes Go.WideShapes Go.ChangeAt Go.RowKit

set_option maxRecDepth 100000 in
set_option maxHeartbeats 1000000 in
theorem least_lt (w : World) (v : Value) (l : List UInt8) (m n : Nat) (hv : Row w v (bs l)) (hl : l.length ≤ 140737488351232) (hm' : m < 18446744073709551616) (hn' : n < 18446744073709551616) (h : n < m) :
    Calls Try.prog 6 #[v, .int .u64 m, .int .u64 n] w fun e w' => e = .returned (.bool true) ∧ Fr Non w w' := by
  have hmono := encF_mono 9 n m (by omega)
  have HM := Lib.hid hm'
  have HN := Lib.hid hn'
  have HO := Lib.hid hmono
  have hlen := run_lenRow (P := Try.prog) hv 22 5 Try.underlying22
  rw [bs_length] at hlen
  have HV := Lib.hid hv
  clear hm' hn' hmono hv
  go_enter Try.func6, Try.ntmps6
  go_wp2_with fail
  refine (shown_any w).mono ?_
  rintro e w1 ⟨rfl, hf1⟩
  go_wp2_with fail
  refine (Num_any _ [] n w1 (Row.nil _) (by have := HM.out; have := HN.out; omega) (by simp)).mono ?_
  rintro e w2 ⟨v2, rfl, ho2, hf2⟩
  have hlen2 := run_lenRow (P := Try.prog) ho2.row 22 5 Try.underlying22
  rw [bs_length, List.nil_append] at hlen2
  clear ho2
  go_wp2_with fail
  refine (Num_any _ [] m w2 (Row.nil _) (by have := HM.out; have := HN.out; omega) (by simp)).mono ?_
  rintro e w3 ⟨v3, rfl, ho3, hf3⟩
  have hlen3 := run_lenRow (P := Try.prog) ho3.row 22 5 Try.underlying22
  rw [bs_length, List.nil_append] at hlen3
  clear ho3
  have hle : (enc n).length ≤ (enc m).length := HO.out
  have hle10 := enc_length m
  have hf13 := (hf1.non hf2).non hf3
  go_wp2_with fail
  have hrow3 := HV.out.non hf13
  refine (New_any v l w3 hrow3 (by omega)).mono ?_
  rintro e w4 ⟨b, rfl, hb, hr4, hf4⟩
  clear hle hle10 hlen2 hlen3 hrow3
  go_wp2_with fail
  refine (rNum_any _ b 0 w4 l hr4).mono ?_
  rintro e w5 ⟨rfl, hr5, hf5⟩
  have E : takeNum l 0 = ((dec l).1, if (dec l).2.2 = 0 then l.drop (dec l).2.1 else l, (dec l).2.2) := if_pos rfl
  have hwb : w.heap.size ≤ b := Nat.le_trans hf13.size hb
  have hfr : Fr Non w w5 := (hf13.non hf4).new hf5 (fun i h => by have : i = b := h; omega)
  have hrow5 := HV.out.non hfr
  rw [E] at hr5 ⊢
  clear E hr4 hf5 hf4 hb hf13 hf1 hf2 hf3
  have HW := Lib.hid hfr
  have HR := Lib.hid hrow5
  clear hfr hrow5
  by_cases hft : (dec l).2.2 = 0
  · obtain ⟨d1, d2, d3, d4⟩ := dec_ok l hft
    have hen := dec_enc l hft
    simp only [hft, if_true] at hr5 ⊢
    generalize hk : (dec l).2.1 = k at *
    generalize hx : (dec l).1 = x at *
    have H5 := Lib.hid hr5
    have HE := Lib.hid hen
    have HX := Lib.hid d1
    clear hr5 hen hft hk hx d1
    go_wp2_with (go_at_call 24; refine (Fault_any _ b _ w5 _ H5.out).mono ?_; rintro e w' ⟨rfl, rfl⟩)
    refine (Left_any _ b _ w5 _ H5.out).mono ?_
    rintro e w' ⟨rfl, rfl⟩
    have elen : ((l.drop k).length : Int) = (l.length : Int) - k := by rw [List.length_drop]; omega
    rw [elen]
    clear elen
    obtain ⟨vs, hrun, hvs, -⟩ := run_subHi (P := Try.prog) HR.out 22 5 Try.underlying22 (by kernel_rfl) .i64 k k rfl (by rw [bs_length]; omega)
    have hvs2 : Row w5 vs (bs (l.take k)) := by simpa [bs, List.map_take] using hvs
    have HS := Lib.hid hvs2
    clear hvs hvs2
    go_wp2_with fail
    rw [show (l.length : Int) - ((l.length : Int) - k) = k by omega]
    have hkl : (k : Int) ≤ (l.length : Int) := by omega
    have hk0 : (0 : Int) < (k : Int) := by omega
    go_region_held (fun w' => Sem.run Try.prog (convert 22 9 vs) w' = .ok (.string ⟨(l.take k).toArray⟩) w') (exact run_str _ _ _ 5 _ _ (by first | exact HS.out | exact HS.out.non (Fr.drew _) | exact (HS.out.non (Fr.drew _)).non hf6) Try.underlying22 Try.underlying5 Try.underlying9) (first | (go_at_call 10; refine (Num_any _ [] x _ (Row.nil _) HX.out (by simp)).mono ?_; rintro e w6 ⟨v6, rfl, ho6, hf6⟩; have hs6 := run_str (P := Try.prog) w6 22 9 5 v6 _ ho6.row Try.underlying22 Try.underlying5 Try.underlying9; rw [List.nil_append, HE.out] at hs6) | fail)
    all_goals go_wp2
    all_goals go_ret
    all_goals exact ⟨rfl, (HW.out.non (Fr.drew _)).non hf6⟩
  · obtain ⟨z1, z2⟩ := dec_zero l hft
    have hf0 : (((dec l).2.2 : Int) != 0) = true := by simp; omega
    simp only [hft, if_false, z1] at hr5 ⊢
    have H5 := Lib.hid hr5
    clear hr5 z1 z2 hft
    go_wp2_with (first | (go_at_call 24; refine (Fault_any _ b _ w5 _ H5.out).mono ?_; rintro e w' ⟨rfl, rfl⟩) | (go_at_call 23; refine (Left_any _ b _ w5 _ H5.out).mono ?_; rintro e w' ⟨rfl, rfl⟩))
    go_ret
    exact ⟨rfl, HW.out⟩

set_option maxRecDepth 100000 in
set_option maxHeartbeats 1000000 in
theorem least_gt (w : World) (v : Value) (l : List UInt8) (m n : Nat) (hv : Row w v (bs l)) (hl : l.length ≤ 140737488351232) (hm' : m < 18446744073709551616) (hn' : n < 18446744073709551616) (h : m < n) :
    Calls Try.prog 6 #[v, .int .u64 m, .int .u64 n] w fun e w' => e = .returned (.bool true) ∧ Fr Non w w' := by
  have hmono := encF_mono 9 m n (by omega)
  have HM := Lib.hid hm'
  have HN := Lib.hid hn'
  have HO := Lib.hid hmono
  have hlen := run_lenRow (P := Try.prog) hv 22 5 Try.underlying22
  rw [bs_length] at hlen
  have HV := Lib.hid hv
  clear hm' hn' hmono hv
  go_enter Try.func6, Try.ntmps6
  go_wp2_with fail
  refine (shown_any w).mono ?_
  rintro e w1 ⟨rfl, hf1⟩
  go_wp2_with fail
  refine (Num_any _ [] m w1 (Row.nil _) (by have := HM.out; have := HN.out; omega) (by simp)).mono ?_
  rintro e w2 ⟨v2, rfl, ho2, hf2⟩
  have hlen2 := run_lenRow (P := Try.prog) ho2.row 22 5 Try.underlying22
  rw [bs_length, List.nil_append] at hlen2
  clear ho2
  go_wp2_with fail
  refine (Num_any _ [] n w2 (Row.nil _) (by have := HM.out; have := HN.out; omega) (by simp)).mono ?_
  rintro e w3 ⟨v3, rfl, ho3, hf3⟩
  have hlen3 := run_lenRow (P := Try.prog) ho3.row 22 5 Try.underlying22
  rw [bs_length, List.nil_append] at hlen3
  clear ho3
  have hle : (enc m).length ≤ (enc n).length := HO.out
  have hle10 := enc_length n
  have hf13 := (hf1.non hf2).non hf3
  go_wp2_with fail
  have hrow3 := HV.out.non hf13
  refine (New_any v l w3 hrow3 (by omega)).mono ?_
  rintro e w4 ⟨b, rfl, hb, hr4, hf4⟩
  clear hle hle10 hlen2 hlen3 hrow3
  go_wp2_with fail
  refine (rNum_any _ b 0 w4 l hr4).mono ?_
  rintro e w5 ⟨rfl, hr5, hf5⟩
  have E : takeNum l 0 = ((dec l).1, if (dec l).2.2 = 0 then l.drop (dec l).2.1 else l, (dec l).2.2) := if_pos rfl
  have hwb : w.heap.size ≤ b := Nat.le_trans hf13.size hb
  have hfr : Fr Non w w5 := (hf13.non hf4).new hf5 (fun i h => by have : i = b := h; omega)
  have hrow5 := HV.out.non hfr
  rw [E] at hr5 ⊢
  clear E hr4 hf5 hf4 hb hf13 hf1 hf2 hf3
  have HW := Lib.hid hfr
  have HR := Lib.hid hrow5
  clear hfr hrow5
  by_cases hft : (dec l).2.2 = 0
  · obtain ⟨d1, d2, d3, d4⟩ := dec_ok l hft
    have hen := dec_enc l hft
    simp only [hft, if_true] at hr5 ⊢
    generalize hk : (dec l).2.1 = k at *
    generalize hx : (dec l).1 = x at *
    have H5 := Lib.hid hr5
    have HE := Lib.hid hen
    have HX := Lib.hid d1
    clear hr5 hen hft hk hx d1
    go_wp2_with (go_at_call 24; refine (Fault_any _ b _ w5 _ H5.out).mono ?_; rintro e w' ⟨rfl, rfl⟩)
    refine (Left_any _ b _ w5 _ H5.out).mono ?_
    rintro e w' ⟨rfl, rfl⟩
    have elen : ((l.drop k).length : Int) = (l.length : Int) - k := by rw [List.length_drop]; omega
    rw [elen]
    clear elen
    obtain ⟨vs, hrun, hvs, -⟩ := run_subHi (P := Try.prog) HR.out 22 5 Try.underlying22 (by kernel_rfl) .i64 k k rfl (by rw [bs_length]; omega)
    have hvs2 : Row w5 vs (bs (l.take k)) := by simpa [bs, List.map_take] using hvs
    have HS := Lib.hid hvs2
    clear hvs hvs2
    go_wp2_with fail
    rw [show (l.length : Int) - ((l.length : Int) - k) = k by omega]
    have hkl : (k : Int) ≤ (l.length : Int) := by omega
    have hk0 : (0 : Int) < (k : Int) := by omega
    go_region_held (fun w' => Sem.run Try.prog (convert 22 9 vs) w' = .ok (.string ⟨(l.take k).toArray⟩) w') (exact run_str _ _ _ 5 _ _ (by first | exact HS.out | exact HS.out.non (Fr.drew _) | exact (HS.out.non (Fr.drew _)).non hf6) Try.underlying22 Try.underlying5 Try.underlying9) (first | (go_at_call 10; refine (Num_any _ [] x _ (Row.nil _) HX.out (by simp)).mono ?_; rintro e w6 ⟨v6, rfl, ho6, hf6⟩; have hs6 := run_str (P := Try.prog) w6 22 9 5 v6 _ ho6.row Try.underlying22 Try.underlying5 Try.underlying9; rw [List.nil_append, HE.out] at hs6) | fail)
    all_goals go_wp2
    all_goals go_ret
    all_goals exact ⟨rfl, (HW.out.non (Fr.drew _)).non hf6⟩
  · obtain ⟨z1, z2⟩ := dec_zero l hft
    have hf0 : (((dec l).2.2 : Int) != 0) = true := by simp; omega
    simp only [hft, if_false, z1] at hr5 ⊢
    have H5 := Lib.hid hr5
    clear hr5 z1 z2 hft
    go_wp2_with (first | (go_at_call 24; refine (Fault_any _ b _ w5 _ H5.out).mono ?_; rintro e w' ⟨rfl, rfl⟩) | (go_at_call 23; refine (Left_any _ b _ w5 _ H5.out).mono ?_; rintro e w' ⟨rfl, rfl⟩))
    go_ret
    exact ⟨rfl, HW.out⟩

set_option maxRecDepth 100000 in
set_option maxHeartbeats 1000000 in
theorem least_eq (w : World) (v : Value) (l : List UInt8) (m : Nat) (hv : Row w v (bs l)) (hl : l.length ≤ 140737488351232) (hm' : m < 18446744073709551616) :
    Calls Try.prog 6 #[v, .int .u64 m, .int .u64 m] w fun e w' => e = .returned (.bool true) ∧ Fr Non w w' := by
  have hmono := encF_mono 9 m m (by omega)
  have HM := Lib.hid hm'
  have HO := Lib.hid hmono
  have hlen := run_lenRow (P := Try.prog) hv 22 5 Try.underlying22
  rw [bs_length] at hlen
  have HV := Lib.hid hv
  clear hm' hmono hv
  go_enter Try.func6, Try.ntmps6
  go_wp2_with fail
  refine (shown_any w).mono ?_
  rintro e w1 ⟨rfl, hf1⟩
  go_wp2_with fail
  refine (Num_any _ [] m w1 (Row.nil _) (by have := HM.out; omega) (by simp)).mono ?_
  rintro e w2 ⟨v2, rfl, ho2, hf2⟩
  have hlen2 := run_lenRow (P := Try.prog) ho2.row 22 5 Try.underlying22
  rw [bs_length, List.nil_append] at hlen2
  clear ho2
  go_wp2_with fail
  refine (Num_any _ [] m w2 (Row.nil _) (by have := HM.out; omega) (by simp)).mono ?_
  rintro e w3 ⟨v3, rfl, ho3, hf3⟩
  have hlen3 := run_lenRow (P := Try.prog) ho3.row 22 5 Try.underlying22
  rw [bs_length, List.nil_append] at hlen3
  clear ho3
  have hle : (enc m).length ≤ (enc m).length := HO.out
  have hle10 := enc_length m
  have hf13 := (hf1.non hf2).non hf3
  go_wp2_with fail
  have hrow3 := HV.out.non hf13
  refine (New_any v l w3 hrow3 (by omega)).mono ?_
  rintro e w4 ⟨b, rfl, hb, hr4, hf4⟩
  clear hle hle10 hlen2 hlen3 hrow3
  go_wp2_with fail
  refine (rNum_any _ b 0 w4 l hr4).mono ?_
  rintro e w5 ⟨rfl, hr5, hf5⟩
  have E : takeNum l 0 = ((dec l).1, if (dec l).2.2 = 0 then l.drop (dec l).2.1 else l, (dec l).2.2) := if_pos rfl
  have hwb : w.heap.size ≤ b := Nat.le_trans hf13.size hb
  have hfr : Fr Non w w5 := (hf13.non hf4).new hf5 (fun i h => by have : i = b := h; omega)
  have hrow5 := HV.out.non hfr
  rw [E] at hr5 ⊢
  clear E hr4 hf5 hf4 hb hf13 hf1 hf2 hf3
  have HW := Lib.hid hfr
  have HR := Lib.hid hrow5
  clear hfr hrow5
  by_cases hft : (dec l).2.2 = 0
  · obtain ⟨d1, d2, d3, d4⟩ := dec_ok l hft
    have hen := dec_enc l hft
    simp only [hft, if_true] at hr5 ⊢
    generalize hk : (dec l).2.1 = k at *
    generalize hx : (dec l).1 = x at *
    have H5 := Lib.hid hr5
    have HE := Lib.hid hen
    have HX := Lib.hid d1
    clear hr5 hen hft hk hx d1
    go_wp2_with (go_at_call 24; refine (Fault_any _ b _ w5 _ H5.out).mono ?_; rintro e w' ⟨rfl, rfl⟩)
    refine (Left_any _ b _ w5 _ H5.out).mono ?_
    rintro e w' ⟨rfl, rfl⟩
    have elen : ((l.drop k).length : Int) = (l.length : Int) - k := by rw [List.length_drop]; omega
    rw [elen]
    clear elen
    obtain ⟨vs, hrun, hvs, -⟩ := run_subHi (P := Try.prog) HR.out 22 5 Try.underlying22 (by kernel_rfl) .i64 k k rfl (by rw [bs_length]; omega)
    have hvs2 : Row w5 vs (bs (l.take k)) := by simpa [bs, List.map_take] using hvs
    have HS := Lib.hid hvs2
    clear hvs hvs2
    go_wp2_with fail
    rw [show (l.length : Int) - ((l.length : Int) - k) = k by omega]
    have hkl : (k : Int) ≤ (l.length : Int) := by omega
    have hk0 : (0 : Int) < (k : Int) := by omega
    go_region_held (fun w' => Sem.run Try.prog (convert 22 9 vs) w' = .ok (.string ⟨(l.take k).toArray⟩) w') (exact run_str _ _ _ 5 _ _ (by first | exact HS.out | exact HS.out.non (Fr.drew _) | exact (HS.out.non (Fr.drew _)).non hf6) Try.underlying22 Try.underlying5 Try.underlying9) (first | (go_at_call 10; refine (Num_any _ [] x _ (Row.nil _) HX.out (by simp)).mono ?_; rintro e w6 ⟨v6, rfl, ho6, hf6⟩; have hs6 := run_str (P := Try.prog) w6 22 9 5 v6 _ ho6.row Try.underlying22 Try.underlying5 Try.underlying9; rw [List.nil_append, HE.out] at hs6) | fail)
    all_goals go_wp2
    all_goals go_ret
    all_goals exact ⟨rfl, (HW.out.non (Fr.drew _)).non hf6⟩
  · obtain ⟨z1, z2⟩ := dec_zero l hft
    have hf0 : (((dec l).2.2 : Int) != 0) = true := by simp; omega
    simp only [hft, if_false, z1] at hr5 ⊢
    have H5 := Lib.hid hr5
    clear hr5 z1 z2 hft
    go_wp2_with (first | (go_at_call 24; refine (Fault_any _ b _ w5 _ H5.out).mono ?_; rintro e w' ⟨rfl, rfl⟩) | (go_at_call 23; refine (Left_any _ b _ w5 _ H5.out).mono ?_; rintro e w' ⟨rfl, rfl⟩))
    go_ret
    exact ⟨rfl, HW.out⟩

theorem leastw (w : World) (v : Value) (l : List UInt8) (m n : Nat) (hv : Row w v (bs l)) (hl : l.length ≤ 140737488351232) (hm : (m : Int) ≤ IntKind.u64.max) (hn : (n : Int) ≤ IntKind.u64.max) :
    Calls Try.prog 6 #[v, .int .u64 m, .int .u64 n] w fun e w' => e = .returned (.bool true) ∧ Fr Non w w' := by
  have hmx : IntKind.u64.max = 18446744073709551615 := by decide
  by_cases h : n < m
  · exact least_lt w v l m n hv hl (by omega) (by omega) h
  · by_cases h' : m < n
    · exact least_gt w v l m n hv hl (by omega) (by omega) h'
    · obtain rfl : m = n := by omega
      exact least_eq w v l m hv hl (by omega)
end Go.Proofs.Ytemmabjndbdhlaa
