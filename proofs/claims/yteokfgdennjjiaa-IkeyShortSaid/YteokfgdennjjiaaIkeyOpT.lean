/- package ikey: the entry whose inner key a text is -/
import Derived.Test.YteokfgdennjjiaaIkeyOpA
import Derived.Test.YteokfgdennjjiaaIkeyRefT
import Derived.Test.YteokfgdennjjiaaKShort
import Derived.Test.YteokfgdennjjiaaCodecRd
import Derived.Test.YteokfgdennjjiaaWhole
namespace Go.Proofs.Yteokfgdennjjiaa
open Go.ChangeShapes Go.WideShapes Go.ChangeAt Go.RowKit

set_option maxRecDepth 100000 in
set_option maxHeartbeats 2000000 in
theorem entTakeC_any (s : ByteArray) (w : World) (hs : s.size ≤ 140737488355328) : Calls Try.prog 17 #[.string s] w fun r w' => r = .returned (.tuple #[.agg (entCells (entTake s).1).toArray, .int .i64 (entTake s).2]) ∧ Fr Non w w' := by
  by_cases h8 : s.size < 8
  · have HE : Hid (entTake s = (Ent.zero, 80)) := Lib.hid (if_pos h8)
    have e1 : IntKind.i64.wrap ((s.size : Int) - 8) = (s.size : Int) - 8 := IntWalk.i64_in _ (by omega)
    have e2 : (s.size : Int) - 8 < 0 := by omega
    go_enter Try.func17, Try.ntmps17
    go_upto_region 1 with (fail)
    have hb1 : Blk (w.alloc (.cells #[Value.string { data := #[] }, Value.int .u64 0, Value.int .u8 0, Value.string { data := #[] }] 24)) w.heap.size 24 (entCells Ent.zero) := Blk.new w _ _
    have hf1 := Fr.alloc w (.cells #[Value.string { data := #[] }, Value.int .u64 0, Value.int .u8 0, Value.string { data := #[] }] 24)
    obtain ⟨R, hR⟩ : ∃ R, R = w.heap.size := ⟨_, rfl⟩
    rw [← hR] at hb1 ⊢
    generalize w.alloc (.cells #[Value.string { data := #[] }, Value.int .u64 0, Value.int .u8 0, Value.string { data := #[] }] 24) = w1 at hb1 hf1 ⊢
    obtain ⟨v2, w2, hr2, hv2, hf2⟩ := run_toBytes (P := Try.prog) w1 9 43 5 s Try.underlying9 Try.underlying43 Try.underlying5 hs
    have hlen := run_lenRow (P := Try.prog) hv2 43 5 Try.underlying43
    rw [bs_length, ba_len] at hlen
    have hb2 := hb1.non hf2
    have HF := Lib.hid (hf1.non hf2)
    have hb := hb2.loadVar (P := Try.prog) 24 _ Try.underlying24 rfl (by kernel_rfl)
    have HRV := Lib.hid hb
    have HB2 := Lib.hid hb2
    have hie : (Try.prog.info? 24).map (·.size) = some 4 := by kernel_rfl
    have HR := Lib.hid hR
    clear hv2 hf1 hf2 hb hb1 hb2 hs hR
    go_wp2_with ((with_reducible show wpList _ _ _ (({ op := .store _ _ _, .. } : Oper) :: _) _ _); refine wpList_put rfl 24 (.tmp 2) (.tmp 15) rfl rfl R 24 (entCells Ent.zero) (entCells Ent.zero) HB2.out rfl hie (ent_one _) rfl rfl ?_)
    intro w7 hb7 hf7 _
    have hb := hb7.loadVar (P := Try.prog) 24 _ Try.underlying24 rfl hie
    have HRV := Lib.hid hb
    have HF7 := Lib.hid (HF.out.new hf7 (fun k h => by have h1 : k = R := h; have h2 := HR.out; omega))
    clear hb hb7 hf7
    go_wp2_with fail
    refine bodyPost_ret (v := .tuple #[.agg (entCells Ent.zero).toArray, .int .i64 80]) (by have h := HRV.out; simp [results, Try.results17, asAddr, h]) rfl ⟨by rw [HE.out]; rfl, HF7.out⟩
  · have HE : Hid (entTake s = if entRight (entOf s) then (entOf s, 0) else (Ent.zero, 80)) := Lib.hid (if_neg h8)
    obtain ⟨n, hn⟩ : ∃ n, s.size = n + 8 := ⟨s.size - 8, by omega⟩
    have HN := Lib.hid hn
    have e1 : IntKind.i64.wrap ((s.size : Int) - 8) = (n : Int) := by rw [IntWalk.i64_in _ (by omega)]; omega
    have e2 : ¬ (n : Int) < 0 := by omega
    clear hn
    go_enter Try.func17, Try.ntmps17
    go_upto_region 1 with (fail)
    have hb1 : Blk (w.alloc (.cells #[Value.string { data := #[] }, Value.int .u64 0, Value.int .u8 0, Value.string { data := #[] }] 24)) w.heap.size 24 (entCells Ent.zero) := Blk.new w _ _
    have hf1 := Fr.alloc w (.cells #[Value.string { data := #[] }, Value.int .u64 0, Value.int .u8 0, Value.string { data := #[] }] 24)
    obtain ⟨R, hR⟩ : ∃ R, R = w.heap.size := ⟨_, rfl⟩
    rw [← hR] at hb1 ⊢
    generalize w.alloc (.cells #[Value.string { data := #[] }, Value.int .u64 0, Value.int .u8 0, Value.string { data := #[] }] 24) = w1 at hb1 hf1 ⊢
    obtain ⟨v2, w2, hr2, hv2, hf2⟩ := run_toBytes (P := Try.prog) w1 9 43 5 s Try.underlying9 Try.underlying43 Try.underlying5 hs
    have hlen := run_lenRow (P := Try.prog) hv2 43 5 Try.underlying43
    rw [bs_length, ba_len] at hlen
    obtain ⟨v3, hrun3, hv3, -⟩ := run_subLo (P := Try.prog) hv2 43 5 Try.underlying43 (by kernel_rfl) .i64 (n : Int) n rfl (by rw [bs_length, ba_len, HN.out]; omega)
    rw [show (bs s.data.toList).drop n = bs (s.data.toList.drop (s.size - 8)) by rw [show s.size - 8 = n by have := HN.out; omega]; simp [bs, List.map_drop]] at hv3
    obtain ⟨v4, hrun4, hv4, -⟩ := run_subHi (P := Try.prog) hv2 43 5 Try.underlying43 (by kernel_rfl) .i64 (n : Int) n rfl (by rw [bs_length, ba_len, HN.out]; omega)
    rw [show (bs s.data.toList).take n = bs (s.data.toList.take n) by simp [bs, List.map_take]] at hv4
    have hx4 : (⟨(s.data.toList.take n).toArray⟩ : ByteArray) = s.extract 0 n := (ba_of (extract_take s n)).symm
    have hTE : entOf s = ⟨s.extract 0 n, unfix (s.data.toList.drop (s.size - 8)) / 256, unfix (s.data.toList.drop (s.size - 8)) % 256, ⟨#[]⟩⟩ := by unfold entOf; rw [show s.size - 8 = n by have := HN.out; omega]
    have hTl : (s.data.toList.drop (s.size - 8)).length = 8 := by rw [List.length_drop, ba_len]; have := HN.out; omega
    generalize s.data.toList.drop (s.size - 8) = L at hTl hv3 hTE
    generalize s.data.toList.take n = K at hv4 hx4
    have HTE := Lib.hid hTE
    have HL := Lib.hid hTl
    have HV3 := Lib.hid hv3
    have HV4 := Lib.hid hv4
    have HX4 := Lib.hid hx4
    have HB2 := Lib.hid (hb1.non hf2)
    have HF2 := Lib.hid (hf1.non hf2)
    have HR := Lib.hid hR
    clear hv2 hv3 hv4 hf2 hb1 hf1 hTl hTE hx4 hs hR
    go_upto_region 5 with (fail)
    go_wp2_with (go_at_call 30; refine (New_any v3 L _ HV3.out (by rw [HL.out]; omega)).mono ?_; rintro e w3 ⟨B, rfl, hB, hrd, hf3⟩)
    have HB3 := Lib.hid (HB2.out.non hf3)
    have HF3 := Lib.hid (HF2.out.non hf3)
    have HV43 := Lib.hid (HV4.out.non hf3)
    have HF23 := Lib.hid hf3
    have hlt2 := HB2.out.lt
    have hlt3 : R < w3.heap.size := by have := hf3.size; omega
    have hBR : ¬ R = B := by omega
    clear hf3
    have t0 := rFix_any (Rng w2.heap.size w3.heap.size) B 0 w3 L 8 hrd
    have t1 := takeFix_all L HL.out
    rw [List.drop_zero] at t1
    rw [t1] at t0
    go_at_call 31
    refine t0.mono ?_
    rintro e w4 ⟨rfl, -, hf4⟩
    have hu8 : unfix L < 18446744073709551616 := by have h1 := unfix_lt L; rw [HL.out] at h1; have h2 : (256 : Nat) ^ 8 = 18446744073709551616 := by decide
                                                    omega
    have HB4 := Lib.hid (HB3.out.frame hf4 (fun h => hBR h))
    have hBw : w.heap.size ≤ B := by have := HF2.out.size; omega
    have HF4 := Lib.hid (HF3.out.new hf4 (fun k h => by have h1 : k = B := h; omega))
    have HQ4 : Hid (Row w4 v4 (bs K)) := Lib.hid (HV4.out.frame' (HF23.out.non hf4) (fun hne => HV4.out.old (by rw [bs_length]; exact List.length_pos_iff.mpr hne) (fun k h => by have h1 : k = B := h; omega)))
    have hxs := run_str (P := Try.prog) w4 43 9 5 _ _ HQ4.out Try.underlying43 Try.underlying5 Try.underlying9
    rw [HX4.out] at hxs
    have hRw : w.heap.size ≤ R := by have := HR.out; omega
    generalize unfix L = x at hu8 HTE ⊢
    obtain ⟨M, hM⟩ : ∃ M, M = entOf s := ⟨_, rfl⟩
    have hcl : (#[Value.string (s.extract 0 n), Value.int .u64 ((x : Int) / 256), Value.int .u8 ((x : Int) % 256), Value.string { data := #[] }] : Array Value) = (entCells M).toArray := by rw [hM, HTE.out]; simp [entCells]
    rw [← hM] at HE
    have HCL := Lib.hid hcl
    clear hf4 t0 t1 hrd hcl hM HTE hlt2 hlt3 hBR hBw hB HV3 HV43 HF23 HV4
    dsimp only
    go_upto_region 7 with (fail)
    rw [HCL.out]
    have hb5 := Blk.new w4 24 (entCells M)
    have hf5 := Fr.alloc w4 (.cells (entCells M).toArray 24)
    generalize w4.alloc (.cells (entCells M).toArray 24) = w5 at hb5 hf5 ⊢
    obtain ⟨H, hH⟩ : ∃ H, H = w4.heap.size := ⟨_, rfl⟩
    rw [← hH] at hb5 ⊢
    have HBZ := Lib.hid (HB4.out.non hf5)
    have HBM := Lib.hid hb5
    have HF5 := Lib.hid (HF4.out.non hf5)
    have hne : ¬ R = H := by have := HB4.out.lt; omega
    have hie : (Try.prog.info? 24).map (·.size) = some 4 := by kernel_rfl
    have hue := Try.underlying24
    clear hb5 hf5 HB4 HF4 HCL hH HQ4 hxs hrun3 hrun4 hlen hr2
    go_wp2_with ((with_reducible show wpList _ _ _ (({ op := .load _ _, .. } : Oper) :: _) _ _); refine wpList_load_mid rfl 24 _ rfl H 0 rfl (entCells M) _ (HBM.out.range 0 _ (fun j v hj => by simpa using hj)) hue rfl hie ?_)
    refine (entRightC_any M w5).mono ?_
    rintro e w6 ⟨rfl, hf6⟩
    have HBZ6 := Lib.hid (HBZ.out.non hf6)
    have HBM6 := Lib.hid (HBM.out.non hf6)
    have HF6 := Lib.hid (HF5.out.non hf6)
    clear hf6 HBZ HBM HF5
    by_cases hr : entRight M = true
    · have HE2 : Hid (entTake s = (M, 0)) := Lib.hid (by rw [HE.out, if_pos hr])
      rw [hr]
      go_upto_region 9 with (fail)
      go_wp2_with ((with_reducible show wpList _ _ _ (({ op := .load _ _, .. } : Oper) :: _) _ _); refine wpList_whole rfl rfl 24 35 (.tmp 7) (.tmp 2) rfl rfl rfl rfl H R 24 24 (entCells M) (entCells Ent.zero) HBM6.out HBZ6.out rfl _ hue rfl hie (ent_one _) (by simp) rfl (fun _ => rfl) ?_)
      intro w7 hb7 hf7 _
      simp only [List.set_cons_succ, List.set_cons_zero]
      have hb := hb7.loadVar (P := Try.prog) 24 _ Try.underlying24 rfl hie
      have HRV := Lib.hid hb
      have HF7 := Lib.hid (HF6.out.new hf7 (fun k h => by have h1 : k = R := h; omega))
      clear hb hb7 hf7
      go_wp2_with fail
      refine bodyPost_ret (v := .tuple #[.agg (entCells M).toArray, .int .i64 0]) (by have h := HRV.out; simp [results, Try.results17, asAddr, h]) rfl ⟨by rw [HE2.out]; rfl, HF7.out⟩
    · have HE2 : Hid (entTake s = (Ent.zero, 80)) := Lib.hid (by rw [HE.out, if_neg hr])
      have hr0 : entRight M = false := by simpa using hr
      rw [hr0]
      clear hr hr0
      go_upto_region 8 with (fail)
      go_wp2_with ((with_reducible show wpList _ _ _ (({ op := .store _ _ _, .. } : Oper) :: _) _ _); refine wpList_put rfl 24 (.tmp 2) (.tmp 34) rfl rfl R 24 (entCells Ent.zero) (entCells Ent.zero) HBZ6.out rfl hie (ent_one _) rfl rfl ?_)
      intro w7 hb7 hf7 _
      have hb := hb7.loadVar (P := Try.prog) 24 _ Try.underlying24 rfl hie
      have HRV := Lib.hid hb
      have HF7 := Lib.hid (HF6.out.new hf7 (fun k h => by have h1 : k = R := h; omega))
      clear hb hb7 hf7
      go_wp2_with fail
      refine bodyPost_ret (v := .tuple #[.agg (entCells Ent.zero).toArray, .int .i64 80]) (by have h := HRV.out; simp [results, Try.results17, asAddr, h]) rfl ⟨by rw [HE2.out]; rfl, HF7.out⟩
end Go.Proofs.Yteokfgdennjjiaa
