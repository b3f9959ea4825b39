/- package ikey, the document's: the entry whose inner key a text is -/
import Derived.Test.YteokfgdennjjiaaIkeyRefA
import Derived.Test.YteokfgdennjjiaaBaStr
import Derived.Test.YteokfgdennjjiaaRefRd
import Derived.Test.YteokfgdennjjiaaWhole
import Derived.Test.YteokfgdennjjiaaHeld
import Derived.Deep.CutBlock
import Derived.Deep.DeepCutAuto
namespace Go.Proofs.Yteokfgdennjjiaa
open Go.ChangeShapes Go.WideShapes Go.ChangeAt Go.RowKit

theorem takeFix_all (L : List UInt8) (h : L.length = 8) : takeFix (L.drop 0) 0 8 = (unfix L, [], 0) := by
  unfold takeFix unfixed
  rw [if_pos rfl, if_neg (by omega), if_neg (by rw [List.length_drop]; omega)]
  simp [List.take_of_length_le (show L.length ≤ 8 by omega), List.drop_eq_nil_of_le (show L.length ≤ 8 by omega)]
set_option maxRecDepth 100000 in
set_option maxHeartbeats 2000000 in
theorem refEntTake_any (s : ByteArray) (w : World) (hs : s.size ≤ 140737488355328) : Calls Try.prog 18 #[.string s] w fun r w' => r = .returned (.tuple #[.agg (entCells (entTake s).1).toArray, .int .i64 (entTake s).2]) ∧ Fr Non w w' := by
  by_cases h8 : s.size < 8
  · have HE : Hid (entTake s = (Ent.zero, 80)) := Lib.hid (if_pos h8)
    have e1 : IntKind.i64.wrap ((s.size : Int) - 8) = (s.size : Int) - 8 := IntWalk.i64_in _ (by omega)
    have e2 : (s.size : Int) - 8 < 0 := by omega
    go_enter Try.func18, Try.ntmps18
    go_wp2_with fail
    have hb : Blk (w.alloc (.cells #[Value.string { data := #[] }, Value.int .u64 0, Value.int .u8 0, Value.string { data := #[] }] 24)) w.heap.size 24 (entCells Ent.zero) := Blk.new w _ _
    have hb := hb.loadVar (P := Try.prog) 24 _ Try.underlying24 rfl (by kernel_rfl)
    have HRV := Lib.hid hb
    refine bodyPost_ret (v := .tuple #[.agg (entCells Ent.zero).toArray, .int .i64 80]) (by have h := HRV.out; simp [results, Try.results18, asAddr, h]) rfl ⟨by rw [HE.out]; rfl, Fr.alloc _ _⟩
  · have HE : Hid (entTake s = if entRight (entOf s) then (entOf s, 0) else (Ent.zero, 80)) := Lib.hid (if_neg h8)
    obtain ⟨n, hn⟩ : ∃ n, s.size = n + 8 := ⟨s.size - 8, by omega⟩
    have HN := Lib.hid hn
    have e1 : IntKind.i64.wrap ((s.size : Int) - 8) = (n : Int) := by rw [IntWalk.i64_in _ (by omega)]; omega
    have e2 : ¬ (n : Int) < 0 := by omega
    have e3 : (n : Int) ≤ s.size := by omega
    have e4 : (0 : Int) ≤ n := by omega
    clear hn
    go_enter Try.func18, Try.ntmps18
    go_upto_region 4 with (fail)
    have hb1 : Blk (w.alloc (.cells #[Value.string { data := #[] }, Value.int .u64 0, Value.int .u8 0, Value.string { data := #[] }] 24)) w.heap.size 24 (entCells Ent.zero) := Blk.new w _ _
    have hf1 := Fr.alloc w (.cells #[Value.string { data := #[] }, Value.int .u64 0, Value.int .u8 0, Value.string { data := #[] }] 24)
    have hs1 : (w.alloc (.cells #[Value.string { data := #[] }, Value.int .u64 0, Value.int .u8 0, Value.string { data := #[] }] 24)).heap.size = w.heap.size + 1 := by simp
    generalize w.alloc (.cells #[Value.string { data := #[] }, Value.int .u64 0, Value.int .u8 0, Value.string { data := #[] }] 24) = w1 at hb1 hf1 hs1 ⊢
    have hT : (s.extract n s.size).data.toList = s.data.toList.drop (s.size - 8) := by rw [show s.size - 8 = n by have := HN.out; omega]; exact extract_drop _ _
    have hTl : (s.data.toList.drop (s.size - 8)).length = 8 := by rw [List.length_drop, ba_len]; have := HN.out; omega
    have hTs : (s.extract n s.size).size ≤ 140737488355328 := by rw [← ba_len, hT, hTl]; omega
    obtain ⟨v2, w2, hr2, hv2, hf2⟩ := run_toBytes (P := Try.prog) w1 9 43 5 (s.extract n s.size) Try.underlying9 Try.underlying43 Try.underlying5 hTs
    rw [hT] at hv2
    have HTE : Hid (entOf s = ⟨s.extract 0 n, unfix (s.data.toList.drop (s.size - 8)) / 256, unfix (s.data.toList.drop (s.size - 8)) % 256, ⟨#[]⟩⟩) := Lib.hid (by unfold entOf; rw [show s.size - 8 = n by have := HN.out; omega])
    clear hT hTs
    generalize s.data.toList.drop (s.size - 8) = L at hTl hv2 HTE
    obtain ⟨aa, cc, rfl, -⟩ := id hv2
    rw [bs_length, hTl] at hv2 hr2
    have hp3 : ∀ x, (w2.alloc x).heap[w2.heap.size]? = some x := fun x => heap_alloc_new w2 x
    have hlt : w.heap.size + 1 ≤ w2.heap.size := by have := hf2.size; omega
    have HL := Lib.hid hTl
    have HV2 := Lib.hid hv2
    have HB2 := Lib.hid (hb1.non hf2)
    have HF2 := Lib.hid (hf1.non hf2)
    clear hv2 hf2 hb1 hf1 hTl
    go_upto_region 5 with (fail)
    have hf3 := Fr.alloc w2 (.cells #[Value.slice aa 8 cc, Value.int .i64 0, Value.int .i64 0] 50)
    have hp3 := hp3 (.cells #[Value.slice aa 8 cc, Value.int .i64 0, Value.int .i64 0] 50)
    generalize w2.alloc (.cells #[Value.slice aa 8 cc, Value.int .i64 0, Value.int .i64 0] 50) = w3 at hf3 hp3 ⊢
    have hr3 : RRd w3 w2.heap.size (.slice aa 8 cc) L 0 0 := ⟨hp3, HV2.out.non hf3, fun _ => HV2.out.old (by rw [bs_length, HL.out]; omega) (fun k (h : k = _) => by omega), by omega, aa, cc, by rw [HL.out]⟩
    go_wp2_with fail
    have t0 := rrFix_any w3 w2.heap.size (.slice aa 8 cc) L 0 0 8 hr3
    rw [takeFix_all L HL.out] at t0
    refine t0.mono ?_
    rintro e w4 ⟨rfl, -, hf4⟩
    have hu8 : unfix L < 18446744073709551616 := by have h1 := unfix_lt L; rw [HL.out] at h1; have h2 : (256 : Nat) ^ 8 = 18446744073709551616 := by decide
                                                    omega
    have HB4 := Lib.hid ((HB2.out.non hf3).frame hf4 (fun h => by have h1 : w.heap.size = w2.heap.size := h; omega))
    have HF4 := Lib.hid (((HF2.out.non hf3)).new hf4 (fun k h => by have h1 : k = w2.heap.size := h; omega))
    generalize unfix L = x at hu8 HTE ⊢
    clear hp3 hr3 hf3 hf4 t0 hr2
    obtain ⟨M, hM⟩ : ∃ M, M = entOf s := ⟨_, rfl⟩
    have hcl : (#[Value.string (s.extract 0 n), Value.int .u64 ((x : Int) / 256), Value.int .u8 ((x : Int) % 256), Value.string { data := #[] }] : Array Value) = (entCells M).toArray := by rw [hM, HTE.out]; simp [entCells]
    rw [← hM] at HE
    have HCL := Lib.hid hcl
    have HMO : Hid (M.user = s.extract 0 n ∧ M.val = ⟨#[]⟩) := Lib.hid (by rw [hM, HTE.out]; exact ⟨rfl, rfl⟩)
    clear hcl hM HTE
    go_upto_region 7 with (fail)
    rw [HCL.out]
    have hb5 := Blk.new w4 24 (entCells M)
    have hf5 := Fr.alloc w4 (.cells (entCells M).toArray 24)
    generalize w4.alloc (.cells (entCells M).toArray 24) = w5 at hb5 hf5 ⊢
    obtain ⟨H, hH⟩ : ∃ H, H = w4.heap.size := ⟨_, rfl⟩
    rw [← hH] at hb5 ⊢
    have HBZ := Lib.hid (HB4.out.non hf5)
    have HBM := Lib.hid hb5
    have HF5 := Lib.hid (HF4.out.non hf5)
    have hne : ¬ w.heap.size = H := by have := HB4.out.lt; omega
    have hie : (Try.prog.info? 24).map (·.size) = some 4 := by kernel_rfl
    have hue := Try.underlying24
    clear hb5 hf5 HB4 HF4 HCL hH
    go_wp2_with ((with_reducible show wpList _ _ _ (({ op := .load _ _, .. } : Oper) :: _) _ _); refine wpList_load_mid rfl 24 _ rfl H 0 rfl (entCells M) _ (HBM.out.range 0 _ (fun j v hj => by simpa using hj)) hue rfl hie ?_)
    refine (refEntRight_any M w5).mono ?_
    rintro e w6 ⟨rfl, hf6⟩
    have HBZ6 := Lib.hid (HBZ.out.non hf6)
    have HBM6 := Lib.hid (HBM.out.non hf6)
    have HF6 := Lib.hid (HF5.out.non hf6)
    clear hf6 HBZ HBM HF5
    by_cases hr : entRight M = true
    · have HE2 : Hid (entTake s = (M, 0)) := Lib.hid (by rw [HE.out, if_pos hr])
      rw [hr]
      go_upto_region 9 with (fail)
      go_wp2_with ((with_reducible show wpList _ _ _ (({ op := .load _ _, .. } : Oper) :: _) _ _); refine wpList_whole rfl rfl 24 33 (.tmp 7) (.tmp 2) rfl rfl rfl rfl H w.heap.size 24 24 (entCells M) (entCells Ent.zero) HBM6.out HBZ6.out rfl _ hue rfl hie (ent_one _) (by simp) rfl (fun _ => rfl) ?_)
      intro w7 hb7 hf7 _
      simp only [List.set_cons_succ, List.set_cons_zero]
      have hb := hb7.loadVar (P := Try.prog) 24 _ Try.underlying24 rfl hie
      have HRV := Lib.hid hb
      have HF7 := Lib.hid (HF6.out.new hf7 (fun k h => by have h1 : k = w.heap.size := h; omega))
      clear hb hb7 hf7
      go_wp2_with fail
      refine bodyPost_ret (v := .tuple #[.agg (entCells M).toArray, .int .i64 0]) (by have h := HRV.out; simp [results, Try.results18, asAddr, h]) rfl ⟨by rw [HE2.out]; rfl, HF7.out⟩
    · have HE2 : Hid (entTake s = (Ent.zero, 80)) := Lib.hid (by rw [HE.out, if_neg hr])
      have hr0 : entRight M = false := by simpa using hr
      rw [hr0]
      clear hr hr0
      go_upto_region 8 with (fail)
      go_wp2_with ((with_reducible show wpList _ _ _ (({ op := .store _ _ _, .. } : Oper) :: _) _ _); refine wpList_put rfl 24 (.tmp 2) (.tmp 32) rfl rfl w.heap.size 24 (entCells Ent.zero) (entCells Ent.zero) HBZ6.out rfl hie (ent_one _) rfl rfl ?_)
      intro w7 hb7 hf7 _
      have hb := hb7.loadVar (P := Try.prog) 24 _ Try.underlying24 rfl hie
      have HRV := Lib.hid hb
      have HF7 := Lib.hid (HF6.out.new hf7 (fun k h => by have h1 : k = w.heap.size := h; omega))
      clear hb hb7 hf7
      go_wp2_with fail
      refine bodyPost_ret (v := .tuple #[.agg (entCells Ent.zero).toArray, .int .i64 80]) (by have h := HRV.out; simp [results, Try.results18, asAddr, h]) rfl ⟨by rw [HE2.out]; rfl, HF7.out⟩
end Go.Proofs.Yteokfgdennjjiaa
