/- package name: bytes compared; the head that stands ahead of bytes -/
import Derived.Test.YtpmkcjgndljhgaaDoorNameOpD
import Derived.Test.YtpmkcjgndljhgaaDoorGroundA

namespace Go.Proofs.YtpmkcjgndljhgaaDoor
open Go.ChangeShapes Go.WideShapes Go.ChangeAt Go.RowKit

set_option maxRecDepth 100000 in
theorem equal_any (v v' : Value) (l m : List UInt8) (w : World) (hv : Row w v (bs l)) (hv' : Row w v' (bs m)) :
    Calls Tryd.prog 30 #[v, v'] w fun e w' => e = .returned (.bool (l == m)) ∧ w = w' := by
  have h1 := run_str (P := Tryd.prog) _ 33 9 5 _ _ hv Tryd.underlying33 Tryd.underlying5 Tryd.underlying9
  have h2 := run_str (P := Tryd.prog) _ 33 9 5 _ _ hv' Tryd.underlying33 Tryd.underlying5 Tryd.underlying9
  obtain ⟨D, hD⟩ : ∃ D : ByteArray, (⟨l.toArray⟩ : ByteArray) = D := ⟨_, rfl⟩
  obtain ⟨E, hE⟩ : ∃ E : ByteArray, (⟨m.toArray⟩ : ByteArray) = E := ⟨_, rfl⟩
  rw [hD] at h1
  rw [hE] at h2
  by_cases hlm : l = m
  · have he : D = E := by rw [← hD, ← hE, hlm]
    have HB := Lib.hid (show (l == m) = true by rw [hlm]; simp)
    clear hD hE hlm hv hv'
    subst he
    go_enter Tryd.func30, Tryd.ntmps30
    go_wp2_with fail
    go_ret
    exact ⟨by rw [HB.out]; rfl, rfl⟩
  · have he : ¬ D = E := fun h => hlm (by
      rw [← hD, ← hE] at h
      injection h with h
      injection h)
    have qf : (D.toList == E.toList) = false := beq_toList_ne he
    have HB := Lib.hid (show (l == m) = false by simpa using hlm)
    clear hD hE hlm hv hv' he
    go_enter Tryd.func30, Tryd.ntmps30
    go_wp2_with fail
    go_ret
    exact ⟨by rw [HB.out]; rfl, rfl⟩

set_option maxRecDepth 100000 in
set_option maxHeartbeats 4000000 in
theorem take_any (v : Value) (l : List UInt8) (w : World) (hv : Row w v (bs l)) :
    Calls Tryd.prog 15 #[v] w fun e w' => e = .returned (.tuple #[.agg (hdCells (hdTake l).1).toArray, .int .i64 (hdTake l).2]) ∧ Fr Non w w' := by
  have hlen := run_lenRow (P := Tryd.prog) hv 33 5 Tryd.underlying33
  rw [bs_length] at hlen
  have hmax := hv.le
  rw [bs_length] at hmax
  unfold maxLen at hmax
  by_cases hs : (l.length : Int) < 30
  · have E : hdTake l = (Hd.zero, 10) := if_pos (by omega)
    have HE := Lib.hid E
    have HV := Lib.hid hv
    clear E hv
    go_enter Tryd.func15, Tryd.ntmps15
    go_wp2_with fail
    have hb : Blk (w.alloc (.cells #[Value.int .u8 0, Value.int .u8 0, Value.int .u64 0, Value.int .u64 0, Value.int .u64 0] 32)) w.heap.size 32 (hdCells Hd.zero) := Blk.new w _ _
    have hb := hb.loadVar (P := Tryd.prog) 32 _ Tryd.underlying32 rfl (by kernel_rfl)
    have HRV := Lib.hid hb
    refine bodyPost_ret (v := .tuple #[.agg (hdCells Hd.zero).toArray, .int .i64 10]) (by have h := HRV.out; simp [results, Tryd.results15, asAddr, h]) rfl ⟨by rw [HE.out]; rfl, Fr.alloc _ _⟩
  · have hl30 : 30 ≤ l.length := by omega
    have E : hdTake l = if hdGood l then (hdOf l, 0) else (Hd.zero, 70) := if_neg (by omega)
    have G : hdGood l = (hdRight (hdOf l) && (hdLay (hdOf l) == l.take 30)) := by
      unfold hdGood
      rw [show decide (30 ≤ l.length) = true by simp [hl30], Bool.true_and]
      congr 1
      rw [Bool.eq_iff_iff, beq_iff_eq, beq_iff_eq]
      exact (hdLay_iff l hl30).symm
    obtain ⟨v2, hrun2, hv2, -⟩ := run_subHi (P := Tryd.prog) hv 33 5 Tryd.underlying33 (by kernel_rfl) .i64 30 30 rfl (by rw [bs_length]; omega)
    have e2 : (bs l).take 30 = bs (l.take 30) := by simp [bs, List.map_take]
    rw [e2] at hv2
    obtain ⟨v3, hrun3, hv3, -⟩ := run_subLo (P := Tryd.prog) hv2 33 5 Tryd.underlying33 (by kernel_rfl) .i64 4 4 rfl (by rw [bs_length, List.length_take]; omega)
    have e3 : (bs (l.take 30)).drop 4 = bs ((l.take 30).drop 4) := by simp [bs, List.map_drop]
    rw [e3] at hv3
    obtain ⟨h, hh⟩ : ∃ h, hdOf l = h := ⟨_, rfl⟩
    have hk : h.ok := hh ▸ hdOf_ok l
    have hfd (w : World) (hv : Row w v3 (bs ((l.take 30).drop 4))) := fields_any v3 ((l.take 30).drop 4) w hv (by rw [List.length_drop, List.length_take]; omega)
    rw [hdFields_of l hl30, hh] at hfd
    rw [hh] at E G
    obtain ⟨M, hM⟩ : ∃ M, l.take 30 = M := ⟨_, rfl⟩
    rw [hM] at G hv2
    have HE := Lib.hid E
    have HG := Lib.hid G
    have HV2 := Lib.hid hv2
    have HV3 := Lib.hid hv3
    have HFD := Lib.hid hfd
    have HK := Lib.hid hk
    have hzv : ∀ w, (zeroValue 32).run Tryd.prog w = .ok (.agg (hdCells Hd.zero).toArray) w := fun _ => by kernel_rfl
    have HZV := Lib.hid hzv
    have hih : (Tryd.prog.info? 32).map (·.size) = some 5 := by kernel_rfl
    have hone : ∀ v ∈ hdCells h, v.oneCell' = true := by intro v hv; simp only [hdCells, List.mem_cons, List.not_mem_nil, or_false] at hv; rcases hv with rfl | rfl | rfl | rfl | rfl <;> rfl
    have HOne := Lib.hid hone
    have HZone : Hid (∀ v ∈ hdCells Hd.zero, v.oneCell' = true) := Lib.hid (by intro v hv; simp only [hdCells, List.mem_cons, List.not_mem_nil, or_false] at hv; rcases hv with rfl | rfl | rfl | rfl | rfl <;> rfl)
    clear E G hv hv2 hv3 hh hk hfd hM e2 e3 hzv hone hl30
    go_enter Tryd.func15, Tryd.ntmps15
    go_upto_region 4 with (fail)
    have hb1 : Blk (w.alloc (.cells #[Value.int .u8 0, Value.int .u8 0, Value.int .u64 0, Value.int .u64 0, Value.int .u64 0] 32)) w.heap.size 32 (hdCells Hd.zero) := Blk.new w _ _
    have hf1 := Fr.alloc w (.cells #[Value.int .u8 0, Value.int .u8 0, Value.int .u64 0, Value.int .u64 0, Value.int .u64 0] 32)
    obtain ⟨R, hR⟩ : ∃ R, R = w.heap.size := ⟨_, rfl⟩
    rw [← hR] at hb1 ⊢
    generalize w.alloc (.cells #[Value.int .u8 0, Value.int .u8 0, Value.int .u64 0, Value.int .u64 0, Value.int .u64 0] 32) = w1 at hb1 hf1 ⊢
    have HB1 := Lib.hid hb1
    have HF1 := Lib.hid hf1
    have HR := Lib.hid hR
    clear hb1 hf1 hR
    go_wp2_with fail
    refine (HFD.out w1 (HV3.out.non HF1.out)).mono ?_
    rintro e w2 ⟨rfl, hf2⟩
    have HB2 := Lib.hid (HB1.out.non hf2)
    have HF2 := Lib.hid (HF1.out.non hf2)
    clear hf2 HB1 HF1
    go_wp2_with ((with_reducible show wpList _ _ _ (({ op := .alloc _, .. } : Oper) :: _) _ _); refine wpList_var rfl rfl 32 4 (.tmp 13) rfl rfl rfl rfl _ (hdCells h) HZV.out rfl hih HOne.out (by simp) (fun _ => rfl) ?_)
    intro w3 hb3 hf3 hs3
    obtain ⟨X, hX⟩ : ∃ X, X = w2.heap.size := ⟨_, rfl⟩
    rw [← hX] at hb3 ⊢
    simp only [List.set_cons_succ, List.set_cons_zero]
    have HX3 := Lib.hid hb3
    have HB3 := Lib.hid (HB2.out.non hf3)
    have HF3 := Lib.hid (HF2.out.non hf3)
    obtain ⟨c0, c1, c2, c3, c4⟩ := hdCells_at hb3
    clear hb3 hf3 HB2 HF2 hX hs3 hrun2 hrun3
    cases hr : hdRight h with
    | false =>
      have g := HG.out
      have e := HE.out
      rw [hr] at g
      rw [g] at e
      have HE' := Lib.hid e
      clear g e HE HG
      go_wp2_with (first
      | (go_at_call 17; refine (right_any h _).mono ?_; rintro e w4 ⟨rfl, hf4⟩; obtain ⟨d0, d1, d2, d3, d4⟩ := hdCells_at (HX3.out.non hf4))
      | (go_at_call 19; refine (lay_any h _ HK.out).mono ?_; rintro e w5 ⟨v5, rfl, ho5, hf5⟩; obtain ⟨f0, f1, f2, f3, f4⟩ := hdCells_at ((HX3.out.non hf4).non hf5))
      | (go_at_call 30; refine (equal_any _ _ _ _ _ ho5.row (HV2.out.non ((HF3.out.non hf4).non hf5))).mono ?_; rintro e w6 ⟨rfl, rfl⟩)
      | ((with_reducible show wpList _ _ _ (({ op := .store _ _ _, .. } : Oper) :: _) _ _); refine wpList_put rfl 32 (.tmp 2) (.tmp 24) rfl rfl R 32 (hdCells Hd.zero) (hdCells Hd.zero) (HB3.out.non hf4) rfl hih HZone.out rfl rfl ?_; intro w7 hb7 hf7 hs7)
      | fail)
      have HRV := Lib.hid (hb7.loadVar (P := Tryd.prog) 32 _ Tryd.underlying32 rfl hih)
      have HFF : Hid (Fr Non w w7) := Lib.hid ((HF3.out.non hf4).new hf7 (fun i h => by have h1 : i = R := h; have := HR.out; omega))
      refine bodyPost_ret (v := .tuple #[.agg (hdCells Hd.zero).toArray, .int .i64 70]) (by have h := HRV.out; simp [results, Tryd.results15, asAddr, h]) rfl ⟨by rw [HE'.out]; rfl, HFF.out⟩
    | true =>
      cases hq : (hdLay h == M) with
      | false =>
        have g := HG.out
        have e := HE.out
        rw [hr, hq] at g
        rw [g] at e
        have HE' := Lib.hid e
        clear g e HE HG
        go_wp2_with (first
        | (go_at_call 17; refine (right_any h _).mono ?_; rintro e w4 ⟨rfl, hf4⟩; obtain ⟨d0, d1, d2, d3, d4⟩ := hdCells_at (HX3.out.non hf4))
        | (go_at_call 19; refine (lay_any h _ HK.out).mono ?_; rintro e w5 ⟨v5, rfl, ho5, hf5⟩; obtain ⟨f0, f1, f2, f3, f4⟩ := hdCells_at ((HX3.out.non hf4).non hf5))
        | (go_at_call 30; refine (equal_any _ _ _ _ _ ho5.row (HV2.out.non ((HF3.out.non hf4).non hf5))).mono ?_; rintro e w6 ⟨rfl, rfl⟩)
        | ((with_reducible show wpList _ _ _ (({ op := .store _ _ _, .. } : Oper) :: _) _ _); refine wpList_put rfl 32 (.tmp 2) (.tmp 24) rfl rfl R 32 (hdCells Hd.zero) (hdCells Hd.zero) ((HB3.out.non hf4).non hf5) rfl hih HZone.out rfl rfl ?_; intro w7 hb7 hf7 hs7)
        | fail)
        have HRV := Lib.hid (hb7.loadVar (P := Tryd.prog) 32 _ Tryd.underlying32 rfl hih)
        have HFF : Hid (Fr Non w w7) := Lib.hid (((HF3.out.non hf4).non hf5).new hf7 (fun i h => by have h1 : i = R := h; have := HR.out; omega))
        refine bodyPost_ret (v := .tuple #[.agg (hdCells Hd.zero).toArray, .int .i64 70]) (by have h := HRV.out; simp [results, Tryd.results15, asAddr, h]) rfl ⟨by rw [HE'.out]; rfl, HFF.out⟩
      | true =>
        have g := HG.out
        have e := HE.out
        rw [hr, hq] at g
        rw [g] at e
        have HE' := Lib.hid e
        clear g e HE HG
        go_wp2_with (first
        | (go_at_call 17; refine (right_any h _).mono ?_; rintro e w4 ⟨rfl, hf4⟩; obtain ⟨d0, d1, d2, d3, d4⟩ := hdCells_at (HX3.out.non hf4))
        | (go_at_call 19; refine (lay_any h _ HK.out).mono ?_; rintro e w5 ⟨v5, rfl, ho5, hf5⟩; obtain ⟨f0, f1, f2, f3, f4⟩ := hdCells_at ((HX3.out.non hf4).non hf5))
        | (go_at_call 30; refine (equal_any _ _ _ _ _ ho5.row (HV2.out.non ((HF3.out.non hf4).non hf5))).mono ?_; rintro e w6 ⟨rfl, rfl⟩)
        | ((with_reducible show wpList _ _ _ (({ op := .store _ _ _, .. } : Oper) :: _) _ _); refine wpList_put rfl 32 (.tmp 2) (.tmp 25) rfl rfl R 32 (hdCells Hd.zero) (hdCells h) ((HB3.out.non hf4).non hf5) rfl hih HOne.out rfl rfl ?_; intro w7 hb7 hf7 hs7)
        | fail)
        have HRV := Lib.hid (hb7.loadVar (P := Tryd.prog) 32 _ Tryd.underlying32 rfl hih)
        have HFF : Hid (Fr Non w w7) := Lib.hid (((HF3.out.non hf4).non hf5).new hf7 (fun i h => by have h1 : i = R := h; have := HR.out; omega))
        refine bodyPost_ret (v := .tuple #[.agg (hdCells h).toArray, .int .i64 0]) (by have h := HRV.out; simp [results, Tryd.results15, asAddr, h]) rfl ⟨by rw [HE'.out]; rfl, HFF.out⟩
end Go.Proofs.YtpmkcjgndljhgaaDoor
