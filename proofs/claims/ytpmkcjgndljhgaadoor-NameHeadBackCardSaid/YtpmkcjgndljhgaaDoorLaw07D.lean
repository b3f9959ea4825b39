/- layer 7: heads, their bytes, and what stands ahead of bytes -/
import Derived.Test.YtpmkcjgndljhgaaDoorLaw07A
import Derived.Test.YtpmkcjgndljhgaaDoorHeadEq
import Derived.Test.YtpmkcjgndljhgaaDoorNameRefD
import Derived.Deep.RegionHeld3
import Derived.Lib.SlBytesConst
namespace Go.Proofs.YtpmkcjgndljhgaaDoor
open Go.ChangeShapes Go.WideShapes Go.ChangeAt Go.RowKit

theorem hd_one (h : Hd) : ∀ v ∈ hdCells h, v.oneCell' = true := by intro v hv; simp only [hdCells, List.mem_cons, List.not_mem_nil, or_false] at hv; rcases hv with rfl | rfl | rfl | rfl | rfl <;> rfl
set_option maxRecDepth 100000 in
set_option maxHeartbeats 4000000 in
/-- P7.3 -/
theorem heads7_any {T : World → Prop} (C : NameC T) (W : World) (h : Hd) (v : Value) (b : List UInt8) (hT : T W) (hk : h.ok) (hv : Row W v (bs b)) (hbl : b.length ≤ 140737488351232) :
    Calls Tryd.prog 6 #[.agg (hdCells h).toArray, v] W fun e W' => e = .returned (.bool true) ∧ Fr Non W W' := by
  have HK := Lib.hid hk
  have HV := Lib.hid hv
  have HTT := Lib.hid hT
  clear hk hv hT
  have hzv : ∀ w, (zeroValue 32).run Tryd.prog w = .ok (.agg (hdCells Hd.zero).toArray) w := fun _ => by kernel_rfl
  have HZV := Lib.hid hzv
  have hih : (Tryd.prog.info? 32).map (·.size) = some 5 := by kernel_rfl
  have huh := Tryd.underlying32
  clear hzv
  go_enter Tryd.func6, Tryd.ntmps6
  go_upto_region 1 with (fail)
  have hb1 := Blk.new W 32 (hdCells h)
  have hf1 := Fr.alloc W (.cells (hdCells h).toArray 32)
  obtain ⟨P, hP⟩ : ∃ P, P = W.heap.size := ⟨_, rfl⟩
  rw [← hP] at hb1 ⊢
  generalize W.alloc (.cells (hdCells h).toArray 32) = w1 at hb1 hf1 ⊢
  go_wp2_with fail
  refine (shown7_any C _ (C.tf HTT.out hf1)).mono ?_
  rintro e w2 ⟨rfl, hf2⟩
  have F2 := Lib.hid (hf1.non hf2)
  have HP2 := Lib.hid (hb1.non hf2)
  clear hf1 hf2 hb1 hP
  go_upto_region 2 with (fail)
  go_wp2_with fail
  refine (C.take v b w2 (HV.out.non F2.out) (by omega)).mono ?_
  rintro e w3 ⟨rfl, hf3⟩
  obtain ⟨T, hT⟩ : ∃ T, T = hdTake b := ⟨_, rfl⟩
  rw [← hT]
  have HT := Lib.hid hT
  have F3 := Lib.hid (F2.out.non hf3)
  have HP3 := Lib.hid (HP2.out.non hf3)
  clear hf3 hT
  go_wp2_with ((with_reducible show wpList _ _ _ (({ op := .alloc _, .. } : Oper) :: _) _ _); refine wpList_var rfl rfl 32 6 (.tmp 14) rfl rfl rfl rfl _ (hdCells T.1) HZV.out rfl hih (hd_one _) (by simp) (fun _ => rfl) ?_)
  intro w4 hb4 hf4 hs4
  obtain ⟨X, hX⟩ : ∃ X, X = w3.heap.size := ⟨_, rfl⟩
  rw [← hX] at hb4 ⊢
  simp only [List.set_cons_succ, List.set_cons_zero]
  have F4 := Lib.hid (F3.out.non hf4)
  have HP4 := Lib.hid (HP3.out.non hf4)
  have HX4 := Lib.hid hb4
  clear hf4 hb4 hX hs4
  go_upto_region 3 with (fail)
  go_wp2_with fail
  refine (refTake_any v b w4 (HV.out.non F4.out)).mono ?_
  rintro e w5 ⟨rfl, hf5⟩
  rw [← HT.out]
  have F5 := Lib.hid (F4.out.non hf5)
  have HP5 := Lib.hid (HP4.out.non hf5)
  have HX5 := Lib.hid (HX4.out.non hf5)
  clear hf5 HT
  go_wp2_with ((with_reducible show wpList _ _ _ (({ op := .alloc _, .. } : Oper) :: _) _ _); refine wpList_var rfl rfl 32 8 (.tmp 19) rfl rfl rfl rfl _ (hdCells T.1) HZV.out rfl hih (hd_one _) (by simp) (fun _ => rfl) ?_)
  intro w6 hb6 hf6 hs6
  obtain ⟨Y, hY⟩ : ∃ Y, Y = w5.heap.size := ⟨_, rfl⟩
  rw [← hY] at hb6 ⊢
  simp only [List.set_cons_succ, List.set_cons_zero]
  have F6 := Lib.hid (F5.out.non hf6)
  have HP6 := Lib.hid (HP5.out.non hf6)
  have HX6 := Lib.hid (HX5.out.non hf6)
  have HY6 := Lib.hid hb6
  clear hf6 hb6 hY hs6 HP2 HP3 HP4 HP5 HX4 HX5 F2 F3 F4 F5
  obtain ⟨M, er⟩ := T
  dsimp only at HX6 HY6 ⊢
  have hqq : ∀ w, (binOp .eql 32 (.agg (hdCells M).toArray) (.agg (hdCells M).toArray)).run Tryd.prog w = .ok (.bool true) w := fun w => by rw [heads_eql, (hdEq_iff M M).mpr rfl]
  go_upto_region 4 with (fail)
  have hS0 : (fun w' : World => Blk w' P 32 (hdCells h) ∧ Blk w' X 32 (hdCells M) ∧ Blk w' Y 32 (hdCells M)) w6.drew := ⟨HP6.out.non (Fr.drew _), HX6.out.non (Fr.drew _), HY6.out.non (Fr.drew _)⟩
  refine wp_region_held_drew (S := fun w' : World => Blk w' P 32 (hdCells h) ∧ Blk w' X 32 (hdCells M) ∧ Blk w' Y 32 (hdCells M)) (by kernel_rfl) hS0 (fun hHeld => ?_)
  refine wpAnyH_takeL (i := 0) 21 (v := ?_) rfl rfl (by kernel_rfl) (by kernel_rfl) (by kernel_rfl) (fun _ _ _ h => h) (by assumption) (Or.inl ⟨by rfl, ?_⟩) ?_
  rotate_left
  · intro w hSw; go_simp; (try with_reducible rfl)
  simp only [List.set_cons_zero, List.set_cons_succ]
  refine wpAnyH_takeL (i := 1) 22 (v := ?_) rfl rfl (by kernel_rfl) (by kernel_rfl) (by kernel_rfl) (fun _ _ _ h => h) (by assumption) (Or.inl ⟨by rfl, ?_⟩) ?_
  rotate_left
  · intro w hSw; go_simp; (try with_reducible rfl)
  simp only [List.set_cons_zero, List.set_cons_succ]
  refine wpAnyH_takeL (i := 2) 23 (v := .agg (hdCells M).toArray) rfl rfl (by kernel_rfl) (by kernel_rfl) (by kernel_rfl) (fun _ _ _ h => h) (by assumption) (yieldsIf_load_mid (by rfl) _ _ rfl X (0) rfl (hdCells M) _ (fun w h => h.2.1.range 0 _ (fun j v hj => by simpa using hj)) huh rfl hih) ?_
  simp only [List.set_cons_zero, List.set_cons_succ]
  refine wpAnyH_takeL (i := 3) 24 (v := .agg (hdCells M).toArray) rfl rfl (by kernel_rfl) (by kernel_rfl) (by kernel_rfl) (fun _ _ _ h => h) (by assumption) (yieldsIf_load_mid (by rfl) _ _ rfl Y (0) rfl (hdCells M) _ (fun w h => h.2.2.range 0 _ (fun j v hj => by simpa using hj)) huh rfl hih) ?_
  simp only [List.set_cons_zero, List.set_cons_succ]
  refine wpAnyH_takeL (i := 4) 25 (v := ?_) rfl rfl (by kernel_rfl) (by kernel_rfl) (by kernel_rfl) (fun _ _ _ h => h) (by assumption) (Or.inl ⟨by rfl, ?_⟩) ?_
  rotate_left
  · intro w hSw; go_simp; (try with_reducible rfl)
  simp only [List.set_cons_zero, List.set_cons_succ]
  refine wpAnyH_takeL (i := 5) 26 (v := ?_) rfl rfl (by kernel_rfl) (by kernel_rfl) (by kernel_rfl) (fun _ _ _ h => h) (by assumption) (Or.inl ⟨by rfl, ?_⟩) ?_
  rotate_left
  · intro w hSw; go_simp; (try with_reducible rfl)
  simp only [List.set_cons_zero, List.set_cons_succ]
  refine wpAnyH_takeL (i := 6) 27 (v := ?_) rfl rfl (by kernel_rfl) (by kernel_rfl) (by kernel_rfl) (fun _ _ _ h => h) (by assumption) (Or.inl ⟨by rfl, ?_⟩) ?_
  rotate_left
  · intro w hSw; go_simp; (try with_reducible rfl)
  simp only [List.set_cons_zero, List.set_cons_succ]
  refine wpAnyH_takeL (i := 7) 28 (v := ?_) rfl rfl (by kernel_rfl) (by kernel_rfl) (by kernel_rfl) (fun _ _ _ h => h) (by assumption) (Or.inl ⟨by rfl, ?_⟩) ?_
  rotate_left
  · intro w hSw; go_simp; (try with_reducible rfl)
  simp only [List.set_cons_zero, List.set_cons_succ]
  refine wpAnyH_takeL (i := 8) 29 (v := ?_) rfl rfl (by kernel_rfl) (by kernel_rfl) (by kernel_rfl) (fun _ _ _ h => h) (by assumption) (Or.inl ⟨by rfl, ?_⟩) ?_
  rotate_left
  · intro w hSw; go_simp; (try with_reducible rfl)
  simp only [List.set_cons_zero, List.set_cons_succ]
  refine wpAnyH_takeL (i := 9) 30 (v := ?_) rfl rfl (by kernel_rfl) (by kernel_rfl) (by kernel_rfl) (fun _ _ _ h => h) (by assumption) (Or.inl ⟨by rfl, ?_⟩) ?_
  rotate_left
  · intro w hSw; go_simp; (try with_reducible rfl)
  simp only [List.set_cons_zero, List.set_cons_succ]
  refine wpAnyH_takeL (i := 10) 31 (v := ?_) rfl rfl (by kernel_rfl) (by kernel_rfl) (by kernel_rfl) (fun _ _ _ h => h) (by assumption) (Or.inl ⟨by rfl, ?_⟩) ?_
  rotate_left
  · intro w hSw; go_simp; (try with_reducible rfl)
  simp only [List.set_cons_zero, List.set_cons_succ]
  refine wpAnyH_takeL (i := 11) 32 (v := ?_) rfl rfl (by kernel_rfl) (by kernel_rfl) (by kernel_rfl) (fun _ _ _ h => h) (by assumption) (Or.inl ⟨by rfl, ?_⟩) ?_
  rotate_left
  · intro w hSw; go_simp; (try with_reducible rfl)
  simp only [List.set_cons_zero, List.set_cons_succ]
  refine wpAnyH_takeL (i := 12) 33 (v := .agg (hdCells h).toArray) rfl rfl (by kernel_rfl) (by kernel_rfl) (by kernel_rfl) (fun _ _ _ h => h) (by assumption) (yieldsIf_load_mid (by rfl) _ _ rfl P (0) rfl (hdCells h) _ (fun w h => h.1.range 0 _ (fun j v hj => by simpa using hj)) huh rfl hih) ?_
  simp only [List.set_cons_zero, List.set_cons_succ]
  refine wpAnyH_takeL (i := 14) 35 (v := .agg (hdCells h).toArray) rfl rfl (by kernel_rfl) (by kernel_rfl) (by kernel_rfl) (fun _ _ _ h => h) (by assumption) (yieldsIf_load_mid (by rfl) _ _ rfl P (0) rfl (hdCells h) _ (fun w h => h.1.range 0 _ (fun j v hj => by simpa using hj)) huh rfl hih) ?_
  simp only [List.set_cons_zero, List.set_cons_succ]
  refine wpAnyH_ready (rs := [13]) (by kernel_rfl) (by simp) ?_
  refine AllReadyH.cons (o := ⟨some 34, _, _, _, _, _⟩) rfl (fun K hK => ?_) (AllReadyH.nil)
  go_simp
  go_wp2_with (go_at_call 17; refine (C.right h _ HK.out).mono ?_; rintro e r2 ⟨rfl, hf2⟩)
  have F2 : Hid (Fr Non w6.drew r2) := Lib.hid hf2
  clear hf2
  generalize hRB : hdRight h = rb
  have HRB := Lib.hid hRB
  clear hRB
  refine hK.out _ _ (⟨HP6.out.non ((Fr.drew _).non F2.out), HX6.out.non ((Fr.drew _).non F2.out), HY6.out.non ((Fr.drew _).non F2.out)⟩) (fun hHeld => ?_)
  clear hK K
  refine wpAnyH_ready (rs := [15]) (by kernel_rfl) (by simp) ?_
  refine AllReadyH.cons (o := ⟨some 36, _, _, _, _, _⟩) rfl (fun K hK => ?_) (AllReadyH.nil)
  go_simp
  go_wp2_with (go_at_call 18; refine (refRight_any h _).mono ?_; rintro e r3 ⟨rfl, hf3⟩)
  rw [HRB.out]
  have F3 : Hid (Fr Non r2 r3) := Lib.hid hf3
  clear hf3
  refine hK.out _ _ (⟨HP6.out.non ((Fr.drew _).non (F2.out.non F3.out)), HX6.out.non ((Fr.drew _).non (F2.out.non F3.out)), HY6.out.non ((Fr.drew _).non (F2.out.non F3.out))⟩) (fun hHeld => ?_)
  clear hK K
  refine wpAnyH_takeL (i := 16) 37 (v := ?_) rfl rfl (by kernel_rfl) (by kernel_rfl) (by kernel_rfl) (fun _ _ _ h => h) (by assumption) (Or.inl ⟨by rfl, ?_⟩) ?_
  rotate_left
  · intro w hSw; go_simp; (try with_reducible rfl)
  simp only [List.set_cons_zero, List.set_cons_succ]
  refine wpAnyH_takeL (i := 17) 38 (v := ?_) rfl rfl (by kernel_rfl) (by kernel_rfl) (by kernel_rfl) (fun _ _ _ h => h) (by assumption) (Or.inl ⟨by rfl, ?_⟩) ?_
  rotate_left
  · intro w hSw; go_simp; (try with_reducible rfl)
  simp only [List.set_cons_zero, List.set_cons_succ]
  refine wpAnyH_takeL (i := 18) 39 (v := ?_) rfl rfl (by kernel_rfl) (by kernel_rfl) (by kernel_rfl) (fun _ _ _ h => h) (by assumption) (Or.inl ⟨by rfl, ?_⟩) ?_
  rotate_left
  · intro w hSw; go_simp; (try with_reducible rfl)
  simp only [List.set_cons_zero, List.set_cons_succ]
  refine wpAnyH_takeL (i := 19) 40 (v := .agg (hdCells h).toArray) rfl rfl (by kernel_rfl) (by kernel_rfl) (by kernel_rfl) (fun _ _ _ h => h) (by assumption) (yieldsIf_load_mid (by rfl) _ _ rfl P (0) rfl (hdCells h) _ (fun w h => h.1.range 0 _ (fun j v hj => by simpa using hj)) huh rfl hih) ?_
  simp only [List.set_cons_zero, List.set_cons_succ]
  refine wpAnyH_takeL (i := 22) 43 (v := .agg (hdCells h).toArray) rfl rfl (by kernel_rfl) (by kernel_rfl) (by kernel_rfl) (fun _ _ _ h => h) (by assumption) (yieldsIf_load_mid (by rfl) _ _ rfl P (0) rfl (hdCells h) _ (fun w h => h.1.range 0 _ (fun j v hj => by simpa using hj)) huh rfl hih) ?_
  simp only [List.set_cons_zero, List.set_cons_succ]
  refine wpAnyH_ready (rs := [20]) (by kernel_rfl) (by simp) ?_
  refine AllReadyH.cons (o := ⟨some 41, _, _, _, _, _⟩) rfl (fun K hK => ?_) (AllReadyH.nil)
  go_simp
  go_wp2_with (go_at_call 19; refine (C.lay h _ HK.out).mono ?_; rintro e r4 ⟨v9, rfl, ho9, hf4⟩)
  obtain ⟨L, hL⟩ : ∃ L, L = hdLay h := ⟨_, rfl⟩
  rw [← hL] at ho9
  have HL := Lib.hid hL
  have HR9 := Lib.hid ho9.row
  clear ho9 hL
  have F4 : Hid (Fr Non r3 r4) := Lib.hid hf4
  clear hf4
  refine hK.out _ _ (⟨HP6.out.non ((Fr.drew _).non (F2.out.non (F3.out.non F4.out))), HX6.out.non ((Fr.drew _).non (F2.out.non (F3.out.non F4.out))), HY6.out.non ((Fr.drew _).non (F2.out.non (F3.out.non F4.out)))⟩) (fun hHeld => ?_)
  clear hK K
  refine wpAnyH_ready (rs := [21, 23]) (by kernel_rfl) (by simp) ?_
  refine AllReadyH.cons (o := ⟨some 42, _, _, _, _, _⟩) rfl (fun K hK => ?_) (AllReadyH.cons (o := ⟨some 44, _, _, _, _, _⟩) rfl (fun K hK => ?_) (AllReadyH.nil))
  · skip
    have hxs := run_str (P := Tryd.prog) r4 33 9 5 _ _ (HR9.out.non (Fr.refl _ _)) Tryd.underlying33 Tryd.underlying5 Tryd.underlying9
    go_simp
    clear hxs
    refine hK.out _ _ (⟨HP6.out.non ((Fr.drew _).non (F2.out.non (F3.out.non F4.out))), HX6.out.non ((Fr.drew _).non (F2.out.non (F3.out.non F4.out))), HY6.out.non ((Fr.drew _).non (F2.out.non (F3.out.non F4.out)))⟩) (fun hHeld => ?_)
    clear hK K
    refine wpAnyH_ready (rs := [23]) (by kernel_rfl) (by simp) ?_
    refine AllReadyH.cons (o := ⟨some 44, _, _, _, _, _⟩) rfl (fun K hK => ?_) (AllReadyH.nil)
    go_simp
    go_wp2_with (go_at_call 20; refine (refLay_any h _ HK.out).mono ?_; rintro e r5 ⟨v8, rfl, ho8, hf5⟩)
    rw [← HL.out] at ho8
    have HR8 := Lib.hid ho8.row
    clear ho8
    have F5 : Hid (Fr Non r4 r5) := Lib.hid hf5
    clear hf5
    refine hK.out _ _ (⟨HP6.out.non ((Fr.drew _).non (F2.out.non (F3.out.non (F4.out.non F5.out)))), HX6.out.non ((Fr.drew _).non (F2.out.non (F3.out.non (F4.out.non F5.out)))), HY6.out.non ((Fr.drew _).non (F2.out.non (F3.out.non (F4.out.non F5.out))))⟩) (fun hHeld => ?_)
    clear hK K
    refine wpAnyH_ready (rs := [24]) (by kernel_rfl) (by simp) ?_
    refine AllReadyH.cons (o := ⟨some 45, _, _, _, _, _⟩) rfl (fun K hK => ?_) (AllReadyH.nil)
    have hxt := run_str (P := Tryd.prog) r5 33 9 5 _ _ (HR8.out.non (Fr.refl _ _)) Tryd.underlying33 Tryd.underlying5 Tryd.underlying9
    go_simp
    clear hxt
    refine hK.out _ _ (⟨HP6.out.non ((Fr.drew _).non (F2.out.non (F3.out.non (F4.out.non F5.out)))), HX6.out.non ((Fr.drew _).non (F2.out.non (F3.out.non (F4.out.non F5.out)))), HY6.out.non ((Fr.drew _).non (F2.out.non (F3.out.non (F4.out.non F5.out))))⟩) (fun hHeld => ?_)
    clear hK K
    refine wpAnyH_takeL (i := 25) 46 (v := ?_) rfl rfl (by kernel_rfl) (by kernel_rfl) (by kernel_rfl) (fun _ _ _ h => h) (by assumption) (Or.inl ⟨by rfl, ?_⟩) ?_
    rotate_left
    · intro w hSw; go_simp; (try with_reducible rfl)
    simp only [List.set_cons_zero, List.set_cons_succ]
    refine wpAnyH_takeL (i := 26) 47 (v := ?_) rfl rfl (by kernel_rfl) (by kernel_rfl) (by kernel_rfl) (fun _ _ _ h => h) (by assumption) (Or.inl ⟨by rfl, ?_⟩) ?_
    rotate_left
    · intro w hSw; go_simp; (try with_reducible rfl)
    simp only [List.set_cons_zero, List.set_cons_succ]
    refine wpAnyH_takeL (i := 27) 4 (v := ?_) rfl rfl (by kernel_rfl) (by kernel_rfl) (by kernel_rfl) (fun _ _ _ h => h) (by assumption) (Or.inl ⟨by rfl, ?_⟩) ?_
    rotate_left
    · intro w hSw; go_simp; (try with_reducible rfl)
    simp only [List.set_cons_zero, List.set_cons_succ]
    refine wpAnyH_done (by kernel_rfl) ?_ _
    go_wp2_with fail
    go_ret
    exact ⟨rfl, F6.out.non ((Fr.drew _).non (F2.out.non (F3.out.non (F4.out.non F5.out))))⟩
  · skip
    go_simp
    go_wp2_with (go_at_call 20; refine (refLay_any h _ HK.out).mono ?_; rintro e r5 ⟨v8, rfl, ho8, hf5⟩)
    rw [← HL.out] at ho8
    have HR8 := Lib.hid ho8.row
    clear ho8
    have F5 : Hid (Fr Non r4 r5) := Lib.hid hf5
    clear hf5
    refine hK.out _ _ (⟨HP6.out.non ((Fr.drew _).non (F2.out.non (F3.out.non (F4.out.non F5.out)))), HX6.out.non ((Fr.drew _).non (F2.out.non (F3.out.non (F4.out.non F5.out)))), HY6.out.non ((Fr.drew _).non (F2.out.non (F3.out.non (F4.out.non F5.out))))⟩) (fun hHeld => ?_)
    clear hK K
    refine wpAnyH_ready (rs := [21, 24]) (by kernel_rfl) (by simp) ?_
    refine AllReadyH.cons (o := ⟨some 42, _, _, _, _, _⟩) rfl (fun K hK => ?_) (AllReadyH.cons (o := ⟨some 45, _, _, _, _, _⟩) rfl (fun K hK => ?_) (AllReadyH.nil))
    · skip
      have hxs := run_str (P := Tryd.prog) r5 33 9 5 _ _ (HR9.out.non F5.out) Tryd.underlying33 Tryd.underlying5 Tryd.underlying9
      go_simp
      clear hxs
      refine hK.out _ _ (⟨HP6.out.non ((Fr.drew _).non (F2.out.non (F3.out.non (F4.out.non F5.out)))), HX6.out.non ((Fr.drew _).non (F2.out.non (F3.out.non (F4.out.non F5.out)))), HY6.out.non ((Fr.drew _).non (F2.out.non (F3.out.non (F4.out.non F5.out))))⟩) (fun hHeld => ?_)
      clear hK K
      refine wpAnyH_ready (rs := [24]) (by kernel_rfl) (by simp) ?_
      refine AllReadyH.cons (o := ⟨some 45, _, _, _, _, _⟩) rfl (fun K hK => ?_) (AllReadyH.nil)
      have hxt := run_str (P := Tryd.prog) r5 33 9 5 _ _ (HR8.out.non (Fr.refl _ _)) Tryd.underlying33 Tryd.underlying5 Tryd.underlying9
      go_simp
      clear hxt
      refine hK.out _ _ (⟨HP6.out.non ((Fr.drew _).non (F2.out.non (F3.out.non (F4.out.non F5.out)))), HX6.out.non ((Fr.drew _).non (F2.out.non (F3.out.non (F4.out.non F5.out)))), HY6.out.non ((Fr.drew _).non (F2.out.non (F3.out.non (F4.out.non F5.out))))⟩) (fun hHeld => ?_)
      clear hK K
      refine wpAnyH_takeL (i := 25) 46 (v := ?_) rfl rfl (by kernel_rfl) (by kernel_rfl) (by kernel_rfl) (fun _ _ _ h => h) (by assumption) (Or.inl ⟨by rfl, ?_⟩) ?_
      rotate_left
      · intro w hSw; go_simp; (try with_reducible rfl)
      simp only [List.set_cons_zero, List.set_cons_succ]
      refine wpAnyH_takeL (i := 26) 47 (v := ?_) rfl rfl (by kernel_rfl) (by kernel_rfl) (by kernel_rfl) (fun _ _ _ h => h) (by assumption) (Or.inl ⟨by rfl, ?_⟩) ?_
      rotate_left
      · intro w hSw; go_simp; (try with_reducible rfl)
      simp only [List.set_cons_zero, List.set_cons_succ]
      refine wpAnyH_takeL (i := 27) 4 (v := ?_) rfl rfl (by kernel_rfl) (by kernel_rfl) (by kernel_rfl) (fun _ _ _ h => h) (by assumption) (Or.inl ⟨by rfl, ?_⟩) ?_
      rotate_left
      · intro w hSw; go_simp; (try with_reducible rfl)
      simp only [List.set_cons_zero, List.set_cons_succ]
      refine wpAnyH_done (by kernel_rfl) ?_ _
      go_wp2_with fail
      go_ret
      exact ⟨rfl, F6.out.non ((Fr.drew _).non (F2.out.non (F3.out.non (F4.out.non F5.out))))⟩
    · skip
      have hxt := run_str (P := Tryd.prog) r5 33 9 5 _ _ (HR8.out.non (Fr.refl _ _)) Tryd.underlying33 Tryd.underlying5 Tryd.underlying9
      go_simp
      clear hxt
      refine hK.out _ _ (⟨HP6.out.non ((Fr.drew _).non (F2.out.non (F3.out.non (F4.out.non F5.out)))), HX6.out.non ((Fr.drew _).non (F2.out.non (F3.out.non (F4.out.non F5.out)))), HY6.out.non ((Fr.drew _).non (F2.out.non (F3.out.non (F4.out.non F5.out))))⟩) (fun hHeld => ?_)
      clear hK K
      refine wpAnyH_ready (rs := [21]) (by kernel_rfl) (by simp) ?_
      refine AllReadyH.cons (o := ⟨some 42, _, _, _, _, _⟩) rfl (fun K hK => ?_) (AllReadyH.nil)
      have hxs := run_str (P := Tryd.prog) r5 33 9 5 _ _ (HR9.out.non F5.out) Tryd.underlying33 Tryd.underlying5 Tryd.underlying9
      go_simp
      clear hxs
      refine hK.out _ _ (⟨HP6.out.non ((Fr.drew _).non (F2.out.non (F3.out.non (F4.out.non F5.out)))), HX6.out.non ((Fr.drew _).non (F2.out.non (F3.out.non (F4.out.non F5.out)))), HY6.out.non ((Fr.drew _).non (F2.out.non (F3.out.non (F4.out.non F5.out))))⟩) (fun hHeld => ?_)
      clear hK K
      refine wpAnyH_takeL (i := 25) 46 (v := ?_) rfl rfl (by kernel_rfl) (by kernel_rfl) (by kernel_rfl) (fun _ _ _ h => h) (by assumption) (Or.inl ⟨by rfl, ?_⟩) ?_
      rotate_left
      · intro w hSw; go_simp; (try with_reducible rfl)
      simp only [List.set_cons_zero, List.set_cons_succ]
      refine wpAnyH_takeL (i := 26) 47 (v := ?_) rfl rfl (by kernel_rfl) (by kernel_rfl) (by kernel_rfl) (fun _ _ _ h => h) (by assumption) (Or.inl ⟨by rfl, ?_⟩) ?_
      rotate_left
      · intro w hSw; go_simp; (try with_reducible rfl)
      simp only [List.set_cons_zero, List.set_cons_succ]
      refine wpAnyH_takeL (i := 27) 4 (v := ?_) rfl rfl (by kernel_rfl) (by kernel_rfl) (by kernel_rfl) (fun _ _ _ h => h) (by assumption) (Or.inl ⟨by rfl, ?_⟩) ?_
      rotate_left
      · intro w hSw; go_simp; (try with_reducible rfl)
      simp only [List.set_cons_zero, List.set_cons_succ]
      refine wpAnyH_done (by kernel_rfl) ?_ _
      go_wp2_with fail
      go_ret
      exact ⟨rfl, F6.out.non ((Fr.drew _).non (F2.out.non (F3.out.non (F4.out.non F5.out))))⟩
end Go.Proofs.YtpmkcjgndljhgaaDoor
