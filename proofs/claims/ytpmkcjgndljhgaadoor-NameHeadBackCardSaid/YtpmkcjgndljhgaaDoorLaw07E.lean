/- layer 7: a head leads back from its bytes -/
import Derived.Test.YtpmkcjgndljhgaaDoorLaw07D
import Derived.Deep.RegionHeld3
import Derived.Lib.SlBytesConst
namespace Go.Proofs.YtpmkcjgndljhgaaDoor
open Go.ChangeShapes Go.WideShapes Go.ChangeAt Go.RowKit

set_option maxRecDepth 100000 in
set_option maxHeartbeats 4000000 in
/-- P7.6 -/
theorem headback7_any {T : World → Prop} (C : NameC T) (W : World) (h i : Hd) (v : Value) (b : List UInt8) (hT : T W) (hk : h.ok) (hki : i.ok) (hv : Row W v (bs b)) (hbl : b.length ≤ 140737488351232) :
    Calls Tryd.prog 7 #[.agg (hdCells h).toArray, .agg (hdCells i).toArray, v] W fun e W' => e = .returned (.bool true) ∧ Fr Non W W' := by
  obtain ⟨i0, hi⟩ := info_parts Tryd.info5
  have HI := Lib.hid hi
  have HK := Lib.hid (And.intro hk hki)
  have HV := Lib.hid hv
  have HTK := Lib.hid (hdTake_lay h hk b)
  have HLL := Lib.hid (hdLay_length h)
  have HIJ := Lib.hid (fun e => hdLay_inj (h := h) (i := i) hk hki e)
  have HTT := Lib.hid hT
  clear hk hki hv hi hT
  have hzv : ∀ w, (zeroValue 32).run Tryd.prog w = .ok (.agg (hdCells Hd.zero).toArray) w := fun _ => by kernel_rfl
  have HZV := Lib.hid hzv
  have hih : (Tryd.prog.info? 32).map (·.size) = some 5 := by kernel_rfl
  have huh := Tryd.underlying32
  clear hzv
  go_enter Tryd.func7, Tryd.ntmps7
  go_upto_region 1 with (fail)
  have hb1 := Blk.new W 32 (hdCells h)
  have hf1 := Fr.alloc W (.cells (hdCells h).toArray 32)
  have hs1 : (W.alloc (.cells (hdCells h).toArray 32)).heap.size = W.heap.size + 1 := by simp
  generalize W.alloc (.cells (hdCells h).toArray 32) = w0 at hb1 hf1 hs1 ⊢
  have hb2 := Blk.new w0 32 (hdCells i)
  have hf2 := Fr.alloc w0 (.cells (hdCells i).toArray 32)
  generalize w0.alloc (.cells (hdCells i).toArray 32) = w1 at hb2 hf2 ⊢
  rw [hs1] at hb2
  obtain ⟨P, hP⟩ : ∃ P, P = W.heap.size := ⟨_, rfl⟩
  rw [← hP] at hb1 hb2 ⊢
  have HP1 := Lib.hid (hb1.non hf2)
  have HQ1 := Lib.hid hb2
  have F1 := Lib.hid (hf1.non hf2)
  have HPE := Lib.hid hP
  clear hb1 hb2 hf1 hf2 hs1 hP
  go_wp2_with fail
  refine (shown7_any C _ (C.tf HTT.out F1.out)).mono ?_
  rintro e w2 ⟨rfl, hf2⟩
  have F2 := Lib.hid (F1.out.non hf2)
  have HP2 := Lib.hid (HP1.out.non hf2)
  have HQ2 := Lib.hid (HQ1.out.non hf2)
  have hq2 : P + 1 < w2.heap.size := (HQ1.out.non hf2).lt
  clear hf2 HP1 HQ1 F1
  go_upto_region 2 with (fail)
  go_wp2_with ((with_reducible show wpList _ _ _ (({ op := .load _ _, .. } : Oper) :: _) _ _); first | (refine wpList_load_mid rfl 32 _ rfl P 0 rfl (hdCells h) _ (HP2.out.range 0 _ (fun j v hj => by simpa using hj)) huh rfl hih ?_; try simp only [Act.put, List.setIfInBounds_toArray, List.set_cons_succ, List.set_cons_zero]))
  refine (C.lay h w2 HK.out.1).mono ?_
  rintro e w3 ⟨v3, rfl, ho3, hf3⟩
  have F3 := Lib.hid (F2.out.non hf3)
  have HP3 := Lib.hid (HP2.out.non hf3)
  have HQ3 := Lib.hid (HQ2.out.non hf3)
  have HO3 := Lib.hid ho3
  have hs3 := hf3.size
  clear hf3 ho3
  go_wp2_with (at_builtin; refine wpList_appRow _ rfl (.tmp 13) (.tmp 14) 33 rfl w2.heap.size 5 i0 (.int .u8 0) 1 Tryd.underlying33 HI.out rfl _ (bs (hdLay h)) rfl HO3.out _ (bs b) rfl (HV.out.non F3.out) (bs_one _) ⟨by rw [bs_length, bs_length, HLL.out]; omega, by omega⟩ hs3 ?_)
  intro v4 w4 ho4 hf4 _
  have hno : ∀ k, OwnOf v3 k → P + 1 < k := fun k hk => by have h1 := (HO3.out.lt k hk).1; omega
  have F4 : Hid (Fr Non W w4) := Lib.hid (F3.out.new hf4 (fun k hk => by have h1 := hno k hk; have h2 := HPE.out; omega))
  have HP4 := Lib.hid (HP3.out.frame hf4 (fun hk => by have h1 := hno _ hk; omega))
  have HQ4 := Lib.hid (HQ3.out.frame hf4 (fun hk => by have h1 := hno _ hk; omega))
  rw [← bs_append] at ho4
  have HO4 := Lib.hid ho4.row
  clear hf4 ho4 hno HO3 hs3 hq2
  go_wp2_with fail
  refine (C.take v4 _ w4 HO4.out (by rw [List.length_append, HLL.out]; omega)).mono ?_
  rintro e w5 ⟨rfl, hf5⟩
  rw [HTK.out]
  have F5 := Lib.hid (F4.out.non hf5)
  have HP5 := Lib.hid (HP4.out.non hf5)
  have HQ5 := Lib.hid (HQ4.out.non hf5)
  clear hf5 HTK HO4
  obtain ⟨T, hT⟩ : ∃ T : Hd × Nat, T = (if hdRight h then (h, 0) else (Hd.zero, 70)) := ⟨_, rfl⟩
  rw [← hT]
  have HT := Lib.hid hT
  clear hT
  go_wp2_with ((with_reducible show wpList _ _ _ (({ op := .alloc _, .. } : Oper) :: _) _ _); refine wpList_var rfl rfl 32 8 (.tmp 17) rfl rfl rfl rfl _ (hdCells T.1) HZV.out rfl hih (hd_one _) (by simp) (fun _ => rfl) ?_)
  intro w6 hb6 hf6 hs6
  obtain ⟨X, hX⟩ : ∃ X, X = w5.heap.size := ⟨_, rfl⟩
  rw [← hX] at hb6 ⊢
  simp only [List.set_cons_succ, List.set_cons_zero]
  have F6 := Lib.hid (F5.out.non hf6)
  have HP6 := Lib.hid (HP5.out.non hf6)
  have HQ6 := Lib.hid (HQ5.out.non hf6)
  have HX6 := Lib.hid hb6
  clear hf6 hb6 hX hs6 HP2 HQ2 HP3 HQ3 HP4 HQ4 HP5 HQ5 F2 F3 F4 F5
  go_upto_region 3 with (fail)
  go_wp2_with ((with_reducible show wpList _ _ _ (({ op := .load _ _, .. } : Oper) :: _) _ _); first | (refine wpList_load_mid rfl 32 _ rfl P 0 rfl (hdCells h) _ (HP6.out.range 0 _ (fun j v hj => by simpa using hj)) huh rfl hih ?_; try simp only [Act.put, List.setIfInBounds_toArray, List.set_cons_succ, List.set_cons_zero]))
  refine (C.right h w6 HK.out.1).mono ?_
  rintro e w7 ⟨rfl, hf7⟩
  have F7 := Lib.hid (F6.out.non hf7)
  have HP7 := Lib.hid (HP6.out.non hf7)
  have HQ7 := Lib.hid (HQ6.out.non hf7)
  have HX7 := Lib.hid (HX6.out.non hf7)
  clear hf7 HP6 HQ6 HX6 F6
  by_cases hr : hdRight h = true
  case neg =>
    have hr0 : hdRight h = false := by simpa using hr
    have hT2 : T = (Hd.zero, 70) := by rw [HT.out, if_neg hr]
    rw [hr0, hT2]
    rw [hT2] at HX7
    dsimp only at HX7 ⊢
    clear hr HT hT2 HZV
    have hc0 := (HX7.out.at 0 _ rfl).1
    have hc1 := (HX7.out.at 1 _ rfl).1
    have hc2 := (HX7.out.at 2 _ rfl).1
    have hc3 := (HX7.out.at 3 _ rfl).1
    have hc4 := (HX7.out.at 4 _ rfl).1
    simp only [hdCells, Hd.zero]
    go_wp2_with fail
    go_ret
    exact ⟨rfl, F7.out⟩
  case pos =>
    have hT2 : T = (h, 0) := by rw [HT.out, if_pos hr]
    rw [hr, hT2]
    rw [hT2] at HX7
    dsimp only at HX7 ⊢
    have hqq : ∀ w, (binOp .eql 32 (.agg (hdCells h).toArray) (.agg (hdCells h).toArray)).run Tryd.prog w = .ok (.bool true) w := fun w => by rw [heads_eql, (hdEq_iff h h).mpr rfl]
    have hqi : ∀ w, (binOp .eql 32 (.agg (hdCells h).toArray) (.agg (hdCells i).toArray)).run Tryd.prog w = .ok (.bool (hdEq h i)) w := fun w => heads_eql h i w
    obtain ⟨D, hD⟩ : ∃ D : ByteArray, D = ⟨(hdLay h).toArray⟩ := ⟨_, rfl⟩
    obtain ⟨E, hE⟩ : ∃ E : ByteArray, E = ⟨(hdLay i).toArray⟩ := ⟨_, rfl⟩
    have hDE : (D.toList == E.toList) = hdEq h i := by
      by_cases he : h = i
      · subst he
        rw [hD, hE, (hdEq_iff h h).mpr rfl]
        simp
      · have h1 : hdEq h i = false := by
          cases hq : hdEq h i with
          | false => rfl
          | true => exact absurd ((hdEq_iff h i).mp hq) he
        rw [h1]
        refine beq_toList_ne (fun e => he (HIJ.out ?_))
        rw [hD, hE] at e
        injection e with e
        injection e
    obtain ⟨bb, hbb⟩ : ∃ bb, bb = hdEq h i := ⟨_, rfl⟩
    rw [← hbb] at hqi hDE
    have HDE := Lib.hid (And.intro hD hE)
    clear hD hE hbb hT2 HT hr HIJ HZV
    go_upto_region 5 with (fail)
    have hS0 : (fun w' : World => Blk w' P 32 (hdCells h) ∧ Blk w' (P + 1) 32 (hdCells i) ∧ Blk w' X 32 (hdCells h)) w7.drew := ⟨HP7.out.non (Fr.drew _), HQ7.out.non (Fr.drew _), HX7.out.non (Fr.drew _)⟩
    refine wp_region_held_drew (S := fun w' : World => Blk w' P 32 (hdCells h) ∧ Blk w' (P + 1) 32 (hdCells i) ∧ Blk w' X 32 (hdCells h)) (by kernel_rfl) hS0 (fun hHeld => ?_)
    refine wpAnyH_takeL (i := 0) 32 (v := ?_) rfl rfl (by kernel_rfl) (by kernel_rfl) (by kernel_rfl) (fun _ _ _ h => h) (by assumption) (Or.inl ⟨by rfl, ?_⟩) ?_
    rotate_left
    · intro w hSw; go_simp; (try with_reducible rfl)
    simp only [List.set_cons_zero, List.set_cons_succ]
    refine wpAnyH_takeL (i := 1) 33 (v := ?_) rfl rfl (by kernel_rfl) (by kernel_rfl) (by kernel_rfl) (fun _ _ _ h => h) (by assumption) (Or.inl ⟨by rfl, ?_⟩) ?_
    rotate_left
    · intro w hSw; go_simp; (try with_reducible rfl)
    simp only [List.set_cons_zero, List.set_cons_succ]
    refine wpAnyH_takeL (i := 2) 34 (v := ?_) rfl rfl (by kernel_rfl) (by kernel_rfl) (by kernel_rfl) (fun _ _ _ h => h) (by assumption) (Or.inl ⟨by rfl, ?_⟩) ?_
    rotate_left
    · intro w hSw; go_simp; (try with_reducible rfl)
    simp only [List.set_cons_zero, List.set_cons_succ]
    refine wpAnyH_takeL (i := 3) 35 (v := ?_) rfl rfl (by kernel_rfl) (by kernel_rfl) (by kernel_rfl) (fun _ _ _ h => h) (by assumption) (Or.inl ⟨by rfl, ?_⟩) ?_
    rotate_left
    · intro w hSw; go_simp; (try with_reducible rfl)
    simp only [List.set_cons_zero, List.set_cons_succ]
    refine wpAnyH_takeL (i := 4) 36 (v := ?_) rfl rfl (by kernel_rfl) (by kernel_rfl) (by kernel_rfl) (fun _ _ _ h => h) (by assumption) (Or.inl ⟨by rfl, ?_⟩) ?_
    rotate_left
    · intro w hSw; go_simp; (try with_reducible rfl)
    simp only [List.set_cons_zero, List.set_cons_succ]
    refine wpAnyH_takeL (i := 5) 37 (v := ?_) rfl rfl (by kernel_rfl) (by kernel_rfl) (by kernel_rfl) (fun _ _ _ h => h) (by assumption) (Or.inl ⟨by rfl, ?_⟩) ?_
    rotate_left
    · intro w hSw; go_simp; (try with_reducible rfl)
    simp only [List.set_cons_zero, List.set_cons_succ]
    refine wpAnyH_takeL (i := 6) 38 (v := .agg (hdCells h).toArray) rfl rfl (by kernel_rfl) (by kernel_rfl) (by kernel_rfl) (fun _ _ _ h => h) (by assumption) (yieldsIf_load_mid (by rfl) _ _ rfl X (0) rfl (hdCells h) _ (fun w h => h.2.2.range 0 _ (fun j v hj => by simpa using hj)) huh rfl hih) ?_
    simp only [List.set_cons_zero, List.set_cons_succ]
    refine wpAnyH_takeL (i := 7) 39 (v := .agg (hdCells h).toArray) rfl rfl (by kernel_rfl) (by kernel_rfl) (by kernel_rfl) (fun _ _ _ h => h) (by assumption) (yieldsIf_load_mid (by rfl) _ _ rfl P (0) rfl (hdCells h) _ (fun w h => h.1.range 0 _ (fun j v hj => by simpa using hj)) huh rfl hih) ?_
    simp only [List.set_cons_zero, List.set_cons_succ]
    refine wpAnyH_takeL (i := 8) 40 (v := ?_) rfl rfl (by kernel_rfl) (by kernel_rfl) (by kernel_rfl) (fun _ _ _ h => h) (by assumption) (Or.inl ⟨by rfl, ?_⟩) ?_
    rotate_left
    · intro w hSw; go_simp; (try with_reducible rfl)
    simp only [List.set_cons_zero, List.set_cons_succ]
    refine wpAnyH_takeL (i := 9) 41 (v := ?_) rfl rfl (by kernel_rfl) (by kernel_rfl) (by kernel_rfl) (fun _ _ _ h => h) (by assumption) (Or.inl ⟨by rfl, ?_⟩) ?_
    rotate_left
    · intro w hSw; go_simp; (try with_reducible rfl)
    simp only [List.set_cons_zero, List.set_cons_succ]
    refine wpAnyH_takeL (i := 10) 42 (v := ?_) rfl rfl (by kernel_rfl) (by kernel_rfl) (by kernel_rfl) (fun _ _ _ h => h) (by assumption) (Or.inl ⟨by rfl, ?_⟩) ?_
    rotate_left
    · intro w hSw; go_simp; (try with_reducible rfl)
    simp only [List.set_cons_zero, List.set_cons_succ]
    refine wpAnyH_takeL (i := 11) 43 (v := .agg (hdCells h).toArray) rfl rfl (by kernel_rfl) (by kernel_rfl) (by kernel_rfl) (fun _ _ _ h => h) (by assumption) (yieldsIf_load_mid (by rfl) _ _ rfl P (0) rfl (hdCells h) _ (fun w h => h.1.range 0 _ (fun j v hj => by simpa using hj)) huh rfl hih) ?_
    simp only [List.set_cons_zero, List.set_cons_succ]
    refine wpAnyH_takeL (i := 14) 46 (v := .agg (hdCells i).toArray) rfl rfl (by kernel_rfl) (by kernel_rfl) (by kernel_rfl) (fun _ _ _ h => h) (by assumption) (yieldsIf_load_mid (by rfl) _ _ rfl (P + 1) (0) rfl (hdCells i) _ (fun w h => h.2.1.range 0 _ (fun j v hj => by simpa using hj)) huh rfl hih) ?_
    simp only [List.set_cons_zero, List.set_cons_succ]
    refine wpAnyH_takeL (i := 18) 50 (v := .agg (hdCells h).toArray) rfl rfl (by kernel_rfl) (by kernel_rfl) (by kernel_rfl) (fun _ _ _ h => h) (by assumption) (yieldsIf_load_mid (by rfl) _ _ rfl P (0) rfl (hdCells h) _ (fun w h => h.1.range 0 _ (fun j v hj => by simpa using hj)) huh rfl hih) ?_
    simp only [List.set_cons_zero, List.set_cons_succ]
    refine wpAnyH_takeL (i := 19) 51 (v := .agg (hdCells i).toArray) rfl rfl (by kernel_rfl) (by kernel_rfl) (by kernel_rfl) (fun _ _ _ h => h) (by assumption) (yieldsIf_load_mid (by rfl) _ _ rfl (P + 1) (0) rfl (hdCells i) _ (fun w h => h.2.1.range 0 _ (fun j v hj => by simpa using hj)) huh rfl hih) ?_
    simp only [List.set_cons_zero, List.set_cons_succ]
    refine wpAnyH_takeL (i := 20) 52 (v := ?_) rfl rfl (by kernel_rfl) (by kernel_rfl) (by kernel_rfl) (fun _ _ _ h => h) (by assumption) (Or.inl ⟨by rfl, ?_⟩) ?_
    rotate_left
    · intro w hSw; go_simp; (try with_reducible rfl)
    simp only [List.set_cons_zero, List.set_cons_succ]
    refine wpAnyH_ready (rs := [12]) (by kernel_rfl) (by simp) ?_
    refine AllReadyH.cons (o := ⟨some 44, _, _, _, _, _⟩) rfl (fun K hK => ?_) (AllReadyH.nil)
    go_simp
    go_wp2_with (go_at_call 19; refine (C.lay h _ HK.out.1).mono ?_; rintro e r2 ⟨v9, rfl, ho9, hf2⟩)
    have HR9 := Lib.hid ho9.row
    clear ho9
    have F2 : Hid (Fr Non w7.drew r2) := Lib.hid hf2
    clear hf2
    refine hK.out _ _ (⟨HP7.out.non ((Fr.drew _).non F2.out), HQ7.out.non ((Fr.drew _).non F2.out), HX7.out.non ((Fr.drew _).non F2.out)⟩) (fun hHeld => ?_)
    clear hK K
    refine wpAnyH_ready (rs := [13, 15]) (by kernel_rfl) (by simp) ?_
    refine AllReadyH.cons (o := ⟨some 45, _, _, _, _, _⟩) rfl (fun K hK => ?_) (AllReadyH.cons (o := ⟨some 47, _, _, _, _, _⟩) rfl (fun K hK => ?_) (AllReadyH.nil))
    · skip
      have hxs := run_str (P := Tryd.prog) r2 33 9 5 _ _ (HR9.out.non (Fr.refl _ _)) Tryd.underlying33 Tryd.underlying5 Tryd.underlying9
      rw [← HDE.out.1] at hxs
      go_simp
      clear hxs
      refine hK.out _ _ (⟨HP7.out.non ((Fr.drew _).non F2.out), HQ7.out.non ((Fr.drew _).non F2.out), HX7.out.non ((Fr.drew _).non F2.out)⟩) (fun hHeld => ?_)
      clear hK K
      refine wpAnyH_ready (rs := [15]) (by kernel_rfl) (by simp) ?_
      refine AllReadyH.cons (o := ⟨some 47, _, _, _, _, _⟩) rfl (fun K hK => ?_) (AllReadyH.nil)
      go_simp
      go_wp2_with (go_at_call 19; refine (C.lay i _ HK.out.2).mono ?_; rintro e r3 ⟨v8, rfl, ho8, hf3⟩)
      have HR8 := Lib.hid ho8.row
      clear ho8
      have F3 : Hid (Fr Non r2 r3) := Lib.hid hf3
      clear hf3
      refine hK.out _ _ (⟨HP7.out.non ((Fr.drew _).non (F2.out.non F3.out)), HQ7.out.non ((Fr.drew _).non (F2.out.non F3.out)), HX7.out.non ((Fr.drew _).non (F2.out.non F3.out))⟩) (fun hHeld => ?_)
      clear hK K
      refine wpAnyH_ready (rs := [16]) (by kernel_rfl) (by simp) ?_
      refine AllReadyH.cons (o := ⟨some 48, _, _, _, _, _⟩) rfl (fun K hK => ?_) (AllReadyH.nil)
      have hxt := run_str (P := Tryd.prog) r3 33 9 5 _ _ (HR8.out.non (Fr.refl _ _)) Tryd.underlying33 Tryd.underlying5 Tryd.underlying9
      rw [← HDE.out.2] at hxt
      go_simp
      clear hxt
      refine hK.out _ _ (⟨HP7.out.non ((Fr.drew _).non (F2.out.non F3.out)), HQ7.out.non ((Fr.drew _).non (F2.out.non F3.out)), HX7.out.non ((Fr.drew _).non (F2.out.non F3.out))⟩) (fun hHeld => ?_)
      clear hK K
      refine wpAnyH_takeL (i := 17) 49 (v := ?_) rfl rfl (by kernel_rfl) (by kernel_rfl) (by kernel_rfl) (fun _ _ _ h => h) (by assumption) (Or.inl ⟨by rfl, ?_⟩) ?_
      rotate_left
      · intro w hSw; go_simp; (try with_reducible rfl)
      simp only [List.set_cons_zero, List.set_cons_succ]
      refine wpAnyH_takeL (i := 21) 53 (v := ?_) rfl rfl (by kernel_rfl) (by kernel_rfl) (by kernel_rfl) (fun _ _ _ h => h) (by assumption) (Or.inl ⟨by rfl, ?_⟩) ?_
      rotate_left
      · intro w hSw; go_simp; (try with_reducible rfl)
      simp only [List.set_cons_zero, List.set_cons_succ]
      refine wpAnyH_takeL (i := 22) 54 (v := ?_) rfl rfl (by kernel_rfl) (by kernel_rfl) (by kernel_rfl) (fun _ _ _ h => h) (by assumption) (Or.inl ⟨by rfl, ?_⟩) ?_
      rotate_left
      · intro w hSw; go_simp; (try with_reducible rfl)
      simp only [List.set_cons_zero, List.set_cons_succ]
      refine wpAnyH_takeL (i := 23) 6 (v := ?_) rfl rfl (by kernel_rfl) (by kernel_rfl) (by kernel_rfl) (fun _ _ _ h => h) (by assumption) (Or.inl ⟨by rfl, ?_⟩) ?_
      rotate_left
      · intro w hSw; go_simp; (try with_reducible rfl)
      simp only [List.set_cons_zero, List.set_cons_succ]
      refine wpAnyH_done (by kernel_rfl) ?_ _
      go_wp2_with fail
      go_ret
      exact ⟨rfl, F7.out.non ((Fr.drew _).non (F2.out.non F3.out))⟩
    · skip
      go_simp
      go_wp2_with (go_at_call 19; refine (C.lay i _ HK.out.2).mono ?_; rintro e r3 ⟨v8, rfl, ho8, hf3⟩)
      have HR8 := Lib.hid ho8.row
      clear ho8
      have F3 : Hid (Fr Non r2 r3) := Lib.hid hf3
      clear hf3
      refine hK.out _ _ (⟨HP7.out.non ((Fr.drew _).non (F2.out.non F3.out)), HQ7.out.non ((Fr.drew _).non (F2.out.non F3.out)), HX7.out.non ((Fr.drew _).non (F2.out.non F3.out))⟩) (fun hHeld => ?_)
      clear hK K
      refine wpAnyH_ready (rs := [13, 16]) (by kernel_rfl) (by simp) ?_
      refine AllReadyH.cons (o := ⟨some 45, _, _, _, _, _⟩) rfl (fun K hK => ?_) (AllReadyH.cons (o := ⟨some 48, _, _, _, _, _⟩) rfl (fun K hK => ?_) (AllReadyH.nil))
      · skip
        have hxs := run_str (P := Tryd.prog) r3 33 9 5 _ _ (HR9.out.non F3.out) Tryd.underlying33 Tryd.underlying5 Tryd.underlying9
        rw [← HDE.out.1] at hxs
        go_simp
        clear hxs
        refine hK.out _ _ (⟨HP7.out.non ((Fr.drew _).non (F2.out.non F3.out)), HQ7.out.non ((Fr.drew _).non (F2.out.non F3.out)), HX7.out.non ((Fr.drew _).non (F2.out.non F3.out))⟩) (fun hHeld => ?_)
        clear hK K
        refine wpAnyH_ready (rs := [16]) (by kernel_rfl) (by simp) ?_
        refine AllReadyH.cons (o := ⟨some 48, _, _, _, _, _⟩) rfl (fun K hK => ?_) (AllReadyH.nil)
        have hxt := run_str (P := Tryd.prog) r3 33 9 5 _ _ (HR8.out.non (Fr.refl _ _)) Tryd.underlying33 Tryd.underlying5 Tryd.underlying9
        rw [← HDE.out.2] at hxt
        go_simp
        clear hxt
        refine hK.out _ _ (⟨HP7.out.non ((Fr.drew _).non (F2.out.non F3.out)), HQ7.out.non ((Fr.drew _).non (F2.out.non F3.out)), HX7.out.non ((Fr.drew _).non (F2.out.non F3.out))⟩) (fun hHeld => ?_)
        clear hK K
        refine wpAnyH_takeL (i := 17) 49 (v := ?_) rfl rfl (by kernel_rfl) (by kernel_rfl) (by kernel_rfl) (fun _ _ _ h => h) (by assumption) (Or.inl ⟨by rfl, ?_⟩) ?_
        rotate_left
        · intro w hSw; go_simp; (try with_reducible rfl)
        simp only [List.set_cons_zero, List.set_cons_succ]
        refine wpAnyH_takeL (i := 21) 53 (v := ?_) rfl rfl (by kernel_rfl) (by kernel_rfl) (by kernel_rfl) (fun _ _ _ h => h) (by assumption) (Or.inl ⟨by rfl, ?_⟩) ?_
        rotate_left
        · intro w hSw; go_simp; (try with_reducible rfl)
        simp only [List.set_cons_zero, List.set_cons_succ]
        refine wpAnyH_takeL (i := 22) 54 (v := ?_) rfl rfl (by kernel_rfl) (by kernel_rfl) (by kernel_rfl) (fun _ _ _ h => h) (by assumption) (Or.inl ⟨by rfl, ?_⟩) ?_
        rotate_left
        · intro w hSw; go_simp; (try with_reducible rfl)
        simp only [List.set_cons_zero, List.set_cons_succ]
        refine wpAnyH_takeL (i := 23) 6 (v := ?_) rfl rfl (by kernel_rfl) (by kernel_rfl) (by kernel_rfl) (fun _ _ _ h => h) (by assumption) (Or.inl ⟨by rfl, ?_⟩) ?_
        rotate_left
        · intro w hSw; go_simp; (try with_reducible rfl)
        simp only [List.set_cons_zero, List.set_cons_succ]
        refine wpAnyH_done (by kernel_rfl) ?_ _
        go_wp2_with fail
        go_ret
        exact ⟨rfl, F7.out.non ((Fr.drew _).non (F2.out.non F3.out))⟩
      · skip
        have hxt := run_str (P := Tryd.prog) r3 33 9 5 _ _ (HR8.out.non (Fr.refl _ _)) Tryd.underlying33 Tryd.underlying5 Tryd.underlying9
        rw [← HDE.out.2] at hxt
        go_simp
        clear hxt
        refine hK.out _ _ (⟨HP7.out.non ((Fr.drew _).non (F2.out.non F3.out)), HQ7.out.non ((Fr.drew _).non (F2.out.non F3.out)), HX7.out.non ((Fr.drew _).non (F2.out.non F3.out))⟩) (fun hHeld => ?_)
        clear hK K
        refine wpAnyH_ready (rs := [13]) (by kernel_rfl) (by simp) ?_
        refine AllReadyH.cons (o := ⟨some 45, _, _, _, _, _⟩) rfl (fun K hK => ?_) (AllReadyH.nil)
        have hxs := run_str (P := Tryd.prog) r3 33 9 5 _ _ (HR9.out.non F3.out) Tryd.underlying33 Tryd.underlying5 Tryd.underlying9
        rw [← HDE.out.1] at hxs
        go_simp
        clear hxs
        refine hK.out _ _ (⟨HP7.out.non ((Fr.drew _).non (F2.out.non F3.out)), HQ7.out.non ((Fr.drew _).non (F2.out.non F3.out)), HX7.out.non ((Fr.drew _).non (F2.out.non F3.out))⟩) (fun hHeld => ?_)
        clear hK K
        refine wpAnyH_takeL (i := 17) 49 (v := ?_) rfl rfl (by kernel_rfl) (by kernel_rfl) (by kernel_rfl) (fun _ _ _ h => h) (by assumption) (Or.inl ⟨by rfl, ?_⟩) ?_
        rotate_left
        · intro w hSw; go_simp; (try with_reducible rfl)
        simp only [List.set_cons_zero, List.set_cons_succ]
        refine wpAnyH_takeL (i := 21) 53 (v := ?_) rfl rfl (by kernel_rfl) (by kernel_rfl) (by kernel_rfl) (fun _ _ _ h => h) (by assumption) (Or.inl ⟨by rfl, ?_⟩) ?_
        rotate_left
        · intro w hSw; go_simp; (try with_reducible rfl)
        simp only [List.set_cons_zero, List.set_cons_succ]
        refine wpAnyH_takeL (i := 22) 54 (v := ?_) rfl rfl (by kernel_rfl) (by kernel_rfl) (by kernel_rfl) (fun _ _ _ h => h) (by assumption) (Or.inl ⟨by rfl, ?_⟩) ?_
        rotate_left
        · intro w hSw; go_simp; (try with_reducible rfl)
        simp only [List.set_cons_zero, List.set_cons_succ]
        refine wpAnyH_takeL (i := 23) 6 (v := ?_) rfl rfl (by kernel_rfl) (by kernel_rfl) (by kernel_rfl) (fun _ _ _ h => h) (by assumption) (Or.inl ⟨by rfl, ?_⟩) ?_
        rotate_left
        · intro w hSw; go_simp; (try with_reducible rfl)
        simp only [List.set_cons_zero, List.set_cons_succ]
        refine wpAnyH_done (by kernel_rfl) ?_ _
        go_wp2_with fail
        go_ret
        exact ⟨rfl, F7.out.non ((Fr.drew _).non (F2.out.non F3.out))⟩
end Go.Proofs.YtpmkcjgndljhgaaDoor
