/- layer 8: an inner key leads back -/
import Derived.Test.YteokfgdennjjiaaLaw08A
import Derived.Test.YteokfgdennjjiaaEntEq
import Derived.Deep.RegionHeld3
import Derived.Deep.CutBlock
import Derived.Deep.DeepCutAuto
import Derived.Lib.SlBytesConst
namespace Go.Proofs.Yteokfgdennjjiaa
open Go.ChangeShapes Go.WideShapes Go.ChangeAt Go.RowKit

theorem entLay_val (u : ByteArray) (s k : Nat) (v v' : ByteArray) : entLay ⟨u, s, k, v⟩ = entLay ⟨u, s, k, v'⟩ := rfl
theorem entCmp_val (u : ByteArray) (s k : Nat) (v v' : ByteArray) (b : Ent) : entCmp ⟨u, s, k, v⟩ b = entCmp ⟨u, s, k, v'⟩ b := rfl
set_option maxRecDepth 100000 in
set_option maxHeartbeats 4000000 in
/-- P8.6 -/
theorem back8_any (C : IkeyC) (W : World) (a b : Ent) (ha : a.ok) (hb : b.ok) : Calls Try.prog 8 #[.agg (entCells a).toArray, .agg (entCells b).toArray] W fun e W' => e = .returned (.bool true) ∧ Fr Non W W' := by
  have HA := Lib.hid ha
  have HB := Lib.hid hb
  have hzv : ∀ w, (zeroValue 24).run Try.prog w = .ok (.agg (entCells Ent.zero).toArray) w := fun _ => by kernel_rfl
  have HZV := Lib.hid hzv
  have hie : (Try.prog.info? 24).map (·.size) = some 4 := by kernel_rfl
  have hue := Try.underlying24
  have hls : (entLay a).size ≤ 140737488355328 := by rw [entLay_size]; have := ha.2.2.1; omega
  clear ha hb hzv
  go_enter Try.func8, Try.ntmps8
  go_upto_region 1 with (fail)
  have hb1 := Blk.new W 24 (entCells a)
  have hf1 := Fr.alloc W (.cells (entCells a).toArray 24)
  have hs1 : (W.alloc (.cells (entCells a).toArray 24)).heap.size = W.heap.size + 1 := by simp
  generalize W.alloc (.cells (entCells a).toArray 24) = w0 at hb1 hf1 hs1 ⊢
  have hb2 := Blk.new w0 24 (entCells b)
  have hf2 := Fr.alloc w0 (.cells (entCells b).toArray 24)
  generalize w0.alloc (.cells (entCells b).toArray 24) = w1 at hb2 hf2 ⊢
  rw [hs1] at hb2
  obtain ⟨P, hP⟩ : ∃ P, P = W.heap.size := ⟨_, rfl⟩
  rw [← hP] at hb1 hb2 ⊢
  have HPE := Lib.hid hP
  have HP1 := Lib.hid (hb1.non hf2)
  have HQ1 := Lib.hid hb2
  have F1 := Lib.hid (hf1.non hf2)
  clear hb1 hb2 hf1 hf2 hs1 hP
  go_wp2_with fail
  refine (shown8_any C w1).mono ?_
  rintro e w2 ⟨rfl, hf2⟩
  have F2 := Lib.hid (F1.out.non hf2)
  have HP2 := Lib.hid (HP1.out.non hf2)
  have HQ2 := Lib.hid (HQ1.out.non hf2)
  obtain ⟨c0, c1, c2, c3⟩ := entCells_at HP2.out
  clear hf2 F1 HP1 HQ1
  go_wp2_with fail
  refine (C.lay a w2 HA.out).mono ?_
  rintro e w3 ⟨rfl, hf3⟩
  obtain ⟨D, hD⟩ : ∃ D, D = entLay a := ⟨_, rfl⟩
  rw [← hD] at hls ⊢
  have HD := Lib.hid hD
  have F3 := Lib.hid (F2.out.non hf3)
  have HP3 := Lib.hid (HP2.out.non hf3)
  have HQ3 := Lib.hid (HQ2.out.non hf3)
  clear hf3 F2 HP2 HQ2 hD c0 c1 c2 c3
  go_wp2_with fail
  refine (C.take D w3 hls).mono ?_
  rintro e w4 ⟨rfl, hf4⟩
  obtain ⟨T, hT⟩ : ∃ T, T = entTake D := ⟨_, rfl⟩
  rw [← hT]
  have HT := Lib.hid hT
  have F4 := Lib.hid (F3.out.non hf4)
  have HP4 := Lib.hid (HP3.out.non hf4)
  have HQ4 := Lib.hid (HQ3.out.non hf4)
  clear hf4 F3 HP3 HQ3 hT hls
  go_wp2_with ((with_reducible show wpList _ _ _ (({ op := .alloc _, .. } : Oper) :: _) _ _); refine wpList_var rfl rfl 24 6 (.tmp 13) rfl rfl rfl rfl _ (entCells T.1) HZV.out rfl hie (ent_one _) (by simp) (fun _ => rfl) ?_)
  intro w5 hb5 hf5 _
  obtain ⟨X, hX⟩ : ∃ X, X = w4.heap.size := ⟨_, rfl⟩
  have hPX : P + 1 < X := by rw [hX]; exact HQ4.out.lt
  rw [← hX] at hb5 ⊢
  simp only [List.set_cons_succ, List.set_cons_zero]
  have F5 := Lib.hid (F4.out.non hf5)
  have HP5 := Lib.hid (HP4.out.non hf5)
  have HQ5 := Lib.hid (HQ4.out.non hf5)
  have HX5 := Lib.hid hb5
  clear hb5 hf5 hX F4 HP4 HQ4
  obtain ⟨c0, c1, c2, c3⟩ := entCells_at HP5.out
  go_upto_region 3 with (fail)
  go_wp2_with fail
  refine (C.right a w5 HA.out).mono ?_
  rintro e w6 ⟨rfl, hf6⟩
  have F6 := Lib.hid (F5.out.non hf6)
  have HP6 := Lib.hid (HP5.out.non hf6)
  have HQ6 := Lib.hid (HQ5.out.non hf6)
  have HX6 := Lib.hid (HX5.out.non hf6)
  clear hf6 F5 HP5 HQ5 HX5 c0 c1 c2 c3
  by_cases hra : entRight a = true
  case neg =>
    have hr0 : entRight a = false := by simpa using hra
    rw [hr0]
    clear hra hr0
    rcases entTake_err D with h | h
    · rw [← HT.out] at h
      rw [h]
      clear h HT
      go_wp2_with fail
      go_ret
      exact ⟨rfl, F6.out⟩
    · rw [← HT.out] at h
      rw [h] at HX6 ⊢
      dsimp only at HX6 ⊢
      clear h HT
      have x0 := (HX6.out.at 0 _ rfl).1
      have x1 := (HX6.out.at 1 _ rfl).1
      have x2 := (HX6.out.at 2 _ rfl).1
      have x3 := (HX6.out.at 3 _ rfl).1
      simp only [Ent.zero] at x0 x1 x2 x3
      simp only [entCells, Ent.zero]
      go_wp2_with fail
      go_ret
      exact ⟨rfl, F6.out⟩
  case pos =>
  rw [hra]
  obtain ⟨d0, d1, d2, d3⟩ := entCells_at HQ6.out
  go_wp2_with fail
  refine (C.right b w6 HB.out).mono ?_
  rintro e w7 ⟨rfl, hf7⟩
  have F7 := Lib.hid (F6.out.non hf7)
  have HP7 := Lib.hid (HP6.out.non hf7)
  have HQ7 := Lib.hid (HQ6.out.non hf7)
  have HX7 := Lib.hid (HX6.out.non hf7)
  clear hf7 F6 HP6 HQ6 HX6 d0 d1 d2 d3
  by_cases hrb : entRight b = true
  case neg =>
    have hr0 : entRight b = false := by simpa using hrb
    rw [hr0]
    clear hrb hr0
    rcases entTake_err D with h | h
    · rw [← HT.out] at h
      rw [h]
      clear h HT
      go_wp2_with fail
      go_ret
      exact ⟨rfl, F7.out⟩
    · rw [← HT.out] at h
      rw [h] at HX7 ⊢
      dsimp only at HX7 ⊢
      clear h HT
      have x0 := (HX7.out.at 0 _ rfl).1
      have x1 := (HX7.out.at 1 _ rfl).1
      have x2 := (HX7.out.at 2 _ rfl).1
      have x3 := (HX7.out.at 3 _ rfl).1
      simp only [Ent.zero] at x0 x1 x2 x3
      simp only [entCells, Ent.zero]
      go_wp2_with fail
      go_ret
      exact ⟨rfl, F7.out⟩
  case pos =>
  rw [hrb]
  have hTT : T = (⟨a.user, a.seq, a.kind, ⟨#[]⟩⟩, 0) := by rw [HT.out, HD.out]; exact entTake_lay hra
  obtain ⟨bb, hbb⟩ : ∃ bb, bb = decide (entCmp a b = 0) := ⟨_, rfl⟩
  have hz : (entCmp a b == 0) = bb := by rw [hbb]; cases h : decide (entCmp a b = 0) <;> simp_all
  obtain ⟨E, hE⟩ : ∃ E, E = entLay b := ⟨_, rfl⟩
  have hDE : (D.toList == E.toList) = bb := by
    have h := entLay_once hra hrb
    rw [← HD.out, ← hE] at h
    rw [hbb]
    by_cases h0 : entCmp a b = 0
    · rw [h.mpr h0]; simp [h0]
    · rw [beq_toList_ne' (fun e => h0 (h.mp e))]; simp [h0]
  obtain ⟨u, s, k, v⟩ := a
  dsimp only at hTT
  rw [hTT] at HX7 ⊢
  dsimp only at HX7 ⊢
  have HA0 : Hid (Ent.ok ⟨u, s, k, ⟨#[]⟩⟩) := Lib.hid ⟨HA.out.1, HA.out.2.1, HA.out.2.2.1, by show (0 : Nat) ≤ _; omega⟩
  have HDE : Hid (entLay ⟨u, s, k, ⟨#[]⟩⟩ = D ∧ entLay b = E) := Lib.hid ⟨HD.out.symm, hE.symm⟩
  obtain ⟨z, hzz⟩ : ∃ z, z = entCmp ⟨u, s, k, v⟩ b := ⟨_, rfl⟩
  rw [← hzz] at hz
  have HZ : Hid (entCmp ⟨u, s, k, ⟨#[]⟩⟩ b = z) := Lib.hid hzz.symm
  clear hTT HT HD hra hrb hE hzz hbb HA HZV
  obtain ⟨c3, c3f⟩ := HP7.out.at 3 _ rfl
  go_upto_region 6 with (fail)
  have hbs := HP7.out.set 3 (.string ⟨#[]⟩)
  have hfs : Fr (One P) w7 (w7.setCell ⟨P, 3, none⟩ (.string ⟨#[]⟩)) := Fr.setCell w7 ⟨P, 3, none⟩ _
  generalize w7.setCell ⟨P, 3, none⟩ (.string ⟨#[]⟩) = w8 at hbs hfs ⊢
  have HP8 : Hid (Blk w8 P 24 (entCells ⟨u, s, k, ⟨#[]⟩⟩)) := Lib.hid hbs
  have HQ8 := Lib.hid (HQ7.out.frame hfs (fun h => by have h1 : P + 1 = P := h; omega))
  have HX8 := Lib.hid (HX7.out.frame hfs (fun h => by have h1 : X = P := h; omega))
  have F8 := Lib.hid (F7.out.new hfs (fun i h => by have h1 : i = P := h; have := HPE.out; omega))
  clear hbs hfs c3 c3f HP7 HQ7 HX7 F7
  obtain ⟨M, hM⟩ : ∃ M : Ent, M = ⟨u, s, k, ⟨#[]⟩⟩ := ⟨_, rfl⟩
  rw [← hM] at HP8 HX8 HA0 HDE HZ ⊢
  have hqq : ∀ w, (binOp .eql 24 (.agg (entCells M).toArray) (.agg (entCells M).toArray)).run Try.prog w = .ok (.bool true) w := fun w => by rw [ents_eql, (entEq_iff M M).mpr rfl]
  clear hM
  have hS0 : (fun w' : World => Blk w' P 24 (entCells M) ∧ Blk w' (P + 1) 24 (entCells b) ∧ Blk w' X 24 (entCells M)) w8.drew := ⟨HP8.out.non (Fr.drew _), HQ8.out.non (Fr.drew _), HX8.out.non (Fr.drew _)⟩
  refine wp_region_held_drew (S := fun w' : World => Blk w' P 24 (entCells M) ∧ Blk w' (P + 1) 24 (entCells b) ∧ Blk w' X 24 (entCells M)) (by kernel_rfl) hS0 (fun hHeld => ?_)
  refine wpAnyH_takeL (i := 0) 34 (v := ?_) rfl rfl (by kernel_rfl) (by kernel_rfl) (by kernel_rfl) (fun _ _ _ h => h) (by assumption) (Or.inl ⟨by rfl, ?_⟩) ?_
  rotate_left
  · intro w hSw; go_simp; (try with_reducible rfl)
  simp only [List.set_cons_zero, List.set_cons_succ]
  refine wpAnyH_takeL (i := 1) 35 (v := ?_) rfl rfl (by kernel_rfl) (by kernel_rfl) (by kernel_rfl) (fun _ _ _ h => h) (by assumption) (Or.inl ⟨by rfl, ?_⟩) ?_
  rotate_left
  · intro w hSw; go_simp; (try with_reducible rfl)
  simp only [List.set_cons_zero, List.set_cons_succ]
  refine wpAnyH_takeL (i := 2) 36 (v := ?_) rfl rfl (by kernel_rfl) (by kernel_rfl) (by kernel_rfl) (fun _ _ _ h => h) (by assumption) (Or.inl ⟨by rfl, ?_⟩) ?_
  rotate_left
  · intro w hSw; go_simp; (try with_reducible rfl)
  simp only [List.set_cons_zero, List.set_cons_succ]
  refine wpAnyH_takeL (i := 3) 37 (v := ?_) rfl rfl (by kernel_rfl) (by kernel_rfl) (by kernel_rfl) (fun _ _ _ h => h) (by assumption) (Or.inl ⟨by rfl, ?_⟩) ?_
  rotate_left
  · intro w hSw; go_simp; (try with_reducible rfl)
  simp only [List.set_cons_zero, List.set_cons_succ]
  refine wpAnyH_takeL (i := 4) 38 (v := ?_) rfl rfl (by kernel_rfl) (by kernel_rfl) (by kernel_rfl) (fun _ _ _ h => h) (by assumption) (Or.inl ⟨by rfl, ?_⟩) ?_
  rotate_left
  · intro w hSw; go_simp; (try with_reducible rfl)
  simp only [List.set_cons_zero, List.set_cons_succ]
  refine wpAnyH_takeL (i := 5) 39 (v := ?_) rfl rfl (by kernel_rfl) (by kernel_rfl) (by kernel_rfl) (fun _ _ _ h => h) (by assumption) (Or.inl ⟨by rfl, ?_⟩) ?_
  rotate_left
  · intro w hSw; go_simp; (try with_reducible rfl)
  simp only [List.set_cons_zero, List.set_cons_succ]
  refine wpAnyH_takeL (i := 6) 40 (v := .agg (entCells M).toArray) rfl rfl (by kernel_rfl) (by kernel_rfl) (by kernel_rfl) (fun _ _ _ h => h) (by assumption) (yieldsIf_load_mid (by rfl) _ _ rfl X (0) rfl (entCells M) _ (fun w h => h.2.2.range 0 _ (fun j v hj => by simpa using hj)) hue rfl hie) ?_
  simp only [List.set_cons_zero, List.set_cons_succ]
  refine wpAnyH_takeL (i := 7) 41 (v := .agg (entCells M).toArray) rfl rfl (by kernel_rfl) (by kernel_rfl) (by kernel_rfl) (fun _ _ _ h => h) (by assumption) (yieldsIf_load_mid (by rfl) _ _ rfl P (0) rfl (entCells M) _ (fun w h => h.1.range 0 _ (fun j v hj => by simpa using hj)) hue rfl hie) ?_
  simp only [List.set_cons_zero, List.set_cons_succ]
  refine wpAnyH_takeL (i := 8) 42 (v := ?_) rfl rfl (by kernel_rfl) (by kernel_rfl) (by kernel_rfl) (fun _ _ _ h => h) (by assumption) (Or.inl ⟨by rfl, ?_⟩) ?_
  rotate_left
  · intro w hSw; go_simp; (try with_reducible rfl)
  simp only [List.set_cons_zero, List.set_cons_succ]
  refine wpAnyH_takeL (i := 9) 43 (v := ?_) rfl rfl (by kernel_rfl) (by kernel_rfl) (by kernel_rfl) (fun _ _ _ h => h) (by assumption) (Or.inl ⟨by rfl, ?_⟩) ?_
  rotate_left
  · intro w hSw; go_simp; (try with_reducible rfl)
  simp only [List.set_cons_zero, List.set_cons_succ]
  refine wpAnyH_takeL (i := 10) 44 (v := ?_) rfl rfl (by kernel_rfl) (by kernel_rfl) (by kernel_rfl) (fun _ _ _ h => h) (by assumption) (Or.inl ⟨by rfl, ?_⟩) ?_
  rotate_left
  · intro w hSw; go_simp; (try with_reducible rfl)
  simp only [List.set_cons_zero, List.set_cons_succ]
  refine wpAnyH_takeL (i := 11) 45 (v := .agg (entCells M).toArray) rfl rfl (by kernel_rfl) (by kernel_rfl) (by kernel_rfl) (fun _ _ _ h => h) (by assumption) (yieldsIf_load_mid (by rfl) _ _ rfl P (0) rfl (entCells M) _ (fun w h => h.1.range 0 _ (fun j v hj => by simpa using hj)) hue rfl hie) ?_
  simp only [List.set_cons_zero, List.set_cons_succ]
  refine wpAnyH_takeL (i := 13) 47 (v := .agg (entCells b).toArray) rfl rfl (by kernel_rfl) (by kernel_rfl) (by kernel_rfl) (fun _ _ _ h => h) (by assumption) (yieldsIf_load_mid (by rfl) _ _ rfl (P + 1) (0) rfl (entCells b) _ (fun w h => h.2.1.range 0 _ (fun j v hj => by simpa using hj)) hue rfl hie) ?_
  simp only [List.set_cons_zero, List.set_cons_succ]
  refine wpAnyH_takeL (i := 16) 50 (v := .agg (entCells M).toArray) rfl rfl (by kernel_rfl) (by kernel_rfl) (by kernel_rfl) (fun _ _ _ h => h) (by assumption) (yieldsIf_load_mid (by rfl) _ _ rfl P (0) rfl (entCells M) _ (fun w h => h.1.range 0 _ (fun j v hj => by simpa using hj)) hue rfl hie) ?_
  simp only [List.set_cons_zero, List.set_cons_succ]
  refine wpAnyH_takeL (i := 17) 51 (v := .agg (entCells b).toArray) rfl rfl (by kernel_rfl) (by kernel_rfl) (by kernel_rfl) (fun _ _ _ h => h) (by assumption) (yieldsIf_load_mid (by rfl) _ _ rfl (P + 1) (0) rfl (entCells b) _ (fun w h => h.2.1.range 0 _ (fun j v hj => by simpa using hj)) hue rfl hie) ?_
  simp only [List.set_cons_zero, List.set_cons_succ]
  refine wpAnyH_ready (rs := [12]) (by kernel_rfl) (by simp) ?_
  refine AllReadyH.cons (o := ⟨some 46, _, _, _, _, _⟩) rfl (fun K hK => ?_) (AllReadyH.nil)
  go_simp
  go_wp2_with (go_at_call 15; refine (C.lay M _ HA0.out).mono ?_; rintro e r2 ⟨rfl, hf2⟩)
  have F2 : Hid (Fr Non w8.drew r2) := Lib.hid hf2
  clear hf2
  rw [HDE.out.1]
  refine hK.out _ _ (⟨HP8.out.non ((Fr.drew _).non F2.out), HQ8.out.non ((Fr.drew _).non F2.out), HX8.out.non ((Fr.drew _).non F2.out)⟩) (fun hHeld => ?_)
  clear hK K
  refine wpAnyH_ready (rs := [14]) (by kernel_rfl) (by simp) ?_
  refine AllReadyH.cons (o := ⟨some 48, _, _, _, _, _⟩) rfl (fun K hK => ?_) (AllReadyH.nil)
  go_simp
  go_wp2_with (go_at_call 15; refine (C.lay b _ HB.out).mono ?_; rintro e r3 ⟨rfl, hf3⟩)
  have F3 : Hid (Fr Non r2 r3) := Lib.hid hf3
  clear hf3
  rw [HDE.out.2]
  refine hK.out _ _ (⟨HP8.out.non ((Fr.drew _).non (F2.out.non F3.out)), HQ8.out.non ((Fr.drew _).non (F2.out.non F3.out)), HX8.out.non ((Fr.drew _).non (F2.out.non F3.out))⟩) (fun hHeld => ?_)
  clear hK K
  refine wpAnyH_takeL (i := 15) 49 (v := ?_) rfl rfl (by kernel_rfl) (by kernel_rfl) (by kernel_rfl) (fun _ _ _ h => h) (by assumption) (Or.inl ⟨by rfl, ?_⟩) ?_
  rotate_left
  · intro w hSw; go_simp; (try with_reducible rfl)
  simp only [List.set_cons_zero, List.set_cons_succ]
  refine wpAnyH_ready (rs := [18]) (by kernel_rfl) (by simp) ?_
  refine AllReadyH.cons (o := ⟨some 52, _, _, _, _, _⟩) rfl (fun K hK => ?_) (AllReadyH.nil)
  go_simp
  go_wp2_with (go_at_call 11; refine (C.compare M b _ HA0.out HB.out).mono ?_; rintro e r4 ⟨rfl, hf4⟩)
  have F4 : Hid (Fr Non r3 r4) := Lib.hid hf4
  clear hf4
  rw [HZ.out]
  refine hK.out _ _ (⟨HP8.out.non ((Fr.drew _).non (F2.out.non (F3.out.non F4.out))), HQ8.out.non ((Fr.drew _).non (F2.out.non (F3.out.non F4.out))), HX8.out.non ((Fr.drew _).non (F2.out.non (F3.out.non F4.out)))⟩) (fun hHeld => ?_)
  clear hK K
  refine wpAnyH_takeL (i := 19) 53 (v := ?_) rfl rfl (by kernel_rfl) (by kernel_rfl) (by kernel_rfl) (fun _ _ _ h => h) (by assumption) (Or.inl ⟨by rfl, ?_⟩) ?_
  rotate_left
  · intro w hSw; go_simp; (try with_reducible rfl)
  simp only [List.set_cons_zero, List.set_cons_succ]
  refine wpAnyH_takeL (i := 20) 54 (v := ?_) rfl rfl (by kernel_rfl) (by kernel_rfl) (by kernel_rfl) (fun _ _ _ h => h) (by assumption) (Or.inl ⟨by rfl, ?_⟩) ?_
  rotate_left
  · intro w hSw; go_simp; (try with_reducible rfl)
  simp only [List.set_cons_zero, List.set_cons_succ]
  refine wpAnyH_takeL (i := 21) 55 (v := ?_) rfl rfl (by kernel_rfl) (by kernel_rfl) (by kernel_rfl) (fun _ _ _ h => h) (by assumption) (Or.inl ⟨by rfl, ?_⟩) ?_
  rotate_left
  · intro w hSw; go_simp; (try with_reducible rfl)
  simp only [List.set_cons_zero, List.set_cons_succ]
  refine wpAnyH_takeL (i := 22) 4 (v := ?_) rfl rfl (by kernel_rfl) (by kernel_rfl) (by kernel_rfl) (fun _ _ _ h => h) (by assumption) (Or.inl ⟨by rfl, ?_⟩) ?_
  rotate_left
  · intro w hSw; go_simp; (try with_reducible rfl)
  simp only [List.set_cons_zero, List.set_cons_succ]
  refine wpAnyH_done (by kernel_rfl) ?_ _
  go_wp2_with fail
  go_ret
  exact ⟨rfl, F8.out.non ((Fr.drew _).non (F2.out.non (F3.out.non F4.out)))⟩
end Go.Proofs.Yteokfgdennjjiaa
