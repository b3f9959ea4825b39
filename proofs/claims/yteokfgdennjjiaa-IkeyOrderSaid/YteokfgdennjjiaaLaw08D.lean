/- layer 8: the order is one -/
import Derived.Test.YteokfgdennjjiaaLaw08A
import Derived.Deep.RegionHeld3
import Derived.Deep.CutBlock
import Derived.Deep.DeepCutAuto
import Derived.Lib.SlBytesConst
namespace Go.Proofs.Yteokfgdennjjiaa
open Go.ChangeShapes Go.WideShapes Go.ChangeAt Go.RowKit

theorem neg_neg_in (x : Int) (h : x = -1 ∨ x = 0 ∨ x = 1) : wrap64 x = x ∧ wrap64 (-x) = -x := by
  exact ⟨IntWalk.wrap64_in _ (by omega), IntWalk.wrap64_in _ (by omega)⟩
set_option maxRecDepth 100000 in
set_option maxHeartbeats 4000000 in
/-- P8.5 -/
theorem order8_any (C : IkeyC) (W : World) (a b c : Ent) (ha : a.ok) (hb : b.ok) (hc : c.ok) : Calls Try.prog 7 #[.agg (entCells a).toArray, .agg (entCells b).toArray, .agg (entCells c).toArray] W fun e W' => e = .returned (.bool true) ∧ Fr Non W W' := by
  have HO := Lib.hid (And.intro ha (And.intro hb hc))
  have hie : (Try.prog.info? 24).map (·.size) = some 4 := by kernel_rfl
  have hue := Try.underlying24
  clear ha hb hc
  go_enter Try.func7, Try.ntmps7
  go_upto_region 1 with (fail)
  have hb1 := Blk.new W 24 (entCells a)
  have hf1 := Fr.alloc W (.cells (entCells a).toArray 24)
  have hs1 : (W.alloc (.cells (entCells a).toArray 24)).heap.size = W.heap.size + 1 := by simp
  generalize W.alloc (.cells (entCells a).toArray 24) = w0 at hb1 hf1 hs1 ⊢
  have hb2 := Blk.new w0 24 (entCells b)
  have hf2 := Fr.alloc w0 (.cells (entCells b).toArray 24)
  have hs2 : (w0.alloc (.cells (entCells b).toArray 24)).heap.size = w0.heap.size + 1 := by simp
  generalize w0.alloc (.cells (entCells b).toArray 24) = w1 at hb2 hf2 hs2 ⊢
  have hb3 := Blk.new w1 24 (entCells c)
  have hf3 := Fr.alloc w1 (.cells (entCells c).toArray 24)
  generalize w1.alloc (.cells (entCells c).toArray 24) = w2 at hb3 hf3 ⊢
  rw [hs1] at hb2 hs2
  rw [hs2] at hb3
  obtain ⟨P, hP⟩ : ∃ P, P = W.heap.size := ⟨_, rfl⟩
  rw [← hP] at hb1 hb2 hb3 ⊢
  have HP := Lib.hid (((hb1.non hf2).non hf3).non (Fr.drew _))
  have HQ := Lib.hid ((hb2.non hf3).non (Fr.drew _))
  have HR := Lib.hid (hb3.non (Fr.drew _))
  have F0 := Lib.hid (((hf1.non hf2).non hf3).non (Fr.drew _))
  have hS0 : (fun w' : World => Blk w' P 24 (entCells a) ∧ Blk w' (P + 1) 24 (entCells b) ∧ Blk w' (P + 1 + 1) 24 (entCells c)) w2.drew := ⟨HP.out, HQ.out, HR.out⟩
  clear hb1 hb2 hb3 hf1 hf2 hf3 hs1 hs2 hP
  refine wp_region_held_drew (S := fun w' : World => Blk w' P 24 (entCells a) ∧ Blk w' (P + 1) 24 (entCells b) ∧ Blk w' (P + 1 + 1) 24 (entCells c)) (by kernel_rfl) hS0 (fun hHeld => ?_)
  generalize w2.drew = w4 at HP HQ HR F0 hS0 hHeld ⊢
  have HX : Hid (entCmp a b ≤ 0 → entCmp b c ≤ 0 → entCmp a c ≤ 0 ∧ (entCmp a c = 0 → entCmp a b = 0 ∧ entCmp b c = 0)) := Lib.hid (entCmp_order a b c)
  have HXR := Lib.hid (And.intro (entCmp_range a b) (And.intro (entCmp_range b c) (entCmp_range a c)))
  have HXZ := Lib.hid (entCmp_zero a b)
  have HXS := Lib.hid (entCmp_swap a b)
  refine wpAnyH_takeL (i := 0) 10 (v := .agg (entCells a).toArray) rfl rfl (by kernel_rfl) (by kernel_rfl) (by kernel_rfl) (fun _ _ _ h => h) (by assumption) (yieldsIf_load_mid (by rfl) _ _ rfl P (0) rfl (entCells a) _ (fun w h => h.1.range 0 _ (fun j v hj => by simpa using hj)) hue rfl hie) ?_
  simp only [List.set_cons_zero, List.set_cons_succ]
  refine wpAnyH_takeL (i := 1) 11 (v := .agg (entCells b).toArray) rfl rfl (by kernel_rfl) (by kernel_rfl) (by kernel_rfl) (fun _ _ _ h => h) (by assumption) (yieldsIf_load_mid (by rfl) _ _ rfl (P + 1) (0) rfl (entCells b) _ (fun w h => h.2.1.range 0 _ (fun j v hj => by simpa using hj)) hue rfl hie) ?_
  simp only [List.set_cons_zero, List.set_cons_succ]
  refine wpAnyH_takeL (i := 3) 13 (v := .agg (entCells b).toArray) rfl rfl (by kernel_rfl) (by kernel_rfl) (by kernel_rfl) (fun _ _ _ h => h) (by assumption) (yieldsIf_load_mid (by rfl) _ _ rfl (P + 1) (0) rfl (entCells b) _ (fun w h => h.2.1.range 0 _ (fun j v hj => by simpa using hj)) hue rfl hie) ?_
  simp only [List.set_cons_zero, List.set_cons_succ]
  refine wpAnyH_takeL (i := 4) 14 (v := .agg (entCells c).toArray) rfl rfl (by kernel_rfl) (by kernel_rfl) (by kernel_rfl) (fun _ _ _ h => h) (by assumption) (yieldsIf_load_mid (by rfl) _ _ rfl (P + 1 + 1) (0) rfl (entCells c) _ (fun w h => h.2.2.range 0 _ (fun j v hj => by simpa using hj)) hue rfl hie) ?_
  simp only [List.set_cons_zero, List.set_cons_succ]
  refine wpAnyH_takeL (i := 6) 16 (v := .agg (entCells a).toArray) rfl rfl (by kernel_rfl) (by kernel_rfl) (by kernel_rfl) (fun _ _ _ h => h) (by assumption) (yieldsIf_load_mid (by rfl) _ _ rfl P (0) rfl (entCells a) _ (fun w h => h.1.range 0 _ (fun j v hj => by simpa using hj)) hue rfl hie) ?_
  simp only [List.set_cons_zero, List.set_cons_succ]
  refine wpAnyH_takeL (i := 7) 17 (v := .agg (entCells c).toArray) rfl rfl (by kernel_rfl) (by kernel_rfl) (by kernel_rfl) (fun _ _ _ h => h) (by assumption) (yieldsIf_load_mid (by rfl) _ _ rfl (P + 1 + 1) (0) rfl (entCells c) _ (fun w h => h.2.2.range 0 _ (fun j v hj => by simpa using hj)) hue rfl hie) ?_
  simp only [List.set_cons_zero, List.set_cons_succ]
  refine wpAnyH_ready (rs := [2]) (by kernel_rfl) (by simp) ?_
  refine AllReadyH.cons (o := ⟨some 12, _, _, _, _, _⟩) rfl (fun K hK => ?_) (AllReadyH.nil)
  go_simp
  go_wp2_with (go_at_call 11; refine (C.compare a b _ HO.out.1 HO.out.2.1).mono ?_; rintro e r1 ⟨rfl, hf1⟩)
  have F1 : Hid (Fr Non w4 r1) := Lib.hid hf1
  clear hf1
  refine hK.out _ _ (⟨HP.out.non F1.out, HQ.out.non F1.out, HR.out.non F1.out⟩) (fun hHeld => ?_)
  clear hK K
  refine wpAnyH_ready (rs := [5]) (by kernel_rfl) (by simp) ?_
  refine AllReadyH.cons (o := ⟨some 15, _, _, _, _, _⟩) rfl (fun K hK => ?_) (AllReadyH.nil)
  go_simp
  go_wp2_with (go_at_call 11; refine (C.compare b c _ HO.out.2.1 HO.out.2.2).mono ?_; rintro e r2 ⟨rfl, hf2⟩)
  have F2 : Hid (Fr Non r1 r2) := Lib.hid hf2
  clear hf2
  refine hK.out _ _ (⟨HP.out.non (F1.out.non F2.out), HQ.out.non (F1.out.non F2.out), HR.out.non (F1.out.non F2.out)⟩) (fun hHeld => ?_)
  clear hK K
  refine wpAnyH_ready (rs := [8]) (by kernel_rfl) (by simp) ?_
  refine AllReadyH.cons (o := ⟨some 18, _, _, _, _, _⟩) rfl (fun K hK => ?_) (AllReadyH.nil)
  go_simp
  go_wp2_with (go_at_call 11; refine (C.compare a c _ HO.out.1 HO.out.2.2).mono ?_; rintro e r3 ⟨rfl, hf3⟩)
  have F3 : Hid (Fr Non r2 r3) := Lib.hid hf3
  clear hf3
  refine hK.out _ _ (⟨HP.out.non (F1.out.non (F2.out.non F3.out)), HQ.out.non (F1.out.non (F2.out.non F3.out)), HR.out.non (F1.out.non (F2.out.non F3.out))⟩) (fun hHeld => ?_)
  clear hK K
  refine wpAnyH_takeL (i := 9) 7 (v := ?_) rfl rfl (by kernel_rfl) (by kernel_rfl) (by kernel_rfl) (fun _ _ _ h => h) (by assumption) (Or.inl ⟨by rfl, ?_⟩) ?_
  rotate_left
  · intro w hSw; go_simp; (try with_reducible rfl)
  simp only [List.set_cons_zero, List.set_cons_succ]
  refine wpAnyH_takeL (i := 10) 8 (v := ?_) rfl rfl (by kernel_rfl) (by kernel_rfl) (by kernel_rfl) (fun _ _ _ h => h) (by assumption) (Or.inl ⟨by rfl, ?_⟩) ?_
  rotate_left
  · intro w hSw; go_simp; (try with_reducible rfl)
  simp only [List.set_cons_zero, List.set_cons_succ]
  refine wpAnyH_takeL (i := 11) 9 (v := ?_) rfl rfl (by kernel_rfl) (by kernel_rfl) (by kernel_rfl) (fun _ _ _ h => h) (by assumption) (Or.inl ⟨by rfl, ?_⟩) ?_
  rotate_left
  · intro w hSw; go_simp; (try with_reducible rfl)
  simp only [List.set_cons_zero, List.set_cons_succ]
  refine wpAnyH_done (by kernel_rfl) ?_ _
  have HF5 := Lib.hid (F0.out.non (F1.out.non (F2.out.non F3.out)))
  have HP5 := Lib.hid (HP.out.non (F1.out.non (F2.out.non F3.out)))
  have HQ5 := Lib.hid (HQ.out.non (F1.out.non (F2.out.non F3.out)))
  generalize r3 = w5 at HF5 HP5 HQ5 ⊢
  clear hHeld hS0 HP HQ HR F0 F1 F2 F3
  generalize entCmp a b = x at HX HXR HXZ HXS ⊢
  generalize entCmp b c = y at HX HXR ⊢
  generalize entCmp a c = z at HX HXR ⊢
  obtain ⟨n1, n2⟩ := neg_neg_in x HXR.out.1
  obtain ⟨c0, c1, c2, c3⟩ := entCells_at HP5.out
  obtain ⟨d0, d1, d2, d3⟩ := entCells_at HQ5.out
  go_wp2_with fail
  refine (C.compare b a w5 HO.out.2.1 HO.out.1).mono ?_
  rw [HXS.out]
  rintro e w6 ⟨rfl, hf6⟩
  have HF6 := Lib.hid (HF5.out.non hf6)
  have HP6 := Lib.hid (HP5.out.non hf6)
  have HQ6 := Lib.hid (HQ5.out.non hf6)
  clear hf6 HF5 HP5 HQ5 c0 c1 c2 c3 d0 d1 d2 d3
  obtain ⟨c0, c1, c2, c3⟩ := entCells_at HP6.out
  go_wp2_with fail
  refine (C.compare a a w6 HO.out.1 HO.out.1).mono ?_
  rw [entCmp_self]
  rintro e w7 ⟨rfl, hf7⟩
  have HF7 := Lib.hid (HF6.out.non hf7)
  have HP7 := Lib.hid (HP6.out.non hf7)
  have HQ7 := Lib.hid (HQ6.out.non hf7)
  clear hf7 HF6 HP6 HQ6 c0 c1 c2 c3 HXS n1 n2
  by_cases hxz : x = 0
  · obtain ⟨hu, hs, hkd⟩ := HXZ.out.mp hxz
    clear HXZ
    subst hxz
    by_cases hy : y ≤ 0
    · obtain ⟨hz, hzz⟩ := HX.out (Int.le_refl _) hy
      by_cases hz0 : z = 0
      · obtain ⟨-, hy0⟩ := hzz hz0
        subst hz0 hy0
        clear hzz hz
        go_wp2_with fail
        refine (shown8_any C w7).mono ?_
        rintro e w8 ⟨rfl, hf8⟩
        have HF8 := Lib.hid (HF7.out.non hf8)
        obtain ⟨c0, c1, c2, c3⟩ := entCells_at (HP7.out.non hf8)
        obtain ⟨d0, d1, d2, d3⟩ := entCells_at (HQ7.out.non hf8)
        clear hf8 HF7 HP7 HQ7
        rw [← hu] at d0
        rw [← hs] at d1
        rw [← hkd] at d2
        clear hu hs hkd
        go_wp2_with fail
        go_ret
        exact ⟨rfl, HF8.out⟩
      · have iz : (z == 0) = false := by simpa using hz0
        clear hzz
        go_wp2_with fail
        refine (shown8_any C w7).mono ?_
        rintro e w8 ⟨rfl, hf8⟩
        have HF8 := Lib.hid (HF7.out.non hf8)
        obtain ⟨c0, c1, c2, c3⟩ := entCells_at (HP7.out.non hf8)
        obtain ⟨d0, d1, d2, d3⟩ := entCells_at (HQ7.out.non hf8)
        clear hf8 HF7 HP7 HQ7
        rw [← hu] at d0
        rw [← hs] at d1
        rw [← hkd] at d2
        clear hu hs hkd
        go_wp2_with fail
        go_ret
        exact ⟨rfl, HF8.out⟩
    · clear HX
      go_wp2_with fail
      refine (shown8_any C w7).mono ?_
      rintro e w8 ⟨rfl, hf8⟩
      have HF8 := Lib.hid (HF7.out.non hf8)
      obtain ⟨c0, c1, c2, c3⟩ := entCells_at (HP7.out.non hf8)
      obtain ⟨d0, d1, d2, d3⟩ := entCells_at (HQ7.out.non hf8)
      clear hf8 HF7 HP7 HQ7
      rw [← hu] at d0
      rw [← hs] at d1
      rw [← hkd] at d2
      clear hu hs hkd
      go_wp2_with fail
      go_ret
      exact ⟨rfl, HF8.out⟩
  · have ix : (x == 0) = false := by simpa using hxz
    have hne : ¬ (a.user = b.user ∧ a.seq = b.seq ∧ a.kind = b.kind) := fun h => hxz (HXZ.out.mpr h)
    by_cases hu : a.user = b.user
    · have iu : (a.user.toList == b.user.toList) = true := by rw [hu]; simp
      by_cases hs : a.seq = b.seq
      · have is : ((a.seq : Int) == (b.seq : Int)) = true := by rw [hs]; simp
        have ik : ((a.kind : Int) == (b.kind : Int)) = false := int_ne (fun h => hne ⟨hu, hs, h⟩)
        clear HXZ hne hu hs
        by_cases hx : x ≤ 0
        · by_cases hy : y ≤ 0
          · obtain ⟨hz, hzz⟩ := HX.out hx hy
            by_cases hz0 : z = 0
            · obtain ⟨hx0, hy0⟩ := hzz hz0
              exact absurd hx0 hxz
            · have iz : (z == 0) = false := by simpa using hz0
              clear hzz
              go_wp2_with fail
              refine (shown8_any C w7).mono ?_
              rintro e w8 ⟨rfl, hf8⟩
              have HF8 := Lib.hid (HF7.out.non hf8)
              obtain ⟨c0, c1, c2, c3⟩ := entCells_at (HP7.out.non hf8)
              obtain ⟨d0, d1, d2, d3⟩ := entCells_at (HQ7.out.non hf8)
              clear hf8 HF7 HP7 HQ7
              go_wp2_with fail
              go_ret
              exact ⟨rfl, HF8.out⟩
          · clear HX
            go_wp2_with fail
            refine (shown8_any C w7).mono ?_
            rintro e w8 ⟨rfl, hf8⟩
            have HF8 := Lib.hid (HF7.out.non hf8)
            obtain ⟨c0, c1, c2, c3⟩ := entCells_at (HP7.out.non hf8)
            obtain ⟨d0, d1, d2, d3⟩ := entCells_at (HQ7.out.non hf8)
            clear hf8 HF7 HP7 HQ7
            go_wp2_with fail
            go_ret
            exact ⟨rfl, HF8.out⟩
        · clear HX
          go_wp2_with fail
          refine (shown8_any C w7).mono ?_
          rintro e w8 ⟨rfl, hf8⟩
          have HF8 := Lib.hid (HF7.out.non hf8)
          obtain ⟨c0, c1, c2, c3⟩ := entCells_at (HP7.out.non hf8)
          obtain ⟨d0, d1, d2, d3⟩ := entCells_at (HQ7.out.non hf8)
          clear hf8 HF7 HP7 HQ7
          go_wp2_with fail
          go_ret
          exact ⟨rfl, HF8.out⟩
      · have is : ((a.seq : Int) == (b.seq : Int)) = false := int_ne hs
        clear HXZ hne hu hs
        by_cases hx : x ≤ 0
        · by_cases hy : y ≤ 0
          · obtain ⟨hz, hzz⟩ := HX.out hx hy
            by_cases hz0 : z = 0
            · obtain ⟨hx0, hy0⟩ := hzz hz0
              exact absurd hx0 hxz
            · have iz : (z == 0) = false := by simpa using hz0
              clear hzz
              go_wp2_with fail
              refine (shown8_any C w7).mono ?_
              rintro e w8 ⟨rfl, hf8⟩
              have HF8 := Lib.hid (HF7.out.non hf8)
              obtain ⟨c0, c1, c2, c3⟩ := entCells_at (HP7.out.non hf8)
              obtain ⟨d0, d1, d2, d3⟩ := entCells_at (HQ7.out.non hf8)
              clear hf8 HF7 HP7 HQ7
              go_wp2_with fail
              go_ret
              exact ⟨rfl, HF8.out⟩
          · clear HX
            go_wp2_with fail
            refine (shown8_any C w7).mono ?_
            rintro e w8 ⟨rfl, hf8⟩
            have HF8 := Lib.hid (HF7.out.non hf8)
            obtain ⟨c0, c1, c2, c3⟩ := entCells_at (HP7.out.non hf8)
            obtain ⟨d0, d1, d2, d3⟩ := entCells_at (HQ7.out.non hf8)
            clear hf8 HF7 HP7 HQ7
            go_wp2_with fail
            go_ret
            exact ⟨rfl, HF8.out⟩
        · clear HX
          go_wp2_with fail
          refine (shown8_any C w7).mono ?_
          rintro e w8 ⟨rfl, hf8⟩
          have HF8 := Lib.hid (HF7.out.non hf8)
          obtain ⟨c0, c1, c2, c3⟩ := entCells_at (HP7.out.non hf8)
          obtain ⟨d0, d1, d2, d3⟩ := entCells_at (HQ7.out.non hf8)
          clear hf8 HF7 HP7 HQ7
          go_wp2_with fail
          go_ret
          exact ⟨rfl, HF8.out⟩
    · have iu : (a.user.toList == b.user.toList) = false := beq_toList_ne' hu
      clear HXZ hne hu
      by_cases hx : x ≤ 0
      · by_cases hy : y ≤ 0
        · obtain ⟨hz, hzz⟩ := HX.out hx hy
          by_cases hz0 : z = 0
          · obtain ⟨hx0, hy0⟩ := hzz hz0
            exact absurd hx0 hxz
          · have iz : (z == 0) = false := by simpa using hz0
            clear hzz
            go_wp2_with fail
            refine (shown8_any C w7).mono ?_
            rintro e w8 ⟨rfl, hf8⟩
            have HF8 := Lib.hid (HF7.out.non hf8)
            obtain ⟨c0, c1, c2, c3⟩ := entCells_at (HP7.out.non hf8)
            obtain ⟨d0, d1, d2, d3⟩ := entCells_at (HQ7.out.non hf8)
            clear hf8 HF7 HP7 HQ7
            go_wp2_with fail
            go_ret
            exact ⟨rfl, HF8.out⟩
        · clear HX
          go_wp2_with fail
          refine (shown8_any C w7).mono ?_
          rintro e w8 ⟨rfl, hf8⟩
          have HF8 := Lib.hid (HF7.out.non hf8)
          obtain ⟨c0, c1, c2, c3⟩ := entCells_at (HP7.out.non hf8)
          obtain ⟨d0, d1, d2, d3⟩ := entCells_at (HQ7.out.non hf8)
          clear hf8 HF7 HP7 HQ7
          go_wp2_with fail
          go_ret
          exact ⟨rfl, HF8.out⟩
      · clear HX
        go_wp2_with fail
        refine (shown8_any C w7).mono ?_
        rintro e w8 ⟨rfl, hf8⟩
        have HF8 := Lib.hid (HF7.out.non hf8)
        obtain ⟨c0, c1, c2, c3⟩ := entCells_at (HP7.out.non hf8)
        obtain ⟨d0, d1, d2, d3⟩ := entCells_at (HQ7.out.non hf8)
        clear hf8 HF7 HP7 HQ7
        go_wp2_with fail
        go_ret
        exact ⟨rfl, HF8.out⟩
end Go.Proofs.Yteokfgdennjjiaa
