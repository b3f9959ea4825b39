/- package ikey: inner keys -/
import Derived.Test.YteokfgdennjjiaaEntCells
import Derived.Test.YteokfgdennjjiaaCodecFix
import Derived.Test.YteokfgdennjjiaaHeld
import Derived.Deep.RegionHeld3
import Derived.Deep.CutBlock
import Derived.Deep.DeepCutAuto
import Derived.Lib.SlBytesConst
namespace Go.Proofs.Yteokfgdennjjiaa
open Go.ChangeShapes Go.WideShapes Go.ChangeAt Go.RowKit

set_option maxRecDepth 100000 in
set_option maxHeartbeats 4000000 in
theorem entLayC_any (e : Ent) (w : World) (hk : e.ok) : Calls Try.prog 15 #[.agg (entCells e).toArray] w fun r w' => r = .returned (.string (entLay e)) ∧ Fr Non w w' := by
  obtain ⟨u, s, k, v⟩ := e
  have hs : s < 18446744073709551616 := hk.1
  have hkk : k < 256 := hk.2.1
  have hul : u.size ≤ 140737488351232 := hk.2.2.1
  have E : entLay ⟨u, s, k, v⟩ = u ++ ⟨(fixF 8 (entNum ⟨u, s, k, v⟩)).toArray⟩ := rfl
  have hN : entNum ⟨u, s, k, v⟩ = (s * 256 + k) % 18446744073709551616 := rfl
  have hNl : entNum ⟨u, s, k, v⟩ < 18446744073709551616 := Nat.mod_lt _ (by omega)
  generalize entNum ⟨u, s, k, v⟩ = N at E hN hNl
  obtain ⟨m1, hm1⟩ : ∃ m1, m1 = s * 256 % 18446744073709551616 := ⟨_, rfl⟩
  have em : IntKind.u64.wrap ((s : Int) * 256) = (m1 : Int) := by rw [u64_wrap]; omega
  have ek : IntKind.u64.wrap (k : Int) = (k : Int) := by rw [u64_wrap]; omega
  have ea : IntKind.u64.wrap ((m1 : Int) + (k : Int)) = (N : Int) := by rw [u64_wrap]; omega
  have HE := Lib.hid E
  have HN := Lib.hid hNl
  clear hk hs hkk hm1 E hN hNl
  go_enter Try.func15, Try.ntmps15
  go_upto_region 1 with (fail)
  have hb1 := Blk.new w 24 (entCells ⟨u, s, k, v⟩)
  have hf1 := Fr.alloc w (.cells (entCells ⟨u, s, k, v⟩).toArray 24)
  obtain ⟨P, hP⟩ : ∃ P, P = w.heap.size := ⟨_, rfl⟩
  rw [← hP] at hb1 ⊢
  generalize w.alloc (.cells (entCells ⟨u, s, k, v⟩).toArray 24) = w1 at hb1 hf1 ⊢
  have HB := Lib.hid (hb1.non (Fr.drew _))
  have F0 := Lib.hid (hf1.non (Fr.drew _))
  have hS0 : (fun w' : World => w'.cell? ⟨P, 0, none⟩ = some (.string u) ∧ w'.cell? ⟨P, 1, none⟩ = some (.int .u64 s) ∧ w'.cell? ⟨P, 2, none⟩ = some (.int .u8 k)) w1.drew := ⟨(entCells_at HB.out).1, (entCells_at HB.out).2.1, (entCells_at HB.out).2.2.1⟩
  clear hb1 hf1 hP
  refine wp_region_held_drew (S := fun w' : World => w'.cell? ⟨P, 0, none⟩ = some (.string u) ∧ w'.cell? ⟨P, 1, none⟩ = some (.int .u64 s) ∧ w'.cell? ⟨P, 2, none⟩ = some (.int .u8 k)) (by kernel_rfl) hS0 (fun hHeld => ?_)
  generalize w1.drew = w4 at HB F0 hS0 hHeld ⊢
  refine wpAnyH_takeL (i := 0) 3 (v := ?_) rfl rfl (by kernel_rfl) (by kernel_rfl) (by kernel_rfl) (fun _ _ _ h => h) (by assumption) (Or.inl ⟨by rfl, ?_⟩) ?_
  rotate_left
  · intro w hSw; go_simp; (try with_reducible rfl)
  simp only [List.set_cons_zero, List.set_cons_succ]
  refine wpAnyH_takeL (i := 1) 4 (v := ?_) rfl rfl (by kernel_rfl) (by kernel_rfl) (by kernel_rfl) (fun _ _ _ h => h) (by assumption) (Or.inl ⟨by rfl, ?_⟩) ?_
  rotate_left
  · intro w hSw; go_simp; (try with_reducible rfl)
  simp only [List.set_cons_zero, List.set_cons_succ]
  refine wpAnyH_takeL (i := 2) 5 (v := ?_) rfl rfl (by kernel_rfl) (by kernel_rfl) (by kernel_rfl) (fun _ _ _ h => h) (by assumption) (Or.inl ⟨by rfl, ?_⟩) ?_
  rotate_left
  · intro w hSw; go_simp; (try with_reducible rfl)
  simp only [List.set_cons_zero, List.set_cons_succ]
  refine wpAnyH_takeL (i := 3) 6 (v := ?_) rfl rfl (by kernel_rfl) (by kernel_rfl) (by kernel_rfl) (fun _ _ _ h => h) (by assumption) (Or.inl ⟨by rfl, ?_⟩) ?_
  rotate_left
  · intro w hSw; go_simp; (try with_reducible rfl)
  simp only [List.set_cons_zero, List.set_cons_succ]
  refine wpAnyH_takeL (i := 4) 7 (v := ?_) rfl rfl (by kernel_rfl) (by kernel_rfl) (by kernel_rfl) (fun _ _ _ h => h) (by assumption) (Or.inl ⟨by rfl, ?_⟩) ?_
  rotate_left
  · intro w hSw; go_simp; (try with_reducible rfl)
  simp only [List.set_cons_zero, List.set_cons_succ]
  refine wpAnyH_takeL (i := 5) 8 (v := ?_) rfl rfl (by kernel_rfl) (by kernel_rfl) (by kernel_rfl) (fun _ _ _ h => h) (by assumption) (Or.inl ⟨by rfl, ?_⟩) ?_
  rotate_left
  · intro w hSw; go_simp; (try with_reducible rfl)
  simp only [List.set_cons_zero, List.set_cons_succ]
  refine wpAnyH_takeL (i := 6) 9 (v := ?_) rfl rfl (by kernel_rfl) (by kernel_rfl) (by kernel_rfl) (fun _ _ _ h => h) (by assumption) (Or.inl ⟨by rfl, ?_⟩) ?_
  rotate_left
  · intro w hSw; go_simp; (try with_reducible rfl)
  simp only [List.set_cons_zero, List.set_cons_succ]
  refine wpAnyH_takeL (i := 7) 10 (v := ?_) rfl rfl (by kernel_rfl) (by kernel_rfl) (by kernel_rfl) (fun _ _ _ h => h) (by assumption) (Or.inl ⟨by rfl, ?_⟩) ?_
  rotate_left
  · intro w hSw; go_simp; (try with_reducible rfl)
  simp only [List.set_cons_zero, List.set_cons_succ]
  refine wpAnyH_takeL (i := 8) 11 (v := ?_) rfl rfl (by kernel_rfl) (by kernel_rfl) (by kernel_rfl) (fun _ _ _ h => h) (by assumption) (Or.inl ⟨by rfl, ?_⟩) ?_
  rotate_left
  · intro w hSw; go_simp; (try with_reducible rfl)
  simp only [List.set_cons_zero, List.set_cons_succ]
  refine wpAnyH_ready (rs := [9]) (by kernel_rfl) (by simp) ?_
  refine AllReadyH.cons (o := ⟨some 12, _, _, _, _, _⟩) rfl (fun K hK => ?_) (AllReadyH.nil)
  go_simp
  go_wp2_with (go_at_call 28; refine (Fix_any _ [] N 8 _ (by exact Row.nil _) HN.out (by simp)).mono ?_; rintro e r1 ⟨v9, rfl, ho9, hf1⟩)
  rw [show clamp8 8 = 8 from rfl, List.nil_append] at ho9
  have HR9 := Lib.hid ho9.row
  clear ho9
  have F1 : Hid (Fr Non w4 r1) := Lib.hid hf1
  clear hf1
  refine hK.out _ _ (⟨(entCells_at (HB.out.non F1.out)).1, (entCells_at (HB.out.non F1.out)).2.1, (entCells_at (HB.out.non F1.out)).2.2.1⟩) (fun hHeld => ?_)
  clear hK K
  refine wpAnyH_ready (rs := [10]) (by kernel_rfl) (by simp) ?_
  refine AllReadyH.cons (o := ⟨some 13, _, _, _, _, _⟩) rfl (fun K hK => ?_) (AllReadyH.nil)
  have hxs := run_str (P := Try.prog) r1 43 9 5 _ _ HR9.out Try.underlying43 Try.underlying5 Try.underlying9
  have hD := fix8_size N
  generalize (⟨(fixF 8 N).toArray⟩ : ByteArray) = D at hxs HE hD
  have hz : ¬ 9223372036854775807 < u.size + D.size := by omega
  clear hD
  go_simp
  clear hxs
  refine hK.out _ _ (⟨(entCells_at (HB.out.non F1.out)).1, (entCells_at (HB.out.non F1.out)).2.1, (entCells_at (HB.out.non F1.out)).2.2.1⟩) (fun hHeld => ?_)
  clear hK K
  refine wpAnyH_takeL (i := 11) 14 (v := ?_) rfl rfl (by kernel_rfl) (by kernel_rfl) (by kernel_rfl) (fun _ _ _ h => h) (by assumption) (Or.inl ⟨by rfl, ?_⟩) ?_
  rotate_left
  · intro w hSw; go_simp; (try with_reducible rfl)
  simp only [List.set_cons_zero, List.set_cons_succ]
  refine wpAnyH_takeL (i := 12) 2 (v := ?_) rfl rfl (by kernel_rfl) (by kernel_rfl) (by kernel_rfl) (fun _ _ _ h => h) (by assumption) (Or.inl ⟨by rfl, ?_⟩) ?_
  rotate_left
  · intro w hSw; go_simp; (try with_reducible rfl)
  simp only [List.set_cons_zero, List.set_cons_succ]
  refine wpAnyH_done (by kernel_rfl) ?_ _
  go_wp2_with fail
  go_ret
  exact ⟨by rw [HE.out]; rfl, F0.out.non F1.out⟩
end Go.Proofs.Yteokfgdennjjiaa
