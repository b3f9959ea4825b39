/- layer 8: which entry may be, which stands ahead, its inner key -/
import Derived.Test.YteokfgdennjjiaaLaw08A
import Derived.Test.YteokfgdennjjiaaIkeyRefB
import Derived.Test.YteokfgdennjjiaaIkeyRefL
import Derived.Deep.RegionHeld3
import Derived.Deep.CutBlock
import Derived.Deep.DeepCutAuto
import Derived.Lib.SlBytesConst
namespace Go.Proofs.Yteokfgdennjjiaa
open Go.ChangeShapes Go.WideShapes Go.ChangeAt Go.RowKit

set_option maxRecDepth 100000 in
set_option maxHeartbeats 4000000 in
/-- P8.1 to P8.3 -/
theorem compares8_any (C : IkeyC) (W : World) (a b : Ent) (ha : a.ok) (hb : b.ok) : Calls Try.prog 3 #[.agg (entCells a).toArray, .agg (entCells b).toArray] W fun e W' => e = .returned (.bool true) ∧ Fr Non W W' := by
  have HA := Lib.hid ha
  have HB := Lib.hid hb
  have hie : (Try.prog.info? 24).map (·.size) = some 4 := by kernel_rfl
  have hue := Try.underlying24
  clear ha hb
  go_enter Try.func3, Try.ntmps3
  go_upto_region 1 with (fail)
  have hb1 := Blk.new W 24 (entCells a)
  have hf1 := Fr.alloc W (.cells (entCells a).toArray 24)
  have hs1 : (W.alloc (.cells (entCells a).toArray 24)).heap.size = W.heap.size + 1 := by simp
  generalize W.alloc (.cells (entCells a).toArray 24) = w0 at hb1 hf1 hs1 ⊢
  have hb2 := Blk.new w0 24 (entCells b)
  have hf2 := Fr.alloc w0 (.cells (entCells b).toArray 24)
  generalize w0.alloc (.cells (entCells b).toArray 24) = w1 at hb2 hf2 ⊢
  rw [hs1] at hb2
  obtain ⟨P, hP⟩ : ∃ P, P = W.heap.size := ⟨_, rfl⟩
  rw [← hP] at hb1 hb2 ⊢
  have HP := Lib.hid ((hb1.non hf2).non (Fr.drew _))
  have HQ := Lib.hid (hb2.non (Fr.drew _))
  have F0 := Lib.hid ((hf1.non hf2).non (Fr.drew _))
  have hS0 : (fun w' : World => Blk w' P 24 (entCells a) ∧ Blk w' (P + 1) 24 (entCells b)) w1.drew := ⟨HP.out, HQ.out⟩
  clear hb1 hb2 hf1 hf2 hs1 hP
  refine wp_region_held_drew (S := fun w' : World => Blk w' P 24 (entCells a) ∧ Blk w' (P + 1) 24 (entCells b)) (by kernel_rfl) hS0 (fun hHeld => ?_)
  generalize w1.drew = w4 at HP HQ F0 hS0 hHeld ⊢
  refine wpAnyH_ready (rs := [0]) (by kernel_rfl) (by simp) ?_
  refine AllReadyH.cons (o := ⟨some 5, _, _, _, _, _⟩) rfl (fun K hK => ?_) (AllReadyH.nil)
  go_simp
  go_wp2_with (go_at_call 10; refine (shown8_any C _).mono ?_; rintro e r1 ⟨rfl, hf1⟩)
  have F1 : Hid (Fr Non w4 r1) := Lib.hid hf1
  clear hf1
  refine hK.out _ _ (⟨HP.out.non F1.out, HQ.out.non F1.out⟩) (fun hHeld => ?_)
  clear hK K
  refine wpAnyH_takeL (i := 1) 6 (v := ?_) rfl rfl (by kernel_rfl) (by kernel_rfl) (by kernel_rfl) (fun _ _ _ h => h) (by assumption) (Or.inl ⟨by rfl, ?_⟩) ?_
  rotate_left
  · intro w hSw; go_simp; (try with_reducible rfl)
  simp only [List.set_cons_zero, List.set_cons_succ]
  refine wpAnyH_takeL (i := 2) 7 (v := .agg (entCells a).toArray) rfl rfl (by kernel_rfl) (by kernel_rfl) (by kernel_rfl) (fun _ _ _ h => h) (by assumption) (yieldsIf_load_mid (by rfl) _ _ rfl P (0) rfl (entCells a) _ (fun w h => h.1.range 0 _ (fun j v hj => by simpa using hj)) hue rfl hie) ?_
  simp only [List.set_cons_zero, List.set_cons_succ]
  refine wpAnyH_takeL (i := 3) 8 (v := .agg (entCells b).toArray) rfl rfl (by kernel_rfl) (by kernel_rfl) (by kernel_rfl) (fun _ _ _ h => h) (by assumption) (yieldsIf_load_mid (by rfl) _ _ rfl (P + 1) (0) rfl (entCells b) _ (fun w h => h.2.range 0 _ (fun j v hj => by simpa using hj)) hue rfl hie) ?_
  simp only [List.set_cons_zero, List.set_cons_succ]
  refine wpAnyH_takeL (i := 5) 10 (v := .agg (entCells a).toArray) rfl rfl (by kernel_rfl) (by kernel_rfl) (by kernel_rfl) (fun _ _ _ h => h) (by assumption) (yieldsIf_load_mid (by rfl) _ _ rfl P (0) rfl (entCells a) _ (fun w h => h.1.range 0 _ (fun j v hj => by simpa using hj)) hue rfl hie) ?_
  simp only [List.set_cons_zero, List.set_cons_succ]
  refine wpAnyH_takeL (i := 6) 11 (v := .agg (entCells b).toArray) rfl rfl (by kernel_rfl) (by kernel_rfl) (by kernel_rfl) (fun _ _ _ h => h) (by assumption) (yieldsIf_load_mid (by rfl) _ _ rfl (P + 1) (0) rfl (entCells b) _ (fun w h => h.2.range 0 _ (fun j v hj => by simpa using hj)) hue rfl hie) ?_
  simp only [List.set_cons_zero, List.set_cons_succ]
  refine wpAnyH_ready (rs := [4]) (by kernel_rfl) (by simp) ?_
  refine AllReadyH.cons (o := ⟨some 9, _, _, _, _, _⟩) rfl (fun K hK => ?_) (AllReadyH.nil)
  go_simp
  go_wp2_with (go_at_call 11; refine (C.compare a b _ HA.out HB.out).mono ?_; rintro e r2 ⟨rfl, hf2⟩)
  have F2 : Hid (Fr Non r1 r2) := Lib.hid hf2
  clear hf2
  generalize hz : entCmp a b = z
  have HZ := Lib.hid hz
  clear hz
  refine hK.out _ _ (⟨HP.out.non (F1.out.non F2.out), HQ.out.non (F1.out.non F2.out)⟩) (fun hHeld => ?_)
  clear hK K
  refine wpAnyH_ready (rs := [7]) (by kernel_rfl) (by simp) ?_
  refine AllReadyH.cons (o := ⟨some 12, _, _, _, _, _⟩) rfl (fun K hK => ?_) (AllReadyH.nil)
  go_simp
  go_wp2_with (go_at_call 12; refine (refEntCmp_any a b _).mono ?_; rintro e r3 ⟨rfl, hf3⟩)
  have F3 : Hid (Fr Non r2 r3) := Lib.hid hf3
  clear hf3
  rw [HZ.out]
  refine hK.out _ _ (⟨HP.out.non (F1.out.non (F2.out.non F3.out)), HQ.out.non (F1.out.non (F2.out.non F3.out))⟩) (fun hHeld => ?_)
  clear hK K
  refine wpAnyH_takeL (i := 8) 13 (v := ?_) rfl rfl (by kernel_rfl) (by kernel_rfl) (by kernel_rfl) (fun _ _ _ h => h) (by assumption) (Or.inl ⟨by rfl, ?_⟩) ?_
  rotate_left
  · intro w hSw; go_simp; (try with_reducible rfl)
  simp only [List.set_cons_zero, List.set_cons_succ]
  refine wpAnyH_takeL (i := 9) 14 (v := ?_) rfl rfl (by kernel_rfl) (by kernel_rfl) (by kernel_rfl) (fun _ _ _ h => h) (by assumption) (Or.inl ⟨by rfl, ?_⟩) ?_
  rotate_left
  · intro w hSw; go_simp; (try with_reducible rfl)
  simp only [List.set_cons_zero, List.set_cons_succ]
  refine wpAnyH_takeL (i := 10) 15 (v := ?_) rfl rfl (by kernel_rfl) (by kernel_rfl) (by kernel_rfl) (fun _ _ _ h => h) (by assumption) (Or.inl ⟨by rfl, ?_⟩) ?_
  rotate_left
  · intro w hSw; go_simp; (try with_reducible rfl)
  simp only [List.set_cons_zero, List.set_cons_succ]
  refine wpAnyH_takeL (i := 11) 16 (v := .agg (entCells a).toArray) rfl rfl (by kernel_rfl) (by kernel_rfl) (by kernel_rfl) (fun _ _ _ h => h) (by assumption) (yieldsIf_load_mid (by rfl) _ _ rfl P (0) rfl (entCells a) _ (fun w h => h.1.range 0 _ (fun j v hj => by simpa using hj)) hue rfl hie) ?_
  simp only [List.set_cons_zero, List.set_cons_succ]
  refine wpAnyH_takeL (i := 13) 18 (v := .agg (entCells a).toArray) rfl rfl (by kernel_rfl) (by kernel_rfl) (by kernel_rfl) (fun _ _ _ h => h) (by assumption) (yieldsIf_load_mid (by rfl) _ _ rfl P (0) rfl (entCells a) _ (fun w h => h.1.range 0 _ (fun j v hj => by simpa using hj)) hue rfl hie) ?_
  simp only [List.set_cons_zero, List.set_cons_succ]
  refine wpAnyH_ready (rs := [12]) (by kernel_rfl) (by simp) ?_
  refine AllReadyH.cons (o := ⟨some 17, _, _, _, _, _⟩) rfl (fun K hK => ?_) (AllReadyH.nil)
  go_simp
  go_wp2_with (go_at_call 13; refine (C.right a _ HA.out).mono ?_; rintro e r4 ⟨rfl, hf4⟩)
  have F4 : Hid (Fr Non r3 r4) := Lib.hid hf4
  clear hf4
  generalize hz : entRight a = rb
  have HRB := Lib.hid hz
  clear hz
  refine hK.out _ _ (⟨HP.out.non (F1.out.non (F2.out.non (F3.out.non F4.out))), HQ.out.non (F1.out.non (F2.out.non (F3.out.non F4.out)))⟩) (fun hHeld => ?_)
  clear hK K
  refine wpAnyH_ready (rs := [14]) (by kernel_rfl) (by simp) ?_
  refine AllReadyH.cons (o := ⟨some 19, _, _, _, _, _⟩) rfl (fun K hK => ?_) (AllReadyH.nil)
  go_simp
  go_wp2_with (go_at_call 14; refine (refEntRight_any a _).mono ?_; rintro e r5 ⟨rfl, hf5⟩)
  have F5 : Hid (Fr Non r4 r5) := Lib.hid hf5
  clear hf5
  rw [HRB.out]
  refine hK.out _ _ (⟨HP.out.non (F1.out.non (F2.out.non (F3.out.non (F4.out.non F5.out)))), HQ.out.non (F1.out.non (F2.out.non (F3.out.non (F4.out.non F5.out))))⟩) (fun hHeld => ?_)
  clear hK K
  refine wpAnyH_takeL (i := 15) 20 (v := ?_) rfl rfl (by kernel_rfl) (by kernel_rfl) (by kernel_rfl) (fun _ _ _ h => h) (by assumption) (Or.inl ⟨by rfl, ?_⟩) ?_
  rotate_left
  · intro w hSw; go_simp; (try with_reducible rfl)
  simp only [List.set_cons_zero, List.set_cons_succ]
  refine wpAnyH_takeL (i := 16) 21 (v := ?_) rfl rfl (by kernel_rfl) (by kernel_rfl) (by kernel_rfl) (fun _ _ _ h => h) (by assumption) (Or.inl ⟨by rfl, ?_⟩) ?_
  rotate_left
  · intro w hSw; go_simp; (try with_reducible rfl)
  simp only [List.set_cons_zero, List.set_cons_succ]
  refine wpAnyH_takeL (i := 17) 22 (v := ?_) rfl rfl (by kernel_rfl) (by kernel_rfl) (by kernel_rfl) (fun _ _ _ h => h) (by assumption) (Or.inl ⟨by rfl, ?_⟩) ?_
  rotate_left
  · intro w hSw; go_simp; (try with_reducible rfl)
  simp only [List.set_cons_zero, List.set_cons_succ]
  refine wpAnyH_takeL (i := 18) 23 (v := .agg (entCells a).toArray) rfl rfl (by kernel_rfl) (by kernel_rfl) (by kernel_rfl) (fun _ _ _ h => h) (by assumption) (yieldsIf_load_mid (by rfl) _ _ rfl P (0) rfl (entCells a) _ (fun w h => h.1.range 0 _ (fun j v hj => by simpa using hj)) hue rfl hie) ?_
  simp only [List.set_cons_zero, List.set_cons_succ]
  refine wpAnyH_takeL (i := 20) 25 (v := .agg (entCells a).toArray) rfl rfl (by kernel_rfl) (by kernel_rfl) (by kernel_rfl) (fun _ _ _ h => h) (by assumption) (yieldsIf_load_mid (by rfl) _ _ rfl P (0) rfl (entCells a) _ (fun w h => h.1.range 0 _ (fun j v hj => by simpa using hj)) hue rfl hie) ?_
  simp only [List.set_cons_zero, List.set_cons_succ]
  refine wpAnyH_ready (rs := [19]) (by kernel_rfl) (by simp) ?_
  refine AllReadyH.cons (o := ⟨some 24, _, _, _, _, _⟩) rfl (fun K hK => ?_) (AllReadyH.nil)
  go_simp
  go_wp2_with (go_at_call 15; refine (C.lay a _ HA.out).mono ?_; rintro e r6 ⟨rfl, hf6⟩)
  have F6 : Hid (Fr Non r5 r6) := Lib.hid hf6
  clear hf6
  generalize hz : entLay a = D
  have HD := Lib.hid hz
  clear hz
  refine hK.out _ _ (⟨HP.out.non (F1.out.non (F2.out.non (F3.out.non (F4.out.non (F5.out.non F6.out))))), HQ.out.non (F1.out.non (F2.out.non (F3.out.non (F4.out.non (F5.out.non F6.out)))))⟩) (fun hHeld => ?_)
  clear hK K
  refine wpAnyH_ready (rs := [21]) (by kernel_rfl) (by simp) ?_
  refine AllReadyH.cons (o := ⟨some 26, _, _, _, _, _⟩) rfl (fun K hK => ?_) (AllReadyH.nil)
  go_simp
  go_wp2_with (go_at_call 16; refine (refEntLay_any a _ HA.out).mono ?_; rintro e r7 ⟨rfl, hf7⟩)
  have F7 : Hid (Fr Non r6 r7) := Lib.hid hf7
  clear hf7
  rw [HD.out]
  refine hK.out _ _ (⟨HP.out.non (F1.out.non (F2.out.non (F3.out.non (F4.out.non (F5.out.non (F6.out.non F7.out)))))), HQ.out.non (F1.out.non (F2.out.non (F3.out.non (F4.out.non (F5.out.non (F6.out.non F7.out))))))⟩) (fun hHeld => ?_)
  clear hK K
  refine wpAnyH_takeL (i := 22) 27 (v := ?_) rfl rfl (by kernel_rfl) (by kernel_rfl) (by kernel_rfl) (fun _ _ _ h => h) (by assumption) (Or.inl ⟨by rfl, ?_⟩) ?_
  rotate_left
  · intro w hSw; go_simp; (try with_reducible rfl)
  simp only [List.set_cons_zero, List.set_cons_succ]
  refine wpAnyH_takeL (i := 23) 28 (v := ?_) rfl rfl (by kernel_rfl) (by kernel_rfl) (by kernel_rfl) (fun _ _ _ h => h) (by assumption) (Or.inl ⟨by rfl, ?_⟩) ?_
  rotate_left
  · intro w hSw; go_simp; (try with_reducible rfl)
  simp only [List.set_cons_zero, List.set_cons_succ]
  refine wpAnyH_takeL (i := 24) 4 (v := ?_) rfl rfl (by kernel_rfl) (by kernel_rfl) (by kernel_rfl) (fun _ _ _ h => h) (by assumption) (Or.inl ⟨by rfl, ?_⟩) ?_
  rotate_left
  · intro w hSw; go_simp; (try with_reducible rfl)
  simp only [List.set_cons_zero, List.set_cons_succ]
  refine wpAnyH_done (by kernel_rfl) ?_ _
  go_wp2_with fail
  go_ret
  exact ⟨rfl, F0.out.non (F1.out.non (F2.out.non (F3.out.non (F4.out.non (F5.out.non (F6.out.non F7.out))))))⟩
end Go.Proofs.Yteokfgdennjjiaa
